import PyProof.Rows.All
import Wide.All
import OpenK.AllK
import Wide.FinOn
import Lean
import PyProof.EqAt
import PyProof.EqKinds
import PyProof.TupleCall
import PySem.Challenge.RW_zonewalk_k21_a_machine_told
set_option compiler.extract_closed false
set_option bootstrap.genMatcherCode false
set_option linter.all false
def ya0:=@List.getElem?_eq_getElem
def ya1:=@Bool.and_eq_true
def ya2:=@List.length_map
def ya3:=@List.getElem?_eq_some_iff
def ya4:=@PySem.Heap.get?_push_of_some
def ya5:=@List.getElem?_set_ne
def ya6:=@Nat.le_refl
def ya7:=@List.mem_cons_of_mem
def ya8:=@PySem.Heap.lt_size
def ya9:=@List.getElem?_map
def yaa:=@List.getElem?_set_self
def yab:=@Nat.lt_of_lt_of_le
def yac:=@List.mem_cons_self
def yad:=@Option.map_eq_some_iff
def yae:=@List.mem_singleton
def yaf:=@Nat.le_trans
def yag:=@List.mem_append_right
def yah:=@Ne.symm
def yai:=@PySem.Heap.get?_push_size
def yaj:=@Nat.ne_of_lt
def yak:=@List.mem_cons
def yal:=@List.map_cons
def yam:=@List.contains_iff_mem
def yan:=@List.all_eq_true
def yao:=@Option.some.inj
def yap:=@List.mem_map
def yaq:=@List.getD_eq_getElem?_getD
def yar:=@List.getElem_mem
def yas:=@PySem.F.plainAttrs_list
def yat:=@List.getElem?_append_left
def yau:=@List.length_append
def yav:=@Nat.lt_irrefl
def yaw:=@PySem.W.kia_one
def yax:=@List.length_cons
def yay:=@List.size_toArray
def yaz:=@List.getElem?_append_right
def yb0:=@List.findIdx?_eq_some_iff_getElem
def yb1:=@PySem.Heap.get?_update_other
def yb2:=@Int.toNat_natCast
def yb3:=@List.mem_append
def yb4:=@List.length_take
def yb5:=@List.lookup_cons
def yb6:=@PySem.mem_of_lookup
def yb7:=@Array.getElem?_eq_some_iff
def yb8:=@List.not_mem_nil
def yb9:=@List.drop_eq_getElem_cons
def yba:=@Array.getElem?_eq_getElem
def ybb:=@List.mem_of_getElem?
def ybc:=@PySem.F.slot_list_append
def ybd:=@PySem.F.type_list_append
def ybe:=@PySem.W.hideAll_get
def ybf:=@Nat.zero_le
def ybg:=@PyProof.Rows.boot_list
def ybh:=@PyProof.Rows.callWith_type1
def ybi:=@Bool.false_eq_true
def ybj:=@List.zip_cons_cons
def ybk:=@Int.natCast_nonneg
def ybl:=@List.length_set
def ybm:=@List.length_singleton
def ybn:=@List.map_append
def ybo:=@List.mem_append_left
def ybp:=@Bool.or_eq_false_iff
def ybq:=@PySem.Heap.size_push
def ybr:=@PySem.F.slot_str_getitem
def ybs:=@List.map_map
def ybt:=@List.getElem?_range
def ybu:=@PySem.W.of_hideAll
def ybv:=@List.mem_filterMap
def ybw:=@Bool.false_ne_true
def ybx:=@Bool.or_eq_true
def yby:=@List.getElem?_drop
def ybz:=@Int.fmod_nonneg_of_pos
def yc0:=@Bool.not_eq_true'
def yc1:=@Nat.lt_succ_of_lt
def yc2:=@List.getElem?_eq_none
def yc3:=@Array.getD_eq_getD_getElem?
def yc4:=@Int.fdiv_eq_ediv_of_nonneg
def yc5:=@Nat.le_succ
def yc6:=@List.append_nil
def yc7:=@List.nodup_cons
def yc8:=@Option.map_some
def yc9:=@PySem.W.callWith_K
def yca:=@Option.isSome_iff_exists
def ycb:=@List.getElem?_take_of_lt
def ycc:=@PySem.Obj.data_mapFields
def ycd:=@PySem.F.called_set
def yce:=@List.getElem?_replicate
def ycf:=@PyProof.Rows.F.plain_set_update_loop
def ycg:=@PySem.F.slot_list_clear
def ych:=@PySem.F.type_list_clear
def yci:=@Int.eq_ofNat_of_zero_le
def ycj:=@List.reverse_cons
def yck:=@PyProof.V.reads_dictOf
def ycl:=@PySem.SeqAt.notIn_list_reads
def ycm:=@List.getElem_inj
def ycn:=@Nat.lt_succ_self
def yco:=@List.take_length
def ycp:=@List.length_replicate
def ycq:=@PySem.Heap.get?_update_self
def ycr:=@PySem.Obj.isFreed_of_fields
def ycs:=@Nat.lt_trans
def yct:=@PySem.W.hideAll_none
def ycu:=@Nat.le_of_lt
def ycv:=@List.length_nil
def ycw:=@PySem.W.plainGet_of
def ycx:=@PySem.SeqAt.in_list_reads
def ycy:=@Int.add_nonneg
def ycz:=@Int.lt_of_lt_of_le
def yd0:=@List.findIdx?_cons
def yd1:=@PySem.Paired.length
def yd2:=@PySem.W.kitx_list
def yd3:=@PySem.W.kitx_dict
def yd4:=@Option.some.injEq
def yd5:=@List.append_assoc
def yd6:=@List.drop_length
def yd7:=@PySem.Txt.slice_le
def yd8:=@Nat.sub_self
def yd9:=@decide_eq_false
def yda:=@PySem.wpAny_mono
def ydb:=@PySem.wpAny_truthy_bool
def ydc:=@PySem.wpAny_bind
def ydd:=@PySem.wpAny_holding
def yde:=@PySem.wpAny_standAt
def ydf:=@PySem.wpAny_pure
def ydg:=@PySem.wpAny_pyIter_list
def ydh:=@PySem.wpAny_passesOwn
def ydi:=@PySem.sizeLine_eq
def ydj:=@PySem.wpAny_call
def ydk:=@PySem.codeAny_mono
def ydl:=@PySem.wpAny_Call_Name_kw
def ydm:=@PySem.typeIs_str
def ydn:=@if_true
def ydo:=@PySem.call_meets
def ydp:=@decide_eq_true
def ydq:=@PySem.wpAny_setField
def ydr:=@PySem.wpAny_field
def yds:=@decide_eq_true_eq
def ydt:=@or_false
def ydu:=@PySem.pushCells_keeps
def ydv:=@of_decide_eq_true
def ydw:=@if_false
def ydx:=@beq_self_eq_true
def ydy:=@PySem.wpAny_ite_false
def ydz:=@PySem.wpAny_of_eq
def ye0:=@PySem.wpAny_isInstance
def ye1:=@PySem.wpAny_getItem_str_slice
def ye2:=@PySem.post_val_or_str
def ye3:=@beq_eq_false_iff_ne
noncomputable section
local macro_rules|`(tactic|ext)=>`(tactic|kernel_rfl)
abbrev k7:=PySem.W.Frag
set_option Elab.async false
set_option linter.all false
set_option maxRecDepth 100000
set_option genSizeOf false
set_option genInjectivity false
local macro_rules
  |`(tactic| omega)=>`(tactic| first
    |assumption
    |exact yaf (by assumption) (by decide +kernel)
    |exact yab (by assumption) (by decide +kernel)
    |exact Nat.lt_of_le_of_lt (by assumption) (by decide +kernel)
    |exact Nat.succ_pos _
    |exact yab (by assumption) (Nat.succ_le_succ (yaf (by assumption) (by decide +kernel)))
    |exact Nat.succ_le_succ (yaf (by assumption) (by decide +kernel))
    |exact ycs (by assumption) (by assumption)
    |exact yab (by assumption) (by assumption)
    |exact Int.lt_trans (b:=0) (by decide +kernel) (by assumption)
    |exact ycz (b:=0) (by decide +kernel) (by assumption)
    |exact Int.lt_of_le_of_lt (by assumption) (by decide +kernel)
    |exact Int.le_trans (by assumption) (by decide +kernel)
    |exact Int.le_of_lt (by assumption)
    |exact Int.ne_of_gt (by assumption)
    |lia
    |fail)
namespace L2
open PySem PySem.Spec PyProof.Rows
abbrev Key:=Sum Int Str
noncomputable def Ew:Key->Value->Bool
 |.inl k,v=>Value.isInt k v
 |.inr x,v=>Value.isStrOf x v
def keyH(w:World):Key->Int
 |.inl k=>hashInt k
 |.inr x=>hashStr w x
theorem Dn:∀{k} {v},Ew k v=true->(∃i t,k=Sum.inl i/\v=Value.int i t)\/(∃x t,k=Sum.inr x/\v=Value.str x t)
 |.inl i,v,h=>by
  obtain⟨t,e⟩:=Value.isInt_shape h
  grind
 |.inr x,v,h=>by
  obtain⟨t,e⟩:=Value.isStrOf_shape h
  grind
theorem zdd(i)(t):Ew (.inl i) (.int i t)=true:=by simp[Ew,Value.isInt]
theorem zdc(x)(t):Ew (.inr x) (.str x t)=true:=by simp[Ew,Value.isStrOf]
theorem zl0(a b:Int):decide ((Sum.inl a:Key)=Sum.inl b)=(a == b):=by
 grind
theorem zkx(a b:Str):decide ((Sum.inr a:Key)=Sum.inr b)=decide (a=b):=by
 simp
theorem zkz(a:Int)(b:Str):decide (Sum.inl a=Sum.inr b)=false:=yd9 (λq=>nomatch q)
theorem zky(a:Str)(b:Int):decide (Sum.inr a=Sum.inl b)=false:=yd9 (λq=>nomatch q)
def CV(prog:Program)(w:World):PySem.KeyKind prog w Key where
 is:=Ew
 hash:=keyH w
 inj:=λv a b ha hb=>by
  rcases Dn ha with ⟨i,t,rfl,rfl⟩|⟨x,t,rfl,rfl⟩
  .rcases Dn hb with ⟨j,u,rfl,e⟩|⟨y,u,rfl,e⟩
   .injection e with e1 _;rw[e1]
   .exact nomatch e
  .rcases Dn hb with ⟨j,u,rfl,e⟩|⟨y,u,rfl,e⟩
   .exact nomatch e
   .injection e with e1 _;rw[e1]
 byValue:=λk v h=>by
  rcases Dn h with ⟨i,t,rfl,rfl⟩|⟨x,t,rfl,rfl⟩<;>rfl
 pyHash:=λhv h=>by
  rcases Dn hv with ⟨i,t,rfl,rfl⟩|⟨x,t,rfl,rfl⟩
  .exact wpAny_pyHash_int h
  .exact wpAny_pyHash_str h
 eqBool:=λhu hv h=>by
  rcases Dn hu with ⟨i,t,rfl,rfl⟩|⟨x,t,rfl,rfl⟩
  .rcases Dn hv with ⟨j,u,rfl,rfl⟩|⟨y,u,rfl,rfl⟩
   .rw[zl0]at h;exact wpAny_eqBool_int h
   .rw[zkz]at h;exact SeqAt.EqAt.int_str i t y u _ _ _ _ h
  .rcases Dn hv with ⟨j,u,rfl,rfl⟩|⟨y,u,rfl,rfl⟩
   .rw[zky]at h;exact SeqAt.EqAt.str_int x t j u _ _ _ _ h
   .rw[zkx]at h;exact wpAny_eqBool_str h
 «strs»:=λk x t v h=>by
  rcases Dn h with ⟨i,u,rfl,e⟩|⟨y,u,rfl,e⟩
  .exact nomatch e
  .injection e with e1 _
   subst e1;cases v<;>rfl
theorem zbv(prog)(w)(i)(t):(CV prog w).is (.inl i) (.int i t)=true:=zdd i t
theorem zbu(prog)(w)(x)(t):(CV prog w).is (.inr x) (.str x t)=true:=zdc x t
set_option genInjectivity true in
inductive V where
 |non|bl (b:Bool)|int (i:Int)|str (x:Str)|byt (b:Array UInt8)|flt (b:UInt64)|ref (a:Addr)|ty (n:String)
 deriving DecidableEq
def AN:V->Value->Prop
 |.non,u=>u=Value.none
 |.bl b,u=>u=Value.bool b
 |.int i,u=>∃t,u=Value.int i t
 |.str x,u=>∃t,u=Value.str x t
 |.byt b,u=>∃t,u=Value.bytes b t
 |.flt b,u=>∃t,u=Value.float b t
 |.ref a,u=>u=Value.ref a
 |.ty n,u=>u=Value.type n
abbrev AK:List V->List Value->Prop:=Paired AN
theorem AK.length(r:AK xs us):xs.length=us.length:=yd1 r
theorem AK.get:∀{xs} {us} {i:Nat} {x},AK xs us->xs[i]?=some x->∃u,us[i]?=some u/\AN x u
 |_,_,_,_,.nil,e=>by simp at e
 |_,_,0,_,.cons r _,e=>by grind
 |_,_,i+1,x,.cons _ t,e=>by
  obtain⟨u,h1,h2⟩:=AK.get t (by simpa using e)
  grind
theorem AK.set(r:AN x u):∀{xs} {us} (i),AK xs us->AK (xs.set i x) (us.set i u)
 |_,_,_,.nil=>.nil
 |_,_,0,.cons _ t=>.cons r t
 |_,_,i+1,.cons q t=>.cons q (AK.set r i t)
theorem AK.append:∀{xs ys} {us ws},AK xs us->AK ys ws->AK (xs++ys) (us++ws)
 |_,_,_,_,.nil,s=>s
 |_,_,_,_,.cons r t,s=>.cons r (AK.append t s)
theorem AK.take:∀{xs} {us} (n),AK xs us->AK (xs.take n) (us.take n)
 |_,_,0,_=>.nil
 |_,_,_+1,.nil=>.nil
 |_,_,n+1,.cons r t=>.cons r (AK.take n t)
theorem AK.drop:∀{xs} {us} (n),AK xs us->AK (xs.drop n) (us.drop n)
 |_,_,0,r=>r
 |_,_,_+1,.nil=>.nil
 |_,_,n+1,.cons _ t=>AK.drop n t
theorem AK.none_of:∀{i:Nat},AK xs us->xs[i]?=none->us[i]?=none:=λr e=>by
 have h1:=r.length
 grind
def C0:Option V->Option Value->Prop
 |some v,some u=>AN v u
 |none,none=>True
 |_,_=>False
def KV{κ:Type}:List (κ×V)->List (κ×Value)->Prop:=Paired λ(p:κ×V) (q:κ×Value)=>p.1=q.1/\AN p.2 q.2
def kV:Key->V
 |.inl i=>.int i
 |.inr x=>.str x
set_option genInjectivity true in
inductive HO where
 |lst (xs:List V)
 |tup (xs:List V)
 |dK (kvs:List (Key×V))|dT (kvs:List (List Key×V))
 |set (S:Int->Bool) (n:Nat)
 |ins (C dx:Addr) (fs:List (Str×V))
 |own (x:Addr)
 |xd (fs:List (Str×V))
 |met (f x:Addr)
 |rng (lo hi:Int)
 |frz (o:Obj) (u:HO)
 |tbl (ps:Array Value)
 |ext (φ:Heap->Prop)
abbrev Hp:=Addr->Option HO
noncomputable def upd(H:Hp)(a:Addr)(o:HO):Hp:=λb=>if b=a then some o else H b
theorem Be{H:Hp}{a:Addr}{o:HO}:upd H a o a=some o:=by unfold upd;simp
theorem AZ(h:b≠a):upd H a o b=H b:=by unfold upd;rw[if_neg h]
theorem ne_of{H:Hp}   (h:H a=some o)(h':H b=some u)(d:o≠u):a≠b:=by
 grind
theorem Bt{H:Hp}(h:H a=some o)(h':H b=none):a≠b:=by
 grind
section
variable (P:Program)(w:World)
def Bl(H:Hp)(h:Heap)(a:Addr):HO->Prop
 |.lst xs=>xs.length<=sizeLine/\∃(its:List Value) (n:Nat),AK xs its/\h.get? a=some { cls:=.type "list",data:=.seq its.toArray n }
 |.tup xs=>xs.length<=sizeLine/\∃its:List Value,AK xs its/\IsTup h a its.toArray
 |.dK kvs=>kvs.length<=sizeLine/\(a == sysModules)=false/\∃vs,KV kvs vs/\h.DictOf (CV P w) a vs
 |.dT kvs=>kvs.length<=sizeLine/\(a == sysModules)=false/\∃xs:List (List Key×Addr×Value),
   Paired (λ(p:List Key×V) (q:List Key×Addr×Value)=>p.1=q.1/\H q.2.1=some (.tup (p.1.map kV))/\AN p.2 q.2.2) kvs xs /\
   ∃o es ep,h.get? a=some o/\o.ExactDict/\o.data=.dict es ep/\es.toList=xs.map (entryOfKey (tupleKind (CV P w)))/\(xs.map (·.1)).Nodup
 |.set S n=>h.SetOf (intKind P w) a S n
 |.ins C dx fs=>H dx=some (.own a)/\fs.length<=1000/\dx≠a/\h.get? a=some (PySem.W.instObj C dx) /\
   ∃mA,h.Ns1 dx mA/\(∀f,C0 (fs.lookup f) (mA f))/\PySem.Within mA (fs.map (·.1))
 |.own _=>∃o,h.get? a=some o
 |.xd fs=>∃mA,h.Ns1 a mA/\∀f,C0 (fs.lookup f) (mA f)
 |.rng lo hi=>∃t u v,h.get? a=some { cls:=.type "range",data:=.fields #[.int lo t,.int hi u,.int 1 v] }
 |.frz o u=>h.get? a=some o/\Bl H h a u
 |.tbl ps=>h.get? a=some { cls:=.none,data:=.fields ps }
 |.met f x=>h.get? a=some (PySem.W.methodObj (.ref f) (.ref x))
 |.ext φ=>φ h/\(∃o,h.get? a=some o)/\∀h1 h2:Heap,φ h1->(∀o,h1.get? a=some o->h2.get? a=some o)->φ h2
def HOk(H:Hp)(h:Heap):Prop:=∀a o,H a=some o->Bl P w H h a o
end
section
variable {P:Program}{w:World}{H H':Hp}{h h':Heap}{a:Addr}{o:HO}
theorem Bl.lt(x:Bl P w H h a o):a<h.objs.size:=by
 cases o with
 |lst xs=>obtain⟨_,_,_,_,e⟩:=x;exact ya8 e
 |tup xs=>obtain⟨_,_,_,p⟩:=x;exact p.lt
 |dK kvs=>obtain⟨_,_,_,_,o,_,_,e,_⟩:=x;exact ya8 e
 |dT kvs=>obtain⟨_,_,_,_,o,_,_,e,_⟩:=x;exact ya8 e
 |set S n=>obtain⟨o,_,_,_,e,_⟩:=x;exact ya8 e
 |ins C dx fs=>obtain⟨_,_,_,e,_⟩:=x;exact ya8 e
 |own y=>obtain⟨_,e⟩:=x;exact ya8 e
 |xd fs=>obtain⟨_,⟨_,_,_,e,_⟩,_⟩:=x;exact ya8 e
 |rng lo hi=>obtain⟨_,_,_,e⟩:=x;exact ya8 e
 |frz ob u=>obtain⟨e,_⟩:=x;exact ya8 e
 |tbl ps=>exact ya8 (x)
 |met f y=>exact ya8 (x)
 |ext φ=>obtain⟨_,⟨_,e⟩,_⟩:=x;exact ya8 e
theorem Paired.mapP:∀{l₁:List α} {l₂:List β},Paired F l₁ l₂->(∀a b,F a b->G a b)->Paired G l₁ l₂
 |_,_,.nil,_=>.nil
 |_,_,.cons r t,f=>.cons (f _ _ r) (Paired.mapP t f)
theorem Bl.stay(x:Bl P w H h a o)(k:∀b u,(b=a\/H b=some (.own a))->h.get? b=some u->h'.get? b=some u)
  (ho:∀b,H b=some (.own a)->H' b=some (.own a)) (ht:∀b xs,H b=some (.tup xs)->H' b=some (.tup xs)):Bl P w H' h' a o:=by
 induction o with
 |lst xs=>obtain⟨z,its,n,r,e⟩:=x;exact⟨z,its,n,r,k _ _ (.inl rfl) e⟩
 |tup xs=>obtain⟨z,its,r,ob,e,c⟩:=x;exact⟨z,its,r,ob,k _ _ (.inl rfl) e,c⟩
 |dK kvs=>obtain⟨z,y,vs,r,ob,es,ep,e,c⟩:=x;exact⟨z,y,vs,r,ob,es,ep,k _ _ (.inl rfl) e,c⟩
 |dT kvs =>
  obtain⟨z,y,xs,r,ob,es,ep,e,c⟩:=x;exact⟨z,y,xs,Paired.mapP r λp q z=>⟨z.1,ht _ _ z.2.1,z.2.2⟩,ob,es,ep,k _ _ (.inl rfl) e,c⟩
 |set S n=>obtain⟨ob,es,ep,t,e,c⟩:=x;exact⟨ob,es,ep,t,k _ _ (.inl rfl) e,c⟩
 |ins C dx fs =>
  obtain⟨d,z,ne,e,mA,⟨od,es,ep,e2,c⟩,r⟩:=x;exact⟨ho _ d,z,ne,k _ _ (.inl rfl) e,mA,⟨od,es,ep,k _ _ (.inr d) e2,c⟩,r⟩
 |own y=>obtain⟨ob,e⟩:=x;exact⟨ob,k _ _ (.inl rfl) e⟩
 |xd fs=>obtain⟨mA,⟨od,es,ep,e,c⟩,r⟩:=x;exact⟨mA,⟨od,es,ep,k _ _ (.inl rfl) e,c⟩,r⟩
 |rng lo hi=>obtain⟨t,u,v,e⟩:=x;exact⟨t,u,v,k _ _ (.inl rfl) e⟩
 |frz ob u ih=>obtain⟨e,q⟩:=x;exact⟨k _ _ (.inl rfl) e,ih q⟩
 |tbl ps =>
  have e :=x;exact k a _ (.inl rfl) e
 |met f y =>
  have e :=x;exact k a _ (.inl rfl) e
 |ext φ=>obtain⟨p,⟨o,e⟩,st⟩:=x;exact⟨st _ _ p λo q=>k _ _ (.inl rfl) q,⟨o,k _ _ (.inl rfl) e⟩,st⟩
theorem HOk.lt(x:HOk P w H h)(e:H a=some o):a<h.objs.size:=(x a o e).lt
theorem HOk.fresh(x:HOk P w H h)(e:h.objs.size<=a):H a=none:=by
 cases q:H a with
 |none=>rfl
 |some u=>exact absurd (yab (x.lt q) e) (yav _)
theorem HOk.kept(x:HOk P w H h)(k:∀b u,h.get? b=some u->h'.get? b=some u):HOk P w H h':=λa o e =>
 (x a o e).stay (λb u _ q=>k b u q) (λ_ q=>q) λ_ _ q=>q
theorem HOk.laid(x:HOk P w H h)(k:∀b u,h.get? b=some u->h'.get? b=some u)(hp:h.objs.size<=a)(new:Bl P w (upd H a o) h' a o):HOk P w (upd H a o) h':=λb u e=>by
 have hn:=x.fresh hp
 by_cases hb:b=a
 .subst hb;rw[Be]at e;grind
 .rw[AZ hb]at e;exact(x b u e).stay (λc v _ q=>k c v q) (λc q=>by rw[AZ (Bt q hn)];exact q) λc xs q=>by rw[AZ (Bt q hn)];exact q
end
def Rd(H:Hp)(a:Addr)(u:HO):Prop:=H a=some u\/∃o,H a=some (.frz o u)
theorem Rd.of{H:Hp}{a:Addr}{u:HO}(h:H a=some u):Rd H a u:=.inl h
theorem Rd.ok(r:Rd H a u)(x:HOk P w H h):Bl P w H h a u:=by
 rcases r with r|⟨o,r⟩
 .exact x a u r
 .obtain⟨_,q⟩:=x a _ r;exact q
def IC:Option HO->Prop
 |some (.lst _)=>True
 |some (.dK _)=>True
 |some (.dT _)=>True
 |some (.set _ _)=>True
 |some (.ins _ _ _)=>True
 |some (.ext _)=>True
 |_=>False
section
variable {P:Program}{w:World}{H:Hp}{h h':Heap}{x e:Addr}{o':HO}
theorem HOk.write(ok:HOk P w H h)(mu:IC (H x))(he:e=x\/H e=some (.own x))(k:∀b u,b≠e->h.get? b=some u->h'.get? b=some u)(heo:∃u,h'.get? e=some u)
  (new:Bl P w (upd H x o') h' x o'):HOk P w (upd H x o') h':=λb u q=>by
 have nown:∀c y,H c=some (.own y)->c≠x:=λc y r z=>by subst z;rw[r]at mu;exact mu
 have ntup:∀c xs,H c=some (.tup xs)->c≠x:=λc xs r z=>by subst z;rw[r]at mu;exact mu
 by_cases hb:b=x
 .subst hb;rw[Be]at q;cases q;exact new
 .rw[AZ hb]at q
  by_cases hbe:b=e
  .have q':H b=some (.own x):=by
    grind
   rw[q]at q';cases q';obtain⟨v,hv⟩:=heo;exact⟨v,by rw[hbe];exact hv⟩
  .refine(ok b u q).stay (λc v hc r=>k c v ?_ r) (λc r=>by rw[AZ (nown c b r)];exact r) λc xs r=>by rw[AZ (ntup c xs r)];exact r
   grind
end
structure Un(fs ex:List Addr)(H H':Hp)(h h':Heap):Prop where
 keep:∀b o,h.get? b=some o->H b=none->b∉fs->b∉ex->h'.get? b=some o
 slot:∀b o,h.get? b=some o->H b=none->b∈fs->b∉ex->∃sl,h'.get? b=some { o with slots:=sl }
 free:∀b o,h.get? b=some o->H b=none->b∉ex->H' b=none
 there:∀b o,h.get? b=some o->b∉ex->∃o',h'.get? b=some o'
 tups:∀b xs,H b=some (.tup xs)->H' b=some (.tup xs)
 frzs:∀b o u,H b=some (.frz o u)->H' b=some (.frz o u)
 tbls:∀b ps,H b=some (.tbl ps)->∃more,H' b=some (.tbl (ps++more))
section
variable {fs fs' ex ex':List Addr}{H H1 H2:Hp}{h h1 h2 h':Heap}{a x e:Addr}{o:HO}
theorem Un.any(u:Un fs ex H H1 h h1)(q:h.get? b=some ob)(n:H b=none)(hx:b∉ex):∃sl,h1.get? b=some { ob with slots:=sl}:=by
 by_cases hb:b∈fs
 .exact u.slot b ob q n hb hx
 .exact⟨ob.slots,u.keep b ob q n hb hx⟩
theorem Un.trans(a:Un fs ex H H1 h h1)(b:Un fs ex H1 H2 h1 h2):Un fs ex H H2 h h2 where
 keep:=λc ob q n hc hx=>b.keep c ob (a.keep c ob q n hc hx) (a.free c ob q n hx) hc hx
 slot:=λc ob q n hc hx=>by
  obtain⟨sl,e1⟩:=a.slot c ob q n hc hx;obtain⟨sl',e2⟩:=b.slot c _ e1 (a.free c ob q n hx) hc hx
  grind
 free:=λc ob q n hx=>by
  obtain⟨o',e1⟩:=a.there c ob q hx;exact b.free c o' e1 (a.free c ob q n hx) hx
 there:=λc ob q hx=>by
  obtain⟨o',e1⟩:=a.there c ob q hx;exact b.there c o' e1 hx
 tups:=λc xs q=>b.tups c xs (a.tups c xs q)
 frzs:=λc ob xs q=>b.frzs c ob xs (a.frzs c ob xs q)
 tbls:=λc ps q=>by
  obtain⟨m1,e1⟩:=a.tbls c ps q;obtain⟨m2,e2⟩:=b.tbls c _ e1
  grind
theorem Un.kept(k:∀b u,h.get? b=some u->h'.get? b=some u):Un fs ex H H h h' :=
 ⟨λb ob q _ _ _=>k b ob q,λb ob q _ _ _=>⟨ob.slots,k b ob q⟩,λ_ _ _ n _=>n,λb ob q _=>⟨ob,k b ob q⟩,λ_ _ q=>q,λ_ _ _ q=>q,λ_ ps q=>⟨#[],by rw[q];simp⟩⟩
theorem Un.refl:Un fs ex H H h h:=Un.kept λ_ _ q=>q
theorem Un.laid(k:∀b u,h.get? b=some u->h'.get? b=some u)(hp:h.objs.size<=a)(hn:H a=none):Un fs ex H (upd H a o) h h' where
 keep:=λb u q _ _ _=>k b u q
 slot:=λb u q _ _ _=>⟨u.slots,k b u q⟩
 free:=λb u q n _=>by rw[AZ (yaj (yab (ya8 q) hp))];exact n
 there:=λb u q _=>⟨u,k b u q⟩
 tups:=λb xs q=>by rw[AZ (Bt q hn)];exact q
 frzs:=λb u xs q=>by rw[AZ (Bt q hn)];exact q
 tbls:=λb ps q=>⟨#[],by rw[AZ (Bt q hn),q];simp⟩
theorem Un.write(mu:IC (H x))(he:e=x\/H e=some (.own x))(k:∀b u,b≠e->h.get? b=some u->h'.get? b=some u)(heo:∃u,h'.get? e=some u):Un fs ex H (upd H x o) h h':=by
 have hx:∀b,H b=none->b≠x:=λb n z=>by subst z;rw[n]at mu;exact mu
 have hb:∀b,H b=none->b≠e:=λb n z=>by
  grind
 have hm:∀b u,H b=some u->¬ IC (some u)->b≠x:=λb u q nm z=>by grind
 refine⟨λb u q n _ _=>k b u (hb b n) q,λb u q n _ _=>⟨u.slots,k b u (hb b n) q⟩,λb u q n _=>by rw[AZ (hx b n)];exact n,λb u q _=>?_,
  λb xs q=>by rw[AZ (hm b _ q λz=>z)];exact q,λb u xs q=>by rw[AZ (hm b _ q λz=>z)];exact q,λb ps q=>⟨#[],by rw[AZ (hm b _ q λz=>z),q];simp⟩⟩
 grind
theorem Un.mono(u:Un fs ex H H1 h h1)(hs:∀b∈fs,b∈fs')(hx:∀b∈ex,b∈ex'):Un fs' ex' H H1 h h1 :=
 ⟨λb ob q n hb he=>u.keep b ob q n (λz=>hb (hs b z)) λz=>he (hx b z),λ_ _ q n _ he=>u.any q n λz=>he (hx _ z),λb ob q n he=>u.free b ob q n λz=>he (hx b z),λb ob q he=>u.there b ob q λz=>he (hx b z),u.tups,u.frzs,u.tbls⟩
end
def IT(h:Heap)(H:Hp):List Addr:=(List.range h.objs.size).filter λa=>(H a).isSome
def Ey(h:Heap)(H:Hp):Heap:=PySem.W.hideAll h (IT h H)
theorem zdh(h)(H):(Ey h H).objs.size=h.objs.size:=PySem.W.hideAll_size _ _
theorem zfg(e:h.get? b=some o)(n:H b=none):(Ey h H).get? b=some o :=
 ybe _ e λhm=>by
  have q :=(List.mem_filter.mp hm).2
  grind
theorem zhe(e:(Ey h H).get? b=some o):h.get? b=some o/\H b=none:=by
 have e' :=ybu (IT h H) e;refine⟨e',?_⟩;cases q:H b with
 |none=>rfl
 |some x =>
  have hm:b∈IT h H:=List.mem_filter.mpr ⟨List.mem_range.mpr (ya8 e'),by simp[q]⟩
  have z:(Ey h H).get? b=none:=yct (IT h H) hm
  grind
def zid(g h:Heap)(L:Addr):List (Addr×Obj):=(List.range h.objs.size).filterMap λa=>if a=L\/(g.get? a).isSome=true then none else (h.get? a).map λo=>(a,o)
def Al(g h:Heap)(L d:Addr):List (Addr×Obj):=(zid g h L).filter λp=>decide (p.1≠d)
structure Mod(K:k7)(mg:Str->Option Value)(base:Heap):Prop where
 kin:K.In base
 glob:base.Ns mainGlobals mg
 blt:∃mb,base.Ns builtinsNs mb/\∀x:Str,x≠"__name__"->mb x=bootBuiltins x
 nolimit:base.NoLimit
structure Cx where
 prog:Program
 w:World
 K:k7
 mg:Str->Option Value
 base:Heap
 A:Around
 N:List Str
 s₀:Shared
 H₀:Hp
 env:Env
 outer:List Env
 stack:List Env
 ex:List Addr
 fn:Str->Bool
 calm:Bool
 pn:List (Addr×Obj)
 xe:Value->Shared->Prop
def Ax(l:List Env):List Addr:=l.filterMap (·.frame)
abbrev Cx.fs(X:Cx):List Addr:=Ax X.outer
def Bs(sc:Scope)(x:Str):Prop:=sc.names.lookup x=some .local\/sc.names.lookup x=some .cell\/sc.names.lookup x=some .free
def E7(sc:Scope)(x:Str):Prop:=sc.names.lookup x=some .local\/sc.names.lookup x=some .cell
def Look(env:Env)(h:Heap)(m:Str->Option Value)(x:Str)(u:Value):Prop :=
 (env.kindOf x=some .local/\m x=some u)\/((env.kindOf x=some .cell\/env.kindOf x=some .free)/\∃c,env.cells.lookup x=some c/\h.IsCell c (some u))
structure Cx.Ok(X:Cx):Prop where
 mod:Mod X.K X.mg X.base
 kind:X.env.scope.kind=.function
 glob:X.env.globals=mainGlobals
 blt:X.env.builtins=builtinsNs
 above:X.s₀.heap.objs.size<=X.env.locals
 inj:∀x y c,X.env.cells.lookup x=some c->X.env.cells.lookup y=some c->x=y
 has:∀x,(X.env.kindOf x=some .cell\/X.env.kindOf x=some .free)->∃c,X.env.cells.lookup x=some c
 cab:∀x c,X.fn x=true->X.env.cells.lookup x=some c->X.s₀.heap.objs.size<=c
 hd:X.calm=true->X.A.handled=none
 frames:X.A.frames=some X.stack
 stk:X.stack=X.outer\/(X.stack=X.env::X.outer/\X.env.frame=some X.env.locals)
 exf:∀b∈X.ex,b≠X.env.locals/\∀x c,X.env.cells.lookup x=some c->c≠b
 bs:∀b o,X.base.get? b=some o->X.s₀.heap.get? b=some o/\X.H₀ b=none
 bsz:X.base.objs.size<=X.s₀.heap.objs.size
 noex:∀b o,X.base.get? b=some o->b∉X.ex
 exfs:∀b∈X.ex,b∉X.fs
 funs:X.s₀.heap.FunFrames X.base X.outer
 frf:∀b∈X.fs,X.H₀ b=none
structure Inv(X:Cx)(pins:List (Addr×Obj))(σ:List (Option V))(H:Hp)(s:Shared):Prop where
 ok:X.Ok
 os:s.os=X.s₀.os
 bare:AllBare s.gens
 base:Un X.fs X.ex X.H₀ H X.s₀.heap s.heap
 loc:∃m,s.heap.Ns X.env.locals m/\∀(i:Nat) (x:Str) (v:V),X.N[i]?=some x->σ[i]?=some (some v)->Bs X.env.scope x->∃u,AN v u/\Look X.env s.heap m x u
 cell:∀x c,X.env.cells.lookup x=some c->∃v,s.heap.IsCell c v
 free:H X.env.locals=none
 freeC:∀x c,X.env.cells.lookup x=some c->H c=none
 pin:∀p∈X.pn++pins,s.heap.get? p.1=some p.2/\H p.1=none/\p.1≠X.env.locals/\p.1∉X.fs/\∀v,p.2.data≠.cell v
 hok:HOk X.prog X.w H s.heap
 len:σ.length=X.N.length
section
variable {X:Cx}{pins:List (Addr×Obj)}{σ:List (Option V)}{H H':Hp}{s:Shared}{h':Heap}
theorem Cx.Ok.nofr(ok:X.Ok)(e:X.base.get? b=some o):b∉X.fs:=λhb=>by
 have:=(ok.funs.mem hb).1
 grind
theorem Inv.bs(I:Inv X pins σ H s):∀b o,X.base.get? b=some o->s.heap.get? b=some o/\H b=none:=λb o e =>
 ⟨I.base.keep b o (I.ok.bs b o e).1 (I.ok.bs b o e).2 (I.ok.nofr e) (I.ok.noex b o e),I.base.free b o (I.ok.bs b o e).1 (I.ok.bs b o e).2 (I.ok.noex b o e)⟩
theorem Inv.bk(I:Inv X pins σ H s):∀b o,X.base.get? b=some o->s.heap.get? b=some o:=λb o e=>(I.bs b o e).1
theorem Inv.mod(I:Inv X pins σ H s):Mod X.K X.mg X.base:=I.ok.mod
theorem Inv.kIn(I:Inv X pins σ H s):X.K.In s.heap:=I.ok.mod.kin.keeps I.bk
theorem Inv.nolimit(I:Inv X pins σ H s):s.heap.NoLimit:=I.ok.mod.nolimit.keeps I.bk
theorem Inv.fr(I:Inv X pins σ H s):∃m,Fr X.base X.env.locals s.heap m :=
 let ⟨m,hn,_⟩:=I.loc
 ⟨m,hn,I.bk,yaf I.ok.bsz I.ok.above⟩
theorem Inv.lt(I:Inv X pins σ H s):X.env.locals<s.heap.objs.size:=let ⟨_,hn,_⟩:=I.loc;hn.lt
theorem Inv.sz(I:Inv X pins σ H s):X.s₀.heap.objs.size<=s.heap.objs.size:=yaf I.ok.above (ycu I.lt)
theorem Inv.nofs(I:Inv X pins σ H s){a:Addr}(h:s.heap.objs.size<=a):a∉X.fs:=λhb=>by
 obtain⟨_,o,ho,_⟩:=I.ok.funs.mem hb;exact absurd (yab (ya8 ho) (yaf I.sz h)) (yav _)
theorem Inv.cne(I:Inv X pins σ H s):∀x c,X.env.cells.lookup x=some c->c≠X.env.locals:=λx c e z=>by
 obtain⟨v,o,ho,hd⟩:=I.cell x c e;obtain⟨m,⟨o',es,ep,ho',hd',_⟩,_⟩:=I.loc
 grind
theorem Inv.funs(I:Inv X pins σ H s):s.heap.FunFrames X.base X.outer:=by
 have all:∀(l ),(∀b∈Ax l,b∈X.fs)->X.s₀.heap.FunFrames X.base l->s.heap.FunFrames X.base l:=by
  intro l
  induction l with
  |nil=>intro _ _;trivial
  |cons env r ih =>
   intro hs hl;obtain⟨hk,⟨L,o,hf,hn,ho,hd⟩,hr⟩:=hl;have hL :=hs L (by unfold Ax;grind)
   obtain⟨sl,e⟩:=I.base.slot L o ho (I.ok.frf L hL) hL λz=>I.ok.exfs L z hL
   exact⟨hk,⟨L,_,hf,hn,e,hd⟩,ih (λb hb=>hs b (by unfold Ax;rw[List.filterMap_cons,hf];exact ya7 _ hb)) hr⟩
 exact all X.outer (λ_ hb=>hb) I.ok.funs
theorem Inv.stack(I:Inv X pins σ H s):s.heap.FunFrames X.base X.stack:=by
 rcases I.ok.stk with e|⟨e,hf⟩
 .rw[e];exact I.funs
 .rw[e];obtain⟨m,hn,_⟩:=I.loc;refine .cons (by rw[I.ok.kind];decide) hf hn ?_ I.funs
  exact Heap.get?_none_of_le (yaf I.ok.bsz I.ok.above)
theorem Inv.stkSub(I:Inv X pins σ H s):∀b∈Ax X.stack,b∈X.env.locals::X.fs:=λb hb=>by
 rcases I.ok.stk with e|⟨e,hf⟩
 .grind
 .rw[e]at hb;unfold Ax at hb;rw[List.filterMap_cons,hf]at hb;exact hb
theorem Inv.stkFree(I:Inv X pins σ H s):∀b∈Ax X.stack,H b=none:=λb hb=>by
 rcases yak.mp (I.stkSub b hb) with e|hb
 .rw[e];exact I.free
 .obtain⟨_,o,ho,_⟩:=I.ok.funs.mem hb;exact I.base.free b o ho (I.ok.frf b hb) λz=>I.ok.exfs b z hb
theorem Inv.step  {t':Nat}{d':Drawn}{ch:List Addr}(I:Inv X pins σ H s)
  (hch:∀b∈ch,(b∈X.ex\/X.s₀.heap.objs.size<=b)/\b≠X.env.locals/\(∀x c,X.env.cells.lookup x=some c->c≠b)/\∀p∈X.pn++pins,p.1≠b)
  (keep:∀b o,b≠X.env.locals->b∉X.fs->b∉ch->s.heap.get? b=some o->H b=none->h'.get? b=some o)
  (slot:∀b o,b≠X.env.locals->b∈X.fs->b∉ch->s.heap.get? b=some o->H b=none->∃sl,h'.get? b=some { o with slots:=sl }) (free:∀b o,b∉ch->s.heap.get? b=some o->H b=none->H' b=none)
  (there:∀b o,b∉ch->s.heap.get? b=some o->∃o',h'.get? b=some o')
  (tups:∀b xs,H b=some (.tup xs)->H' b=some (.tup xs)) (frzs:∀b o u,H b=some (.frz o u)->H' b=some (.frz o u)) (tbls:∀b ps,H b=some (.tbl ps)->∃more,H' b=some (.tbl (ps++more)))
  (ns:∀m,s.heap.Ns X.env.locals m->h'.Ns X.env.locals m) (hok:HOk X.prog X.w H' h') (hg:AllBare g') :
  Inv X pins σ H' { s with heap:=h',gens:=g',drawn:=d',toks:=t' }:=by
 have neL:∀b o,X.s₀.heap.get? b=some o->b≠X.env.locals:=λb o e=>yaj (yab (ya8 e) I.ok.above)
 have neC:∀b o,X.s₀.heap.get? b=some o->b∉X.ex->b∉ch:=λb o e hx hb=>by
  rcases(hch b hb).1 with z|z
  .exact hx z
  .exact absurd (yab (ya8 e) z) (yav _)
 have cellK:∀x c,X.env.cells.lookup x=some c->∀v,s.heap.IsCell c v->h'.IsCell c v:=λx c e v ⟨o,ho,hd⟩=>by
  have nch :=λz=>(hch c z).2.2.1 x c e rfl
  by_cases hc:c∈X.fs
  .obtain⟨sl,q⟩:=slot c o (I.cne x c e) hc nch ho (I.freeC x c e);exact⟨_,q,hd⟩
  .exact⟨o,keep c o (I.cne x c e) hc nch ho (I.freeC x c e),hd⟩
 refine⟨I.ok,I.os,hg,⟨λb o e n hb hx=>?_,λb o e n hb hx=>?_,λb o e n hx=>?_,λb o e hx=>?_,λb xs e=>tups b xs (I.base.tups b xs e),λb o xs e=>frzs b o xs (I.base.frzs b o xs e),λb ps e=>?_⟩,?_,λx c e=>?_,?_,λx c e=>?_,λp hp=>?_,hok,I.len⟩
 .exact keep b o (neL b o e) hb (neC b o e hx) (I.base.keep b o e n hb hx) (I.base.free b o e n hx)
 .obtain⟨sl,e1⟩:=I.base.slot b o e n hb hx;obtain⟨sl',e2⟩:=slot b _ (neL b o e) hb (neC b o e hx) e1 (I.base.free b o e n hx);exact⟨sl',e2⟩
 .obtain⟨o',e1⟩:=I.base.there b o e hx;exact free b o' (neC b o e hx) e1 (I.base.free b o e n hx)
 .obtain⟨o',e1⟩:=I.base.there b o e hx;exact there b o' (neC b o e hx) e1
 .obtain⟨m1,e1⟩:=I.base.tbls b ps e;obtain⟨m2,e2⟩:=tbls b _ e1;exact⟨m1++m2,by rw[e2,Array.append_assoc]⟩
 .obtain⟨m,hn,hl⟩:=I.loc;refine⟨m,ns m hn,λi x v e1 e2 e3=>?_⟩
  obtain⟨u,r,l⟩:=hl i x v e1 e2 e3;refine⟨u,r,?_⟩
  rcases l with l|⟨k,c,e,z⟩
  .exact .inl l
  .exact .inr ⟨k,c,e,cellK x c e _ z⟩
 .obtain⟨v,z⟩:=I.cell x c e;exact⟨v,cellK x c e v z⟩
 .obtain⟨m,⟨o,_,_,ho,_⟩,_⟩:=I.loc;exact free _ o (λz=>(hch _ z).2.1 rfl) ho I.free
 .obtain⟨v,o,ho,hd⟩:=I.cell x c e;exact free c o (λz=>(hch c z).2.2.1 x c e rfl) ho (I.freeC x c e)
 .obtain⟨e,n,ne,nf,d⟩:=I.pin p hp;have nch :=λz=>(hch p.1 z).2.2.2 p hp rfl
  exact⟨keep p.1 p.2 ne nf nch e n,free p.1 p.2 nch e n,ne,nf,d⟩
theorem Inv.un  (I:Inv X pins σ H s)(u:Un X.fs [] H H' s.heap h')(hok:HOk X.prog X.w H' h'):Inv X pins σ H' { s with heap:=h',toks:=t' }:=by
 obtain⟨m,⟨o,es,ep,ho,r⟩,_⟩:=id I.loc;obtain⟨sl,hL⟩:=u.any ho I.free (by simp)
 exact I.step (ch:=[]) (λ_ z=>nomatch z) (λb o _ hb _ e n=>u.keep b o e n hb (by simp)) (λb o _ hb _ e n=>u.slot b o e n hb (by simp)) (λb o _ e n=>u.free b o e n (by simp)) (λb o _ e=>u.there b o e (by simp)) u.tups u.frzs u.tbls (λm' hm=>by
  obtain⟨o',es',ep',ho',r'⟩:=hm;rw[ho]at ho';cases ho';exact⟨_,es',ep',hL,r'⟩) hok I.bare
theorem Inv.call     (I:Inv X pins σ H s)(u:Un (Ax X.stack) ch H H' s.heap h')(hok:HOk X.prog X.w H' h')(hg:AllBare g')
  (hch:∀b∈ch,(b∈X.ex\/X.s₀.heap.objs.size<=b)/\b≠X.env.locals/\(∀x c,X.env.cells.lookup x=some c->c≠b)/\∀p∈X.pn++pins,p.1≠b) :
  Inv X pins σ H' { s with heap:=h',gens:=g',drawn:=d',toks:=t' }:=by
 obtain⟨m,⟨o,es,ep,ho,r⟩,_⟩:=id I.loc;obtain⟨sl,hL⟩:=u.any ho I.free λz=>(hch _ z).2.1 rfl
 exact I.step hch (λb o hL hb hc e n=>u.keep b o e n (λz=>(yak.mp (I.stkSub b z)).elim hL hb) hc) (λb o _ _ hc e n=>u.any e n hc) (λb o hc e n=>u.free b o e n hc) (λb o hc e=>u.there b o e hc) u.tups u.frzs u.tbls (λm' hm=>by
  obtain⟨o',es',ep',ho',r'⟩:=hm;rw[ho]at ho';cases ho';exact⟨_,es',ep',hL,r'⟩) hok hg
theorem Inv.turned   (I:Inv X pins σ H s)(k:∀b o,b≠it->s.heap.get? b=some o->h'.get? b=some o)(hn:H it=none)(hL:it≠X.env.locals)
  (h1:it∈X.ex\/X.s₀.heap.objs.size<=it) (h2:∀x c,X.env.cells.lookup x=some c->c≠it) (h3:∀p∈X.pn++pins,p.1≠it):Inv X pins σ H { s with heap:=h',toks:=t' }:=by
 refine I.step (ch:=[it]) (λb hb=>?_) (λb o _ _ hc e _=>k b o (λz=>hc (by simp[z])) e) (λb o _ _ hc e _=>⟨o.slots,k b o (λz=>hc (by simp[z])) e⟩) (λ_ _ _ _ n=>n)
  (λb o hc e=>⟨o,k b o (λz=>hc (by simp[z])) e⟩) (λ_ _ e=>e) (λ_ _ _ e=>e) (λb ps e=>⟨#[],by rw[e];simp⟩) (λm hm=>?_) (λb u e=>?_) I.bare
 .grind
 .obtain⟨o,es,ep,ho,r⟩:=hm;exact⟨o,es,ep,k _ o (yah hL) ho,r⟩
 .refine(I.hok b u e).stay (λc v hc q=>k c v ?_ q) (λ_ q=>q) λ_ _ q=>q
  grind
theorem Inv.tok(I:Inv X pins σ H s)(t):Inv X pins σ H { s with toks:=t}:=I.un Un.refl I.hok
theorem Inv.kept  (I:Inv X pins σ H s)(k:∀b u,s.heap.get? b=some u->h'.get? b=some u):Inv X pins σ H { s with heap:=h',toks:=t' }:=I.un (Un.kept k) (I.hok.kept k)
theorem Inv.laid{a:Addr}   (I:Inv X pins σ H s)(k:∀b u,s.heap.get? b=some u->h'.get? b=some u)(hp:s.heap.objs.size<=a)(new:Bl X.prog X.w (upd H a o) h' a o) :
  Inv X pins σ (upd H a o) { s with heap:=h',toks:=t' }:=I.un (Un.laid k hp (I.hok.fresh hp)) (I.hok.laid k hp new)
theorem Inv.write    (I:Inv X pins σ H s)(mu:IC (H x))(he:e=x\/H e=some (.own x))(k:∀b u,b≠e->s.heap.get? b=some u->h'.get? b=some u)(heo:∃u,h'.get? e=some u)
  (new:Bl X.prog X.w (upd H x o) h' x o):Inv X pins σ (upd H x o) { s with heap:=h',toks:=t' }:=I.un (Un.write mu he k heo) (I.hok.write mu he k heo new)
theorem Inv.weak  (I:Inv X pins σ H s)(hl:σ'.length=σ.length)(w:∀(i:Nat) v,σ'[i]?=some (some v)->σ[i]?=some (some v)):Inv X pins σ' H s :=
 ⟨I.ok,I.os,I.bare,I.base,let ⟨m,hn,hl'⟩:=I.loc;⟨m,hn,λi x v e1 e2 e3=>hl' i x v e1 (w i v e2) e3⟩,I.cell,I.free,I.freeC,I.pin,I.hok,hl.trans I.len⟩
theorem Inv.pins_of(I:Inv X pins σ H s)(h:∀p∈pins',s.heap.get? p.1=some p.2/\H p.1=none/\p.1≠X.env.locals/\p.1∉X.fs/\∀v,p.2.data≠.cell v):Inv X pins' σ H s :=
 ⟨I.ok,I.os,I.bare,I.base,I.loc,I.cell,I.free,I.freeC,λp hp=>(yb3.mp hp).elim (λz=>I.pin p (ybo _ z)) (h p),I.hok,I.len⟩
theorem Qb{N:List Str}(hN:N.Nodup){i j:Nat}(a:N[i]?=some x)(b:N[j]?=some x):i=j:=by
 obtain⟨h1,e1⟩:=ya3.mp a;obtain⟨h2,e2⟩:=ya3.mp b;exact(ycm hN).mp (e1.trans e2.symm)
theorem Nr         (I:Inv X pins σ H s)(hN:X.N.Nodup)(hi:X.N[i]?=some x)(hx:E7 X.env.scope x)(r:AN v u)
  (h:∀s',Inv X pins (σ.set i (some v)) H s'->(∃a,Heap.SameBut a s.heap s'.heap/\(a=X.env.locals\/X.env.cells.lookup x=some a))->Q () s') (hf:X.fn x=true\/X.env.scope.names.lookup x=some .local:=by first|exact .inl rfl|exact .inr rfl|assumption):wpAny M A (storeName X.env x u) Q E s:=by
 obtain⟨m,hn,hl⟩:=id I.loc;have hcls:(X.env.scope.kind == .class || (X.env.scope.kind == .module && X.env.locals != X.env.globals))=false:=by rw[I.ok.kind];rfl
 have hiσ:i<σ.length:=by rw[I.len];exact(ya3.mp hi).1
 have cne:=I.cne
 have tracked:∀{a } {h' },(∃o,s.heap.get? a=some o/\H a=none)->Heap.SameBut a s.heap h'->HOk X.prog X.w H h':=fun  ha hs b ob e=>by
  obtain⟨_,_,hfree⟩:=ha;refine(I.hok b ob e).stay (λc w' hc q=>(hs.2 c ?_).trans q) (λ_ q=>q) λ_ _ q=>q
  rintro rfl
  rcases hc with rfl|hc
  .rw[hfree]at e;cases e
  .rw[hfree]at hc;cases hc
 rcases hx with hk|hk
 .refine wpAny_storeName_local hk hn (λh' hn' hs=>?_) hcls
  obtain⟨oL,_,_,hoL,_⟩:=id hn;refine h _ ⟨I.ok,I.os,I.bare,⟨λb o e n hb hx=>?_,λb o e n hb hx=>?_,I.base.free,λb o e hx=>?_,I.base.tups,I.base.frzs,I.base.tbls⟩,⟨_,hn',λj y v' e1 e2 e3=>?_⟩,λy c e=>?_,I.free,I.freeC,λp hp=>?_,tracked ⟨oL,hoL,I.free⟩ hs,by simpa using I.len⟩ ⟨_,hs,.inl rfl⟩
  .exact(hs.2 b (yaj (yab (ya8 e) I.ok.above))).trans (I.base.keep b o e n hb hx)
  .obtain⟨sl,e1⟩:=I.base.slot b o e n hb hx;exact⟨sl,(hs.2 b (yaj (yab (ya8 e) I.ok.above))).trans e1⟩
  .obtain⟨o',e1⟩:=I.base.there b o e hx;exact⟨o',(hs.2 b (yaj (yab (ya8 e) I.ok.above))).trans e1⟩
  .by_cases hj:j=i
   .subst hj;rw[hi]at e1;cases e1;rw[yaa hiσ]at e2;cases e2;exact⟨u,r,.inl ⟨hk,by simp⟩⟩
   .rw[ya5 (yah hj)]at e2;obtain⟨u',r',q⟩:=hl j y v' e1 e2 e3;refine⟨u',r',?_⟩
    rcases q with ⟨k,e⟩|⟨k,c,e,z⟩
    .refine .inl ⟨k,?_⟩;have:y≠x:=λe=>hj (Qb hN e1 (e▸hi))
     simp[this,e]
    .exact .inr ⟨k,c,e,z.sameBut hs (cne y c e)⟩
  .obtain⟨w',z⟩:=I.cell y c e;exact⟨w',z.sameBut hs (cne y c e)⟩
  .obtain⟨e,n,ne,nf,d⟩:=I.pin p hp;exact⟨(hs.2 p.1 ne).trans e,n,ne,nf,d⟩
 .have hfn:X.fn x=true:=by
   rcases hf with z|z
   .exact z
   .rw[z]at hk;cases hk
  obtain⟨c,hc⟩:=I.ok.has x (.inl hk);obtain⟨w',z⟩:=I.cell x c hc;refine wpAny_storeName_cell I.ok.kind hk hc z (λh' hc' hs=>?_)
  obtain⟨oc,hoc,hocd⟩:=id z;refine h { s with heap:=h' } ⟨I.ok,I.os,I.bare,⟨λb o e n hb hx=>?_,λb o e n hb hx=>?_,I.base.free,λb o e hx=>?_,I.base.tups,I.base.frzs,I.base.tbls⟩,⟨m,hn.sameBut hs (yah (cne x c hc)),λj y v' e1 e2 e3=>?_⟩,λy c' e=>?_,I.free,I.freeC,λp hp=>?_,tracked ⟨oc,hoc,I.freeC x c hc⟩ hs,by simpa using I.len⟩ ⟨c,hs,.inr hc⟩
  .exact(hs.2 b (yaj (yab (ya8 e) (I.ok.cab x c hfn hc)))).trans (I.base.keep b o e n hb hx)
  .obtain⟨sl,e1⟩:=I.base.slot b o e n hb hx;exact⟨sl,(hs.2 b (yaj (yab (ya8 e) (I.ok.cab x c hfn hc)))).trans e1⟩
  .obtain⟨o',e1⟩:=I.base.there b o e hx;exact⟨o',(hs.2 b (yaj (yab (ya8 e) (I.ok.cab x c hfn hc)))).trans e1⟩
  .by_cases hj:j=i
   .subst hj;rw[hi]at e1;cases e1;rw[yaa hiσ]at e2;cases e2;exact⟨u,r,.inr ⟨.inl hk,c,hc,hc'⟩⟩
   .rw[ya5 (yah hj)]at e2;obtain⟨u',r',q⟩:=hl j y v' e1 e2 e3;refine⟨u',r',?_⟩
    rcases q with q|⟨k,c',e,z'⟩
    .exact .inl q
    .refine .inr ⟨k,c',e,z'.sameBut hs ?_⟩;rintro rfl;exact hj (Qb hN e1 (I.ok.inj _ _ _ e hc▸hi))
  .by_cases hcc:c'=c
   .subst hcc;exact⟨_,hc'⟩
   .obtain⟨w2,z2⟩:=I.cell y c' e;exact⟨w2,z2.sameBut hs hcc⟩
  .obtain⟨e,n,ne,nf,d⟩:=I.pin p hp;refine⟨(hs.2 p.1 ?_).trans e,n,ne,nf,d⟩;intro q;rw[q,hoc]at e;have q' :=yao e;exact d w' (by rw[<- q'];exact hocd)
theorem Nt(I:Inv X pins σ H s)(hN:X.N.Nodup)(hi:X.N[i]?=some x)(hx:E7 X.env.scope x)(r:AN v u)
  (h:∀s',Inv X pins (σ.set i (some v)) H s'->Q () s') (hf:X.fn x=true\/X.env.scope.names.lookup x=some .local:=by rfl):wpAny M A (storeName X.env x u) Q E s :=
 Nr I hN hi hx r (λs' I' _=>h s' I') hf
theorem Inv.call'   (I:Inv X pins σ H s)(ho:s'.os=s.os)(u:Un (Ax X.stack) ch H H' s.heap s'.heap)(hok:HOk X.prog X.w H' s'.heap)(hg:AllBare s'.gens)
  (hch:∀b∈ch,(b∈X.ex\/X.s₀.heap.objs.size<=b)/\b≠X.env.locals/\(∀x c,X.env.cells.lookup x=some c->c≠b)/\∀p∈X.pn++pins,p.1≠b):Inv X pins σ H' s':=by
 obtain⟨h',g',d',t',o'⟩:=s';have e :=ho;subst e;exact I.call u hok hg hch
end
abbrev XK:=Value->Option Addr->Hp->Prop
abbrev St:=List (Option V)
abbrev VK:=V->Hp->Prop
abbrev TE:=St->Hp->VK->Prop
abbrev TT:=St->Hp->(Bool->Hp->Prop)->Prop
abbrev TA:=St->Hp->(List V->Hp->Prop)->Prop
structure Ends where
 nx:St->Hp->Prop
 rt:VK
 bk:St->Hp->Prop:=λ_ _=>False
 ct:St->Hp->Prop:=λ_ _=>False
abbrev TS:=Ends->St->Hp->Prop
def EP(X:Cx)(pins:List (Addr×Obj))(σ:St)(Q:VK)(u:Value)(s':Shared):Prop:=∃v H',Inv X pins σ H' s'/\AN v u/\Q v H'
def TP(X:Cx)(pins:List (Addr×Obj))(σ:St)(Q:Bool->Hp->Prop)(b:Bool)(s':Shared):Prop:=∃H',Inv X pins σ H' s'/\Q b H'
def AP(X:Cx)(pins:List (Addr×Obj))(σ:St)(Q:List V->Hp->Prop)(us:List Value)(s':Shared):Prop:=∃vs H',Inv X pins σ H' s'/\AK vs us/\Q vs H'
def SP(X:Cx)(pins:List (Addr×Obj))(D:Ends)(f:Flow)(s':Shared):Prop :=
 match f with
 |.next=>∃σ' H',Inv X pins σ' H' s'/\D.nx σ' H'
 |.brk=>∃σ' H',Inv X pins σ' H' s'/\D.bk σ' H'
 |.cont=>∃σ' H',Inv X pins σ' H' s'/\D.ct σ' H'
 |.ret u=>∃v σ' H',Inv X pins σ' H' s'/\AN v u/\D.rt v H'
def PE(X:Cx)(e:Expr)(t:TE):Prop :=
 ∀(pins:List (Addr×Obj)) (s:Shared) (σ:St) (H:Hp) (Q:VK),Inv X pins σ H s->t σ H Q->wpAny (model X.prog X.w) X.A (eval e X.env) (EP X pins σ Q) X.xe s
def PT(X:Cx)(e:Expr)(t:TT):Prop :=
 ∀(pins:List (Addr×Obj)) (s:Shared) (σ:St) (H:Hp) (Q:Bool->Hp->Prop),Inv X pins σ H s->t σ H Q->wpAny (model X.prog X.w) X.A (isTrue e X.env (eval e X.env)) (TP X pins σ Q) X.xe s
def PW(X:Cx)(e:Expr)(t:TT):Prop :=
 ∀(whole:Sem Value) (pins:List (Addr×Obj)) (s:Shared) (σ:St) (H:Hp) (Q:Bool->Hp->Prop),Inv X pins σ H s->t σ H Q->wpAny (model X.prog X.w) X.A (isTrue e X.env whole) (TP X pins σ Q) X.xe s
theorem PW.pt{X:Cx}{e:Expr}{t:TT}(h:PW X e t):PT X e t:=h _
def PA(X:Cx)(es:List Expr)(t:TA):Prop :=
 ∀(pos:Pos) (pins:List (Addr×Obj)) (s:Shared) (σ:St) (H:Hp) (Q:List V->Hp->Prop),Inv X pins σ H s->t σ H Q->wpAny (model X.prog X.w) X.A (spliced (backTo pos (starEach es X.env))) (AP X pins σ Q) X.xe s
def PS(X:Cx)(st:Stmt)(t:TS):Prop :=
 ∀(pins:List (Addr×Obj)) (s:Shared) (σ:St) (H:Hp) (D:Ends),Inv X pins σ H s->t D σ H->wpAny (model X.prog X.w) X.A (exec st X.env) (SP X pins D) X.xe s
def Aq(X:Cx)(st:List Stmt)(t:TS):Prop :=
 ∀(pins:List (Addr×Obj)) (s:Shared) (σ:St) (H:Hp) (D:Ends),Inv X pins σ H s->t D σ H->wpAny (model X.prog X.w) X.A (execs st X.env) (SP X pins D) X.xe s
theorem AJ  {t:Sem α}      (h:wpAny M A t Q E s)(hQ:∀a s,Q a s->Q' a s):wpAny M A t Q' E s:=yda h hQ λ_ _ x=>x
section
variable {X:Cx}
def KW(i:Nat):TE:=λσ H Q=>∃v,σ[i]?=some (some v)/\Q v H
def tC(v:V):TE:=λ_ H Q=>Q v H
theorem DD{pos}(hN:X.N[i]?=some x)(hv:Bs X.env.scope x)(hd:(x == "__debug__")=false:=by decide)(hcd:(x == "__classdict__")=false:=by decide):PE X (.Name x pos) (KW i):=by
 intro pins s σ H Q I h;obtain⟨v,e,h⟩:=h;obtain⟨m,hn,hl⟩:=I.loc;obtain⟨u,r,l⟩:=hl i x v hN e hv;have Ah:EP X pins σ Q u s:=⟨v,H,I,r,h⟩
 rcases l with ⟨hk,hm⟩|⟨hk,c,hc,hcell⟩
 .exact wpAny_Name (wpAny_loadName_local I.ok.kind hk hn hm Ah) hd
 .rcases hk with hk|hk
  .exact wpAny_Name (wpAny_loadName_cell I.ok.kind hk hc hcell Ah) hd
  .exact wpAny_Name (wpAny_loadName_free I.ok.kind hk hc hcell Ah hcd) hd
theorem Iy:PE X (.Constant (.int i) j pos) (tC (.int i)):=λ_ _ _ H _ I h=>wpAny_Constant_int ⟨.int i,H,I.tok _,⟨_,rfl⟩,h⟩
theorem pe_bl:PE X (.Constant (.bool b) j pos) (tC (.bl b)):=λ_ _ _ H _ I h=>Constant_bool ⟨.bl b,H,I,rfl,h⟩
theorem zk1:PE X (.Constant .none j pos) (tC .non):=λ_ _ _ H _ I h=>Constant_none ⟨.non,H,I,rfl,h⟩
theorem Kx:PE X (.Constant (.str x) j pos) (tC (.str x)):=λ_ _ _ H _ I h=>Calls.Constant_str ⟨.str x,H,I.tok _,⟨_,rfl⟩,h⟩
def Gl(X:Cx)(x:Str):Prop:=X.env.kindOf x=some .globalImplicit
theorem HS{σ:St}(I:Inv X pins σ H s)(hg:Gl X x)(hm:X.mg x=some u)(h:Q u s)
  (hd:(x == "__debug__")=false:=by decide):wpAny (model X.prog X.w) X.A (eval (.Name x pos) X.env) Q E s :=
 Calls.Name_function_global I.ok.kind hg (Calls.loadGlobal_global (by rw[I.ok.glob];exact I.mod.glob.keeps I.bk) hm h) hd
theorem GL{E}{σ:St}{pos}(I:Inv X pins σ H s)(hg:Gl X x)(hm:X.mg x=none)(hv:bootBuiltins x=some u)(h:Q u s)
  (hn:x≠"__name__":=by decide) (hd:(x == "__debug__")=false:=by decide):wpAny (model X.prog X.w) X.A (eval (.Name x pos) X.env) Q E s:=by
 obtain⟨mb,h1,h2⟩:=I.mod.blt;exact Calls.Name_function_global I.ok.kind hg (Calls.loadGlobal_builtin (by rw[I.ok.glob];exact I.mod.glob.keeps I.bk) hm (by rw[I.ok.blt];exact h1.keeps I.bk) ((h2 x hn).trans hv) h) hd
theorem P9     (hg:Gl X x)(hm:X.mg x=some u)(r:AN v u)(hd:(x == "__debug__")=false:=by decide):PE X (.Name x pos) (tC v) :=
 λ_ _ _ H _ I h=>HS I hg hm ⟨v,H,I,r,h⟩ hd
theorem zh2{x:Str}{v:V}{u:Value}{pos:Pos}(hg:Gl X x)(hm:X.mg x=none)(hv:bootBuiltins x=some u)(r:AN v u)(hn:x≠"__name__":=by decide)(hd:(x == ("__debug__":Str))=false:=by decide):PE X (.Name x pos) (tC v) :=
 λ_ _ _ H _ I h=>GL I hg hm hv ⟨v,H,I,r,h⟩ hn hd
variable {a b:Expr}{ta tb:TE}{pos:Pos}
def tB(t:TE):TT:=λσ H Q=>t σ H λx H1=>∃c,x=.bl c/\Q c H1
theorem zjp   (h:PE X e t)(he:∀whole,isTrue e X.env whole=(do let v <- whole;standAt e.pos;holding [v] (truthy v)):=by rfl):PT X e (tB t):=by
 intro pins s σ H Q I hw;refine isTrue_plain (AJ (h pins s σ H _ I hw) λv s1 ⟨x,H1,I1,r1,q1⟩=>?_) (he _)
 obtain⟨d,rfl,q⟩:=q1;cases r1;exact ydb ⟨H1,I1,q⟩
variable {tA tB':TT}{Al:List Expr}
def tAnd(t u:TT):TT:=λσ H Q=>t σ H λc H1=>if c=true then u σ H1 Q else Q false H1
def tOr(t u:TT):TT:=λσ H Q=>t σ H λc H1=>if c=true then Q true H1 else u σ H1 Q
def Na(t:TT):TT:=λσ H Q=>t σ H λc H1=>Q (!c) H1
theorem zgq(ha:PT X a tA):PW X (.BoolOp .And [a] pos) tA:=by
 intro wh pins s σ H Q I h;refine isTrue_and (AJ (ha pins s σ H Q I h) λc s1 e=>?_)
 cases c with
 |true=>exact isTrue_and_nil e
 |false=>exact e
theorem zjn(ha:PT X a tA):PW X (.BoolOp .Or [a] pos) tA:=by
 intro wh pins s σ H Q I h;refine isTrue_or (AJ (ha pins s σ H Q I h) λc s1 e=>?_)
 cases c with
 |false=>exact isTrue_or_nil e
 |true=>exact e
theorem zjo(ha:PT X a tA)(hb:PW X (.BoolOp .And (b::Al) pos) tB'):PW X (.BoolOp .And (a::b::Al) pos) (tAnd tA tB'):=by
 intro wh pins s σ H Q I h;refine isTrue_and (AJ (ha pins s σ H _ I h) λc s1 ⟨H1,I1,q1⟩=>?_)
 cases c with
 |true=>exact hb wh pins s1 σ H1 Q I1 q1
 |false=>exact⟨H1,I1,q1⟩
theorem pw_or(ha:PT X a tA)(hb:PW X (.BoolOp .Or (b::Al) pos) tB'):PW X (.BoolOp .Or (a::b::Al) pos) (tOr tA tB'):=by
 intro wh pins s σ H Q I h;refine isTrue_or (AJ (ha pins s σ H _ I h) λc s1 ⟨H1,I1,q1⟩=>?_)
 cases c with
 |true=>exact⟨H1,I1,q1⟩
 |false=>exact hb wh pins s1 σ H1 Q I1 q1
theorem zjq(ha:PT X a tA):PT X (.UnaryOp .Not a pos) (Na tA):=by
 intro pins s σ H Q I h;exact isTrue_not (ha pins s σ H (λc H1=>Q (!c) H1) I h)
def tAndV(ta tb:TE):TE:=λσ H Q=>ta σ H λx H1=>∃c,x=.bl c/\if c=true then tb σ H1 Q else Q (.bl false) H1
def tOrV(ta tb:TE):TE:=λσ H Q=>ta σ H λx H1=>∃c,x=.bl c/\if c=true then Q (.bl true) H1 else tb σ H1 Q
def N9(ta:TE):TE:=λσ H Q=>ta σ H λx H1=>∃c,x=.bl c/\Q (.bl (!c)) H1
theorem zjz(h:PE X a t):PE X (.BoolOp op [a] pos) t:=λpins s σ H Q I hw=>BoolOp_one (h pins s σ H Q I hw)
theorem zk3(ha:PE X a ta)(hb:PE X (.BoolOp .And (b::Al) pos) tb):PE X (.BoolOp .And (a::b::Al) pos) (tAndV ta tb):=by
 intro pins s σ H Q I h;refine BoolOp_and (AJ (ha pins s σ H _ I h) λv s1 ⟨x,H1,I1,r1,q1⟩=>?_)
 obtain⟨c,rfl,q1⟩:=q1;cases r1;refine ydb ?_;cases c with
 |true=>exact hb pins s1 σ H1 Q I1 q1
 |false=>exact⟨.bl false,H1,I1,rfl,q1⟩
theorem pe_or(ha:PE X a ta)(hb:PE X (.BoolOp .Or (b::Al) pos) tb):PE X (.BoolOp .Or (a::b::Al) pos) (tOrV ta tb):=by
 intro pins s σ H Q I h;refine BoolOp_or (AJ (ha pins s σ H _ I h) λv s1 ⟨x,H1,I1,r1,q1⟩=>?_)
 obtain⟨c,rfl,q1⟩:=q1;cases r1;refine ydb ?_;cases c with
 |false=>exact hb pins s1 σ H1 Q I1 q1
 |true=>exact⟨.bl true,H1,I1,rfl,q1⟩
theorem zk0(ha:PE X a ta):PE X (.UnaryOp .Not a pos) (N9 ta):=by
 intro pins s σ H Q I h;refine UnaryOp_ (AJ (ha pins s σ H _ I h) λv s1 ⟨x,H1,I1,r1,q1⟩=>?_)
 obtain⟨c,rfl,q1⟩:=q1;cases r1;exact not_of (ydb ⟨.bl (!c),H1,I1,rfl,q1⟩)
def tIf(t:TT)(ta tb:TE):TE:=λσ H Q=>t σ H λc H1=>if c=true then ta σ H1 Q else tb σ H1 Q
theorem zf0(hc:PT X c tA)(ha:PE X a ta)(hb:PE X b tb):PE X (.IfExp c a b pos) (tIf tA ta tb):=by
 intro pins s σ H Q I h;refine wpAny_IfExp (AJ (hc pins s σ H _ I h) λd s1 ⟨H1,I1,q1⟩=>?_)
 cases d with
 |true=>exact ha pins s1 σ H1 Q I1 q1
 |false=>exact hb pins s1 σ H1 Q I1 q1
end
def AM(K:k7)(H:Hp)(a:Addr)(xs:List V):Prop :=
 Rd H a (.lst xs) \/
  ∃(o:Obj) (its:Array Value) (n:Nat),K.lookup a=some o/\o.cls=.type "list"/\o.dict=none/\o.data=.seq its n/\its.size<=sizeLine/\AK xs its.toList
def BD(K:k7)(H:Hp)(a:Addr)(xs:List V):Prop :=
 Rd H a (.tup xs) \/
  ∃(o:Obj) (its:Array Value) (n:Nat),K.lookup a=some o/\o.cls=.type "tuple"/\o.data=.seq its n/\its.size<=sizeLine/\AK xs its.toList
noncomputable def absV:Value->Option V
 |.none=>some .non
 |.bool b=>some (.bl b)
 |.int i _=>some (.int i)
 |.str x _=>some (.str x)
 |.bytes b _=>some (.byt b)
 |.float b _=>some (.flt b)
 |.ref a=>some (.ref a)
 |.type n=>some (.ty n)
 |_=>none
theorem AN.abs(r:AN x u):absV u=some x:=by
 cases x with
 |non=>cases r;rfl
 |bl _=>cases r;rfl
 |int _=>obtain⟨t,rfl⟩:=r;rfl
 |str _=>obtain⟨t,rfl⟩:=r;rfl
 |byt _=>obtain⟨t,rfl⟩:=r;rfl
 |flt _=>obtain⟨t,rfl⟩:=r;rfl
 |ref _=>cases r;rfl
 |ty _=>cases r;rfl
theorem AN.inj(r:AN x u)(q:AN y u):x=y:=yao (r.abs.symm.trans q.abs)
theorem AK.inj:∀{xs ys} {us},AK xs us->AK ys us->xs=ys
 |_,_,_,.nil,.nil=>rfl
 |_,_,_,.cons r t,.cons r' t'=>by rw[r.inj r',AK.inj t t']
section
variable {X:Cx}{pins:List (Addr×Obj)}{σ:St}{H:Hp}{s:Shared}{a:Addr}{xs ys:List V}
theorem AM.of{K:k7}(h:H a=some (.lst xs)):AM K H a xs:=.inl (.inl h)
theorem BD.of{K:k7}(h:H a=some (.tup xs)):BD K H a xs:=.inl (.inl h)
theorem Inv.list(I:Inv X pins σ H s)(h:AM X.K H a xs):∃its ,AK xs its/\PlainL s.heap a its.toArray/\xs.length<=sizeLine:=by
 rcases h with h|⟨o,its,n,hk,hc,hd,hs,hz,r⟩
 .obtain⟨z,its,n,r,e⟩:=h.ok I.hok;exact⟨its,r,⟨_,n,e,rfl,rfl,rfl⟩,z⟩
 .refine⟨its.toList,r,⟨o,n,I.kIn a o hk,hc,hd,by omega⟩,?_⟩
  have e:=r.length
  grind
theorem Inv.tuple(I:Inv X pins σ H s)(h:BD X.K H a xs):∃its ,AK xs its/\IsTup s.heap a its.toArray/\xs.length<=sizeLine:=by
 rcases h with h|⟨o,its,n,hk,hc,hs,hz,r⟩
 .obtain⟨z,its,r,p⟩:=h.ok I.hok
  grind
 .refine⟨its.toList,r,⟨o,I.kIn a o hk,hc,n,by omega⟩,?_⟩
  have e:=r.length
  grind
theorem Inv.list_inj(I:Inv X pins σ H s)(h:AM X.K H a xs)(h':AM X.K H a ys):xs=ys:=by
 obtain⟨its,r,⟨o,n,e,_,_,d⟩,_⟩:=I.list h;obtain⟨its',r',⟨o',n',e',_,_,d'⟩,_⟩:=I.list h';have:its=its':=by grind
 subst this;exact r.inj r'
theorem Inv.tuple_inj(I:Inv X pins σ H s)(h:BD X.K H a xs)(h':BD X.K H a ys):xs=ys:=by
 obtain⟨its,r,⟨o,e,_,n,d⟩,_⟩:=I.tuple h;obtain⟨its',r',⟨o',e',_,n',d'⟩,_⟩:=I.tuple h';have:its=its':=by grind
 subst this;exact r.inj r'
end
noncomputable abbrev Cx.wish(X:Cx)(E:Value->Shared->Prop):Cx:={ X with xe:=E }
abbrev Cx.nox(X:Cx):Cx:=X.wish λ_ _=>False
theorem Cx.Ok.wish{X:Cx}(ok:X.Ok)(E):(X.wish E).Ok :=
 ⟨ok.mod,ok.kind,ok.glob,ok.blt,ok.above,ok.inj,ok.has,ok.cab,ok.hd,ok.frames,ok.stk,ok.exf,ok.bs,ok.bsz,ok.noex,ok.exfs,ok.funs,ok.frf⟩
theorem Cx.Ok.unwish{X:Cx}(ok:(X.wish E).Ok):X.Ok :=
 ⟨ok.mod,ok.kind,ok.glob,ok.blt,ok.above,ok.inj,ok.has,ok.cab,ok.hd,ok.frames,ok.stk,ok.exf,ok.bs,ok.bsz,ok.noex,ok.exfs,ok.funs,ok.frf⟩
section
variable {X:Cx}{pins:List (Addr×Obj)}{σ:St}{H:Hp}{s:Shared}{E:Value->Shared->Prop}
theorem Inv.wish(I:Inv X pins σ H s)(E):Inv (X.wish E) pins σ H s:=⟨I.ok.wish E,I.os,I.bare,I.base,I.loc,I.cell,I.free,I.freeC,I.pin,I.hok,I.len⟩
theorem Inv.unwish(I:Inv (X.wish E) pins σ H s):Inv X pins σ H s:=⟨I.ok.unwish,I.os,I.bare,I.base,I.loc,I.cell,I.free,I.freeC,I.pin,I.hok,I.len⟩
theorem SP.unwish(h:SP (X.wish E) pins D f s'):SP X pins D f s':=by
 cases f with
 |next=>obtain⟨σ',H',I,q⟩:=h;exact⟨σ',H',I.unwish,q⟩
 |brk=>obtain⟨σ',H',I,q⟩:=h;exact⟨σ',H',I.unwish,q⟩
 |cont=>obtain⟨σ',H',I,q⟩:=h;exact⟨σ',H',I.unwish,q⟩
 |ret u=>obtain⟨v,σ',H',I,r,q⟩:=h;exact⟨v,σ',H',I.unwish,r,q⟩
theorem PE.nox(h:PE X.nox e t):PE X e t:=λpins s σ H Q I hw =>
 yda (h pins s σ H Q (I.wish _) hw) (λ_ _ ⟨v,H',I',r,q⟩=>⟨v,H',I'.unwish,r,q⟩) λ_ _ z=>False.elim z
theorem PT.nox(h:PT X.nox e t):PT X e t:=λpins s σ H Q I hw =>
 yda (h pins s σ H Q (I.wish _) hw) (λ_ _ ⟨H',I',q⟩=>⟨H',I'.unwish,q⟩) λ_ _ z=>False.elim z
theorem Aq.nox{st}(h:Aq X.nox st t):Aq X st t:=λpins s σ H D I hw =>
 yda (h pins s σ H D (I.wish _) hw) (λ_ _ q=>q.unwish) λ_ _ z=>False.elim z
end
section
variable {X:Cx}{st:Stmt}{Al:List Stmt}{t u:TS}{e:Expr}{te:TE}{pos:Pos}
def Nc:TS:=λD σ H=>D.nx σ H
def N7(t u:TS):TS:=λD σ H=>t { D with nx:=u D } σ H
theorem zgu:Aq X [] Nc:=λ_ _ σ H _ I h=>wpAny_execs_nil ⟨σ,H,I,h⟩
theorem Ks(h1:PS X st t)(h2:Aq X Al u):Aq X (st::Al) (N7 t u):=by
 intro pins s σ H D I h;refine wpAny_execs_cons (AJ (h1 pins s σ H { D with nx:=u D } I h) λf s1 q=>?_)
 cases f with
 |next =>
  obtain⟨σ',H',I',q⟩:=q;exact h2 pins s1 σ' H' D I' q
 |ret v=>exact q
 |brk=>exact q
 |cont=>exact q
theorem Kr(h1:PS X st t):Aq X [st] t:=by
 intro pins s σ H D I h;refine wpAny_execs_cons (AJ (h1 pins s σ H D I h) λf s1 q=>?_)
 cases f with
 |next=>exact wpAny_execs_nil q
 |ret v=>exact q
 |brk=>exact q
 |cont=>exact q
theorem zgw:PS X (.Pass pos) Nc:=λ_ _ σ H _ I h=>wpAny_Pass ⟨σ,H,I,h⟩
theorem Inv.quiet  {σ:St}   (I:Inv X pins σ H s):interactive X.env=false:=by simp[interactive,I.ok.kind]
def tDrop(te:TE):TS:=λD σ H=>te σ H λ_ H1=>D.nx σ H1
theorem EU(he:PE X e te)(hs:swapsWith e none pos.line X.env=pure false:=by rfl):PS X (.Expr e pos) (tDrop te):=by
 intro pins s σ H D I h;exact wpAny_Expr_any (AJ (he pins s σ H _ I h) λv s1 ⟨x,H1,I1,r1,q1⟩=>⟨σ,H1,I1,q1⟩) I.quiet hs
def tRet(te:TE):TS:=λD σ H=>te σ H D.rt
theorem zjr(he:PE X e te):PS X (.Return (some e) pos) (tRet te):=by
 intro pins s σ H D I h;exact wpAny_Return_some (AJ (he pins s σ H _ I h) λv s1 ⟨x,H1,I1,r1,q1⟩=>⟨x,σ,H1,I1,r1,q1⟩)
def tRetN:TS:=λD _ H=>D.rt .non H
theorem zgv:PS X (.Return none pos) tRetN:=λ_ _ σ H _ I h=>wpAny_Return_none ⟨.non,σ,H,I,rfl,h⟩
def tIfS(c:TT)(t u:TS):TS:=λD σ H=>c σ H λb H1=>if b=true then t D σ H1 else u D σ H1
theorem ps_if(hc:PT X c tc)(ha:Aq X a t)(hb:Aq X b u):PS X (.If c a b pos) (tIfS tc t u):=by
 intro pins s σ H D I h;refine wpAny_If (AJ (hc pins s σ H _ I h) λd s1 ⟨H1,I1,q1⟩=>?_)
 cases d with
 |true=>exact ha pins s1 σ H1 D I1 q1
 |false=>exact hb pins s1 σ H1 D I1 q1
end
abbrev TG:=V->St->Hp->(St->Hp->Prop)->Prop
abbrev G1:=List V->St->Hp->(St->Hp->Prop)->Prop
def PG(X:Cx)(target:Expr)(t:TG):Prop :=
 ∀(pins:List (Addr×Obj)) (s:Shared) (σ:St) (H:Hp) (v:V) (u:Value) (Q:St->Hp->Prop),Inv X pins σ H s->AN v u->t v σ H Q ->
  wpAny (model X.prog X.w) X.A (assign target X.env u) (λ_ s'=>∃σ' H',Inv X pins σ' H' s'/\Q σ' H') X.xe s
def Co(X:Cx)(ts:List Expr)(t:G1):Prop :=
 ∀(pins:List (Addr×Obj)) (s:Shared) (σ:St) (H:Hp) (vs:List V) (us:List Value) (Q:St->Hp->Prop),Inv X pins σ H s->AK vs us->t vs σ H Q ->
  wpAny (model X.prog X.w) X.A (assignInOrder ((assignEach ts X.env).map (·.2)) us) (λ_ s'=>∃σ' H',Inv X pins σ' H' s'/\Q σ' H') X.xe s
abbrev My:=V->V->V->Hp->(Hp->Prop)->Prop
def TV(X:Cx)(t:My):Prop :=
 ∀(pins:List (Addr×Obj)) (s:Shared) (σ:St) (H:Hp) (o i v:V) (ov iv u:Value) (Q:Hp->Prop),Inv X pins σ H s->AN o ov->AN i iv->AN v u->t o i v H Q ->
  wpAny (model X.prog X.w) X.A (setItem ov iv u) (λ_ s'=>∃H',Inv X pins σ H' s'/\Q H') X.xe s
section
variable {X:Cx}{pos:Pos}
def DY(i:Nat):TG:=λv σ H Q=>Q (σ.set i (some v)) H
theorem Iw{i:Nat}{x:Str}(hN:X.N.Nodup)(hi:X.N[i]?=some x)(hx:E7 X.env.scope x)(hf:X.fn x=true\/X.env.scope.names.lookup x=some .local:=by rfl):PG X (.Name x pos) (DY i):=by
 intro pins s σ H v u Q I r h;exact wpAny_assign_Name (Nt I hN hi hx r (λs' I'=>⟨_,H,I',h⟩) hf)
def gNil:G1:=λvs σ H Q=>vs=[]/\Q σ H
def gCons(t:TG)(u:G1):G1:=λvs σ H Q=>∃v r,vs=v::r/\t v σ H λσ' H'=>u r σ' H' Q
theorem P1:Co X [] gNil:=by
 intro pins s σ H vs us Q I r h;obtain⟨e,h⟩:=h;exact assignInOrder_nil ⟨σ,H,I,h⟩
theorem Kw(h1:PG X e t)(h2:Co X es u)
  (hs:(assignEach (e::es) X.env).map (·.2)=assign e X.env::(assignEach es X.env).map (·.2):=by rfl):Co X (e::es) (gCons t u):=by
 intro pins s σ H vs us Q I r h;obtain⟨v,vr,e1,h⟩:=h;subst e1;cases r with
 |cons r rr =>
  rw[hs];refine assignInOrder_cons (AJ (h1 pins s σ H _ _ _ I r h) λ_ s1 ⟨σ1,H1,I1,q1⟩=>?_)
  exact h2 pins s1 σ1 H1 _ _ Q I1 rr q1
def MA(K:k7)(n:Nat)(t:G1):TG:=λv σ H Q=>∃a xs,v=.ref a/\BD K H a xs/\xs.length=n/\t xs σ H Q
theorem P4{k}(hc:X.calm=true)(h:Co X es t)
  (hn:(assignEach es X.env).length=n:=by rfl) (hst:(assignEach es X.env).findIdx? (·.1)=none:=by rfl):PG X (.Tuple es k pos) (MA X.K n t):=by
 intro pins s σ H v u Q I r hw;obtain⟨a,xs,e1,hq,hl,hw⟩:=hw;subst e1;cases r;obtain⟨its,rv,ht,hz⟩:=I.tuple hq;refine assign_Tuple_tuple (I.ok.hd hc) ht (by simp[hn,<- hl,rv.length]) hst λh' hx=>?_
 have I1 :=I.kept (t':=s.toks) λb o e=>hx b o (yaj (ya8 e)) e
 exact h pins _ σ H xs _ Q I1 (by omega) hw
def gSub(to ti:TE)(t:My):TG:=λv σ H Q=>to σ H λo H1=>ti σ H1 λi H2=>t o i v H2 λH3=>Q σ H3
theorem zjx(ho:PE X o to)(hi:PE X i ti)(hs:TV X t)
  (ha : ∀ v, assign (.Subscript o i pos) X.env v = (do
   let ov <- holding [v] (eval o X.env);let iv <- holding [v,ov] (eval i X.env)
   standAt pos
   holding [v,ov,iv] (setItem ov iv v)
   release [v,ov,iv] []):=by rfl):PG X (.Subscript o i pos) (gSub to ti t):=by
 intro pins s σ H v u Q I r h;refine ydc (ydd (AJ (ho pins s σ H _ I h) λov s1 ⟨x,H1,I1,r1,q1⟩=>?_))
 refine ydc (ydd (AJ (hi pins s1 σ H1 _ I1 q1) λiv s2 ⟨y,H2,I2,r2,q2⟩=>?_))
 refine ydc (yde (ydc (ydd (AJ (hs pins s2 σ H2 x y v ov iv u _ I2 r1 r2 r q2) λ_ s3 ⟨H3,I3,q3⟩=>?_))))
 exact wpAny_release ⟨σ,H3,I3,q3⟩
def Ea(te:TE)(g:TG):TS:=λD σ H=>te σ H λx H1=>g x σ H1 D.nx
theorem PX{tg e:Expr}{te:TE}{g:TG}(he:PE X e te)(hg:PG X tg g)(hs:swapsWithSole [tg] e pos.line X.env=pure false:=by rfl)(hw:swappedStores [tg] e X.env=pure none:=by rfl)
  (h1:(assignEach [tg] X.env).map (·.2)=[assign tg X.env]:=by rfl):PS X (.Assign [tg] e pos) (Ea te g):=by
 intro pins s σ H D I h;refine wpAny_Assign_stores (AJ (he pins s σ H _ I h) λv s1 ⟨x,H1,I1,r1,q1⟩=>?_) hs hw
 rw[h1];exact AJ (hg pins s1 σ H1 x v _ I1 r1 q1) λ_ s2 q=>q
theorem Kt      (hN:X.N.Nodup)(hi:X.N[i]?=some x)(hx:E7 X.env.scope x)(he:PE X e te)(hs:swapsWith e (some (.Name x pos')) pos.line X.env=pure false:=by rfl)(hf:X.fn x=true\/X.env.scope.names.lookup x=some .local:=by rfl) :
  PS X (.Assign [.Name x pos'] e pos) (Ea te (DY i)):=by
 intro pins s σ H D I h;refine wpAny_Assign_Name (AJ (he pins s σ H _ I h) λv s1 ⟨y,H1,I1,r1,q1⟩=>?_) hs
 exact Nt I1 hN hi hx r1 (λs2 I2=>⟨_,H1,I2,q1⟩) hf
end
section
variable {X:Cx}{pos:Pos}
end
structure It where
 go:Nat->Hp->Prop
 yld:Nat->Hp->V->Hp->Prop
 stop:Nat->Hp->Prop
def Bz(X:Cx)(pins:List (Addr×Obj))(H:Hp)(b:Addr):Prop :=
 H b=none/\b≠X.env.locals/\b∉X.fs/\(b∈X.ex\/X.s₀.heap.objs.size<=b)/\(∀x c,X.env.cells.lookup x=some c->c≠b)/\∀p∈X.pn++pins,p.1≠b
theorem Inv.fpOk{X:Cx}{σ:St}{b:Addr}(I:Inv X pins σ H s)(hb:s.heap.objs.size<=b)(hn:H' b=none):Bz X pins H' b:=by
 refine⟨hn,Nat.ne_of_gt (yab I.lt hb),I.nofs hb,.inr (yaf I.sz hb),λx c e z=>?_,λp hp z=>?_⟩
 .obtain⟨v,q⟩:=I.cell x c e;exact absurd (yab q.lt (by grind)) (yav _)
 .exact absurd (yab (ya8 (I.pin p hp).1) (by grind)) (yav _)
structure Turn(P:Program)(w:World)(K:k7)(tg:Expr)(J:It)(fp:List Addr)(it:Addr)(tn:Nat->Heap->Prop):Prop where
 mem:it∈fp
 obj:∀i h,tn i h->∀b∈fp,∃o,h.get? b=some o/\∀v,o.data≠.cell v
 keep:∀i h h',tn i h->(∀b∈fp,∀o,h.get? b=some o->h'.get? b=some o)->tn i h'
 item:∀(X:Cx),X.prog=P->X.w=w->X.K=K->X.calm=true->∀(i:Nat) (pins:List (Addr×Obj)) (s:Shared) (σ:St) (H:Hp) (E:Value->Shared->Prop),Inv X pins σ H s->(∀b∈fp,Bz X pins H b)->tn i s.heap->J.go i H ->
  wpAny (model P w) X.A (pyNext (.ref it)) (λr s1=>∃u,r=some u /\
   wpAny (model P w) X.A (letOwnedTupleGo tg (.ref it) u) (λ_ s2=>∃x H',Inv X pins σ H' s2/\AN x u/\J.yld i H x H'/\tn (i+1) s2.heap/\∀b∈fp,H' b=none) E s1) E s
 done:∀(X:Cx),X.prog=P->X.w=w->X.K=K->X.calm=true->∀(i:Nat) (pins:List (Addr×Obj)) (s:Shared) (σ:St) (H:Hp) (E:Value->Shared->Prop),Inv X pins σ H s->(∀b∈fp,Bz X pins H b)->tn i s.heap->J.stop i H ->
  wpAny (model P w) X.A (pyNext (.ref it)) (λr s1=>r=none/\Inv X pins σ H s1) E s
 self:∀(A:Around) (i:Nat) (s:Shared) (Q:Value->Shared->Prop) (E:Value->Shared->Prop),tn i s.heap->Q (.ref it) s->wpAny (model P w) A (pyIter (.ref it)) Q E s
abbrev TI:=St->Hp->(It->Hp->Prop)->Prop
def TX(X:Cx)(pins:List (Addr×Obj))(σ:St)(tg:Expr)(R:It->Hp->Prop)(itv:Value)(s2:Shared):Prop :=
 ∃(it:Addr) (fp:List Addr) (tn:Nat->Heap->Prop) (J:It) (H':Hp),itv=.ref it/\Inv X pins σ H' s2/\Turn X.prog X.w X.K tg J fp it tn/\tn 0 s2.heap/\(∀b∈fp,Bz X pins H' b)/\R J H'
def PI(X:Cx)(tg iter:Expr)(wi:TI):Prop :=
 ∀(pins:List (Addr×Obj)) (s:Shared) (σ:St) (H:Hp) (R:It->Hp->Prop),Inv X pins σ H s->wi σ H R ->
  wpAny (model X.prog X.w) X.A (eval iter X.env) (λv s1=>wpAny (model X.prog X.w) X.A (pyIter v) (TX X pins σ tg R) X.xe s1) X.xe s
theorem J3            (ho:s.heap.get? it=some o)(hc:o.cls=.type n)(hd:o.data=.fields vs)
    (hn:["enumerate","zip","dict_itemiterator","dict_reverseitemiterator","odict_iterator","itertools.zip_longest","itertools.pairwise"].contains n=false) (hQ:Q () s):wpAny M A (letOwnedTupleGo tg (.ref it) u) Q E s:=by
  unfold letOwnedTupleGo
  cases tg<;>first
    |exact ydf hQ
    |(cases u<;>first
        |exact ydf hQ
        | (refine ydc (wpAny_load ho ?_)
           rw[hc,hd];show wpAny M A (if (["enumerate","zip","dict_itemiterator","dict_reverseitemiterator","odict_iterator","itertools.zip_longest","itertools.pairwise"].contains n && vs[0]? == some (rawInt _))=true then _ else _) Q E s
           rw[if_neg (by intro h;rw[hn,Bool.false_and]at h;cases h)]
           exact ydf hQ))
def NJ(K:k7)(a:Addr):It :=
 ⟨λi H=>∃xs x,AM K H a xs/\xs[i]?=some x,λi H x H'=>H'=H/\∀xs,AM K H a xs->xs[i]?=some x,λi H=>∃xs,AM K H a xs/\xs.length<=i⟩
def NI(K:k7)(a:Addr):It :=
 ⟨λi H=>∃xs x,BD K H a xs/\xs[i]?=some x,λi H x H'=>H'=H/\∀xs,BD K H a xs->xs[i]?=some x,λi H=>∃xs,BD K H a xs/\xs.length<=i⟩
def Jx(lo:Int)(n:Nat):It:=⟨λi _=>i<n,λi H x H'=>H'=H/\x=.int (lo+i),λi _=>n<=i⟩
theorem zcs{K}(a it):Turn P w K tg (NJ K a) [it] it (λi h=>h.IsListIter it a i) where
 mem:=by simp
 obj:=λi h st b hb=>by
  have e :=by simpa using hb
  subst e;obtain⟨o,e,c,d⟩:=st;exact⟨o,e,λv z=>by rw[d]at z;cases z⟩
 keep:=λi h h' st k=>st.at λo e=>k it (by simp) o e
 item:=by
  intro X hP hw hK hc i pins s σ H E I hf st hg;subst hP hw hK;obtain⟨xs,x,hq,hx⟩:=hg;obtain⟨its,rv,p,hz⟩:=I.list hq;obtain⟨u,hu,ru⟩:=rv.get hx;obtain⟨f0,f1,f2,f3,f4,f5⟩:=hf it (by simp)
  refine wpAny_pyNext_list_item st p.isList (by simpa using hu) λh' st' sb=>?_
  have I1 :=I.turned (t':=s.toks) (λb o hb e=>(sb.2 b hb).trans e) f0 f1 f3 f4 f5
  obtain⟨o,e,c,d⟩:=id st';exact⟨u,rfl,J3 e c d (by decide) ⟨x,H,I1,ru,⟨rfl,λys hy=>by rw[I.list_inj hy hq];exact hx⟩,st',λb hb=>(hf b hb).1⟩⟩
 done:=by
  intro X hP hw hK hc i pins s σ H E I hf st hg;subst hP hw hK;obtain⟨xs,hq,hx⟩:=hg;obtain⟨its,rv,p,hz⟩:=I.list hq;obtain⟨f0,f1,f2,f3,f4,f5⟩:=hf it (by simp)
  have hl:=rv.length;exact wpAny_pyNext_list_end (I.ok.hd hc) st p.isList (by simp;omega) λh' eb=>⟨rfl,I.turned (λb o hb e=>eb b o hb e) f0 f1 f3 f4 f5⟩
 self:=λ_ _ _ _ _ st h=>wpAny_pyIter_listiter st h
theorem zc9{K}(a it):Turn P w K tg (NI K a) [it] it (λi h=>h.IsTupleIter it a i) where
 mem:=by simp
 obj:=λi h st b hb=>by
  have e :=by simpa using hb
  subst e;obtain⟨o,e,c,d⟩:=st;exact⟨o,e,λv z=>by rw[d]at z;cases z⟩
 keep:=λi h h' st k=>st.at λo e=>k it (by simp) o e
 item:=by
  intro X hP hw hK hc i pins s σ H E I hf st hg;subst hP hw hK;obtain⟨xs,x,hq,hx⟩:=hg;obtain⟨its,rv,p,hz⟩:=I.tuple hq;obtain⟨u,hu,ru⟩:=rv.get hx;obtain⟨f0,f1,f2,f3,f4,f5⟩:=hf it (by simp)
  refine wpAny_pyNext_tuple_item st (p) (by simpa using hu) λh' st' sb=>?_
  have I1 :=I.turned (t':=s.toks) (λb o hb e=>(sb.2 b hb).trans e) f0 f1 f3 f4 f5
  obtain⟨o,e,c,d⟩:=id st';exact⟨u,rfl,J3 e c d (by decide) ⟨x,H,I1,ru,⟨rfl,λys hy=>by rw[I.tuple_inj hy hq];exact hx⟩,st',λb hb=>(hf b hb).1⟩⟩
 done:=by
  intro X hP hw hK hc i pins s σ H E I hf st hg;subst hP hw hK;obtain⟨xs,hq,hx⟩:=hg;obtain⟨its,rv,p,hz⟩:=I.tuple hq;obtain⟨f0,f1,f2,f3,f4,f5⟩:=hf it (by simp)
  have hl:=rv.length;exact wpAny_pyNext_tuple_end (I.ok.hd hc) st (p) (by simp;omega) λh' eb=>⟨rfl,I.turned (λb o hb e=>eb b o hb e) f0 f1 f3 f4 f5⟩
 self:=λ_ _ _ _ _ st h=>wpAny_pyIter_tupleiter st h
theorem zca{K}(it)(lo)(n):Turn P w K tg (Jx lo n) [it] it (λi h=>IsRangeIter h it (lo+i * 1) (n - i) 1) where
 mem:=by simp
 obj:=λi h st b hb=>by
  have e :=by simpa using hb
  subst e
  exact⟨_,st,λv z=>by
   have z' :=z;cases z'⟩
 keep:=λi h h' st k=>k it (by simp) _ st
 item:=by
  intro X hP hw hK hc i pins s σ H E I hf st hg;subst hP hw hK;obtain⟨f0,f1,f2,f3,f4,f5⟩:=hf it (by simp)
  have W:=Walks.range (prog:=X.prog) (w:=X.w) (I.ok.hd hc) it lo 1 n;refine W.item i s _ _ hg st λv h' tk hv st' kk=>?_
  obtain⟨t,rfl⟩:=hv;have I1:Inv X pins σ H { s with heap:=h',toks:=tk }:=I.turned (λb o hb e=>kk b o (by simpa using hb) e) f0 f1 f3 f4 f5
  refine⟨_,rfl,J3 st' rfl rfl (by decide) ⟨.int (lo+i),H,I1,⟨t,?_⟩,⟨rfl,rfl⟩,st',λb hb=>(hf b hb).1⟩⟩
  rw[Int.mul_one]
 done:=by
  intro X hP hw hK hc i pins s σ H E I hf st hg;subst hP hw hK;obtain⟨f0,f1,f2,f3,f4,f5⟩:=hf it (by simp)
  exact wpAny_pyNext_range_end (I.ok.hd hc) st (by have:n<=i:=hg;omega) λh' eb=>⟨rfl,I.turned (λb o hb e=>eb b o hb e) f0 f1 f3 f4 f5⟩
 self:=λ_ _ _ _ _ st h=>wpAny_pyIter_rangeiter st h
section
variable {X:Cx}{tg:Expr}
def iList(K:k7)(tl:TE):TI:=λσ H R=>tl σ H λx H1=>∃a,x=.ref a/\(∃xs,AM K H1 a xs)/\R (NJ K a) H1
def iTup(K:k7)(tl:TE):TI:=λσ H R=>tl σ H λx H1=>∃a,x=.ref a/\(∃xs,BD K H1 a xs)/\R (NI K a) H1
theorem Kv(hl:PE X l tl):PI X tg l (iList X.K tl):=by
 intro pins s σ H R I h;refine AJ (hl pins s σ H _ I h) λv s1 ⟨x,H1,I1,r1,q1⟩=>?_
 obtain⟨a,e,⟨xs,hq⟩,q⟩:=q1;subst e;cases r1;obtain⟨its,rv,p,hz⟩:=I1.list hq;refine ydg p.isList ?_;refine⟨s1.heap.objs.size,[s1.heap.objs.size],_,_,H1,rfl,I1.kept λb o e=>ya4 _ e,zcs a _,⟨_,yai _ rfl,rfl,rfl⟩,λb hb=>?_,q⟩
 have e:b=s1.heap.objs.size:=by grind
 subst e;exact I1.fpOk (ya6 _) (I1.hok.fresh (ya6 _))
theorem zjv(hl:PE X l tl):PI X tg l (iTup X.K tl):=by
 intro pins s σ H R I h;refine AJ (hl pins s σ H _ I h) λv s1 ⟨x,H1,I1,r1,q1⟩=>?_
 obtain⟨a,e,⟨xs,hq⟩,q⟩:=q1;subst e;cases r1;obtain⟨its,rv,p,hz⟩:=I1.tuple hq;refine wpAny_pyIter_tuple (p) ?_;refine⟨s1.heap.objs.size,[s1.heap.objs.size],_,_,H1,rfl,I1.kept λb o e=>ya4 _ e,zc9 a _,⟨_,yai _ rfl,rfl,rfl⟩,λb hb=>?_,q⟩
 have e:b=s1.heap.objs.size:=by grind
 subst e;exact I1.fpOk (ya6 _) (I1.hok.fresh (ya6 _))
theorem zeu  {σ:St}{H:Hp}    {lo hi:Int}   (I:Inv X pins σ H s)(h1:-(2 ^ 62)<=lo)(h2:lo<2 ^ 62)(h3:-(2 ^ 62)<=hi)(h4:hi<2 ^ 62)
  (q:R (Jx lo (hi - lo).toNat) H):wpAny (model X.prog X.w) X.A (pyIter (.ref s.heap.objs.size)) (TX X pins σ tg R) E { s with heap:=s.heap.push { cls:=.type "range",data:=.fields #[.int lo t,.int hi u,.int 1 v] },toks:=tk }:=by
 refine wpAny_pyIter_range (IsRange.new ..) (small_one h1 h2 h3 h4) ?_;have I1:Inv X pins σ H { s with heap:=s.heap.push { cls:=.type "range",data:=.fields #[.int lo t,.int hi u,.int 1 v] },toks:=tk }:=I.kept λb o e=>ya4 _ e
 refine⟨(s.heap.push { cls:=.type "range",data:=.fields #[.int lo t,.int hi u,.int 1 v] }).objs.size,[(s.heap.push { cls:=.type "range",data:=.fields #[.int lo t,.int hi u,.int 1 v] }).objs.size],_,_,H,rfl,
  I1.kept λb o e=>ya4 _ e,zca _ lo (hi - lo).toNat,?_,λb hb=>?_,q⟩
 .have e1:lo+(0:Nat) * 1=lo:=by simp
  have e2:(hi - lo).toNat - (0:Nat)=Builtin.Range.rangeSize lo hi 1:=by rw[rangeSize_one];grind
  rw[e1,e2];exact yai _ rfl
 .have e:b=(s.heap.push { cls:=.type "range",data:=.fields #[.int lo t,.int hi u,.int 1 v] }).objs.size:=by grind
  subst e;exact I1.fpOk (ya6 _) (I1.hok.fresh (ya6 _))
def iRng1(ta:TA):TI:=λσ H R=>ta σ H λvs H1=>∃j:Int,vs=[.int j]/\-(2 ^ 62)<=j/\j<2 ^ 62/\R (Jx 0 j.toNat) H1
theorem zd1(hg:Gl X "range")(hm:X.mg "range"=none)(ha:PA X [a] ta)(hs:starEach [a] X.env=[(false,eval a X.env)]:=by rfl):PI X tg (.Call (.Name "range" p) [a] [] pos) (iRng1 ta):=by
 intro pins s σ H R I h;refine Call_ (GL I hg hm boot_range (ybh (AJ (ha pos pins s σ H _ I h) λus s1 ⟨vs,H1,I1,r1,q1⟩=>?_) hs rfl))
 obtain⟨j,e,q1,q2,q⟩:=q1;subst e;cases r1 with
 |cons r rr =>
  cases rr;obtain⟨t,rfl⟩:=r;exact call_range_1 (zeu I1 (by omega) (by omega) q1 q2 (by simpa using q))
def tFor(wi:TI)(g:TG)(tb:TS):TS:=λD σ H=>wi σ H λJ H1=>∃W:Nat->Nat->St->Hp->Prop,(∃m,W 0 m σ H1)/\∀i m σ H,W i m σ H ->
 (J.stop i H/\D.nx σ H)\/(J.go i H/\∃N:St->Hp->Prop,(∀σ' H',N σ' H'->∃m',m'<m/\W (i+1) m' σ' H')/\∀x H',J.yld i H x H'->g x σ H' λσ2 H2=>tb { D with nx:=N,ct:=N,bk:=D.nx } σ2 H2)
def FX(fp:List Addr)(h:Heap):List (Addr×Obj):=fp.filterMap λb=>(h.get? b).map λo=>(b,o)
theorem FZ(hb:b∈fp)(e:h.get? b=some o):(b,o)∈FX fp h:=ybv.mpr ⟨b,hb,by rw[e];rfl⟩
theorem Pm(hp:p∈FX fp h):p.1∈fp/\h.get? p.1=some p.2:=by
 obtain⟨b,hb,e⟩:=ybv.mp hp;cases q:h.get? b with
 |none=>grind
 |some o =>
  grind
theorem Inv.pinned{σ:St}(I:Inv X pins σ H s)(hf:∀b∈fp,Bz X pins H b)(ho:∀b∈fp,∃o,s.heap.get? b=some o/\∀v,o.data≠.cell v):Inv X (pins++FX fp s.heap) σ H s :=
 I.pins_of λp hp=>(yb3.mp hp).elim (λz=>I.pin p (yag _ z)) λz=>by
  obtain⟨hb,e⟩:=Pm z;obtain⟨f0,f1,f2,_⟩:=hf p.1 hb
  grind
theorem Inv.unpinned{σ:St}(I:Inv X (pins++pl) σ H s):Inv X pins σ H s:=I.pins_of λp hp=>I.pin p (yag _ (ybo _ hp))
theorem Ku(hp:PassesOwn (model X.prog X.w) X.A X.env X.xe)(hc:X.calm=true)(hi:PI X tg iter wi)(hg:PG X tg g)(hb:Aq X body tb)
  (hs:∀x,foldedSetIterable iter X.env x=pure x:=by intro _;rfl):PS X (.For tg iter body [] pos) (tFor wi g tb):=by
 intro pins s σ H D I h;refine wpAny_For (AJ (hi pins s σ H _ I h) λv s1 h1=>AJ h1 λitv s2 h2=>?_) hs
 obtain⟨it,fp,tn,J,H2,e,I2,T,st2,f2,W,⟨m0,w0⟩,turn⟩:=h2;subst e;have stat:∀{H' },(∀b∈fp,H' b=none)->∀b∈fp,Bz X pins H' b:=λhn b hb=>⟨hn b hb,(f2 b hb).2⟩
 refine codeAny_forLoop_any (λn s'=>∃i σ' H',Inv X pins σ' H' s'/\tn i s'.heap/\(∀b∈fp,H' b=none)/\W i n σ' H') ?_ m0 ⟨0,σ,H2,I2,st2,λb hb=>(f2 b hb).1,w0⟩
 rintro n s3 ⟨i,σ3,H3,I3,st3,fr3,w3⟩
 rcases turn i n σ3 H3 w3 with ⟨stop,qn⟩|⟨go,N,hN,step⟩
 .refine ydh hp (AJ (T.done X rfl rfl rfl hc i pins s3 σ3 H3 X.xe I3 (stat fr3) st3 stop) λr s4 ⟨hr,I4⟩=>?_)
  subst hr;exact wpAny_execs_nil ⟨σ3,H3,I4,qn⟩
 .refine ydh hp (AJ (T.item X rfl rfl rfl hc i pins s3 σ3 H3 X.xe I3 (stat fr3) st3 go) λr s4 ⟨u,hr,h4⟩=>?_)
  subst hr;refine ydh hp (AJ h4 λ_ s5 ⟨x,H5,I5,r5,y5,st5,fr5⟩=>?_)
  have I5':=I5.pinned (stat fr5) (T.obj _ _ st5);refine ydh hp (AJ (hg _ s5 σ3 H5 x u _ I5' r5 (step x H5 y5)) λ_ s6 ⟨σ6,H6,I6,q6⟩=>?_)
  refine ydh hp (AJ (hb _ s6 σ6 H6 _ I6 q6) λf s7 q7=>?_)
  have again:∀{σ7 } {H7 },Inv X (pins++FX fp s5.heap) σ7 H7 s7->N σ7 H7->∃m,m<n/\∃i σ' H',Inv X pins σ' H' s7/\tn i s7.heap/\(∀b∈fp,H' b=none)/\W i m σ' H':=λ{σ7 H7} I7 n7=>by
   obtain⟨m',hm,w7⟩:=hN σ7 H7 n7;refine⟨m',hm,i+1,σ7,H7,I7.unpinned,T.keep _ _ _ st5 λb hb o e=>(I7.pin (b,o) (yag _ (yag _ (FZ hb e)))).1,λb hb=>?_,w7⟩
   obtain⟨o,e,d⟩:=T.obj _ _ st5 b hb;exact(I7.pin (b,o) (yag _ (yag _ (FZ hb e)))).2.1
  cases f with
  |next=>obtain⟨σ7,H7,I7,n7⟩:=q7;exact again I7 n7
  |cont=>obtain⟨σ7,H7,I7,n7⟩:=q7;exact again I7 n7
  |brk=>obtain⟨σ7,H7,I7,q7⟩:=q7;exact⟨σ7,H7,I7.unpinned,q7⟩
  |ret v=>obtain⟨x7,σ7,H7,I7,r7,q7⟩:=q7;exact⟨x7,σ7,H7,I7.unpinned,r7,q7⟩
end
abbrev R2:=V->V->Hp->VK->Prop
def AX(X:Cx)(f:Value->Value->Sem Value)(r:R2):Prop :=
 ∀(pins:List (Addr×Obj)) (s:Shared) (σ:St) (H:Hp) (x y:V) (v u:Value) (Q:VK),Inv X pins σ H s->AN x v->AN y u->r x y H Q ->
  wpAny (model X.prog X.w) X.A (f v u) (EP X pins σ Q) X.xe s
def Hm(X:Cx)(f:Value->Sem Value)(r:V->Hp->VK->Prop):Prop :=
 ∀(pins:List (Addr×Obj)) (s:Shared) (σ:St) (H:Hp) (x:V) (v:Value) (Q:VK),Inv X pins σ H s->AN x v->r x H Q ->
  wpAny (model X.prog X.w) X.A (f v) (EP X pins σ Q) X.xe s
def BW(X:Cx)(f:Value)(r:List V->Hp->VK->Prop):Prop :=
 ∀(pins:List (Addr×Obj)) (s:Shared) (σ:St) (H:Hp) (xs:List V) (us:List Value) (Q:VK),Inv X pins σ H s->AK xs us->r xs H Q ->
  wpAny (model X.prog X.w) X.A (call f us) (EP X pins σ Q) X.xe s
def Fu(r:R2)(ta tb:TE):TE:=λσ H Q=>ta σ H λx H1=>tb σ H1 λy H2=>r x y H2 Q
def N5(r:V->Hp->VK->Prop)(ta:TE):TE:=λσ H Q=>ta σ H λx H1=>r x H1 Q
def rI(C:Int->Int->Prop)(g:Int->Int->V):R2:=λx y H Q=>∃i j,x=.int i/\y=.int j/\C i j/\Q (g i j) H
def EF(g:Int->Int->V):R2:=λx y H Q=>∃i j,x=.int i/\y=.int j/\Q (g i j) H
def rU(g:Int->V):V->Hp->VK->Prop:=λx H Q=>∃i,x=.int i/\Q (g i) H
section
variable {X:Cx}{a b c:Expr}{ta tb tc:TE}{pos:Pos}
theorem Mp(ha:PE X a ta)(hb:PE X b tb){σ:St}{R:V->V->Hp->Prop}(I:Inv X pins σ H s)
  (h:ta σ H λx H1=>tb σ H1 λy H2=>R x y H2)  {f:Value->Value->Sem Value}
  (hf:∀v u s2 x y H2,Inv X pins σ H2 s2->AN x v->AN y u->R x y H2->wpAny (model X.prog X.w) X.A (f v u) Q X.xe s2) :
  wpAny (model X.prog X.w) X.A (eval a X.env) (λv s₁=>wpAny (model X.prog X.w) X.A (eval b X.env) (λu s₂=>wpAny (model X.prog X.w) X.A (f v u) Q X.xe s₂) X.xe s₁) X.xe s:=by
 refine AJ (ha pins s σ H _ I h) λv s1 ⟨x,H1,I1,r1,q1⟩=>?_
 refine AJ (hb pins s1 σ H1 _ I1 q1) λu s2 ⟨y,H2,I2,r2,q2⟩=>?_
 grind
theorem pe_op(ho:AX X (binaryOp op) r)(ha:PE X a ta)(hb:PE X b tb):PE X (.BinOp a op b pos) (Fu r ta tb):=by
 intro pins s σ H Q I h;exact wpAny_BinOp (Mp ha hb I h λv u s2 x y H2 I2 rx ry q=>ho pins s2 σ H2 x y v u Q I2 rx ry q)
theorem pe_un(ho:Hm X (unaryOp op) r)(ha:PE X a ta):PE X (.UnaryOp op a pos) (N5 r ta):=by
 intro pins s σ H Q I h;exact UnaryOp_ (AJ (ha pins s σ H _ I h) λv s1 ⟨x,H1,I1,r1,q1⟩=>ho pins s1 σ H1 x v Q I1 r1 q1)
theorem HD{g:Int->Int->Int}
  (rule:∀(i j ) (t u ) (s ) (Q ) (E ),C i j->Q (.int (g i j) s.toks) { s with toks:=s.toks+1 }->wpAny (model X.prog X.w) X.A (f (.int i t) (.int j u)) Q E s) :
  AX X f (rI C λi j=>.int (g i j)):=by
 intro pins s σ H x y v u Q I rx ry h;obtain⟨i,j,rfl,rfl,hc,q⟩:=h;obtain⟨t,rfl⟩:=rx;obtain⟨t',rfl⟩:=ry;exact rule i j t t' s _ _ hc ⟨.int (g i j),H,I.tok _,⟨_,rfl⟩,q⟩
theorem Pg{g:Int->Int->Int}
  (rule:∀(i j ) (t u ) (s ) (Q ) (E ),Q (.int (g i j) s.toks) { s with toks:=s.toks+1 }->wpAny (model X.prog X.w) X.A (f (.int i t) (.int j u)) Q E s) :
  AX X f (EF λi j=>.int (g i j)):=by
 intro pins s σ H x y v u Q I rx ry h;obtain⟨i,j,rfl,rfl,q⟩:=h;obtain⟨t,rfl⟩:=rx;obtain⟨t',rfl⟩:=ry;exact rule i j t t' s _ _ ⟨.int (g i j),H,I.tok _,⟨_,rfl⟩,q⟩
theorem JD{g:Int->Int->Bool}
  (rule:∀(i j ) (t u ) (s ) (Q ) (E ),Q (.bool (g i j)) s->wpAny (model X.prog X.w) X.A (f (.int i t) (.int j u)) Q E s) :
  AX X f (EF λi j=>.bl (g i j)):=by
 intro pins s σ H x y v u Q I rx ry h;obtain⟨i,j,rfl,rfl,q⟩:=h;obtain⟨t,rfl⟩:=rx;obtain⟨t',rfl⟩:=ry;exact rule i j t t' s _ _ ⟨.bl (g i j),H,I,rfl,q⟩
def CPow(i j:Int):Prop:=0<=j/\j<=1000000/\i.natAbs<2 ^ 64
def NN(i j:Int):Prop:=(-(2 ^ 64)<i/\i<2 ^ 64)\/(-(2 ^ 64)<j/\j<2 ^ 64)
theorem NN.ok(h:NN i j):IntMulOk i j:=by
 rcases h with ⟨h1,h2⟩|⟨h1,h2⟩
 .exact .of_left (intBits_le_64 h1 h2)
 .exact .of_right (intBits_le_64 h1 h2)
theorem zkb:AX X (binaryOp .Add) (EF λi j=>.int (i+j)):=Pg λ_ _ _ _ _ _ _ q=>add_int q
theorem zk5:AX X (binaryOp .Sub) (EF λi j=>.int (i - j)):=Pg λ_ _ _ _ _ _ _ q=>sub_int q
theorem Pe:AX X (binaryOp .Mult) (rI NN λi j=>.int (i * j)):=HD λ_ _ _ _ _ _ _ hc q=>mul_int q hc.ok
theorem zh7:AX X (binaryOp .Mod) (rI (λ_ j=>j≠0) λi j=>.int (i.fmod j)):=HD λ_ _ _ _ _ _ _ hc q=>mod_int' hc q
theorem zk7:AX X (binaryOp .Pow) (rI CPow λi j=>.int (i ^ j.toNat)):=HD λ_ _ _ _ _ _ _ hc q=>pow_int_small hc.1 hc.2.1 hc.2.2 q
theorem unI{g:Int->Int}
  (rule:∀(i ) (t ) (s ) (Q ) (E ),Q (.int (g i) s.toks) { s with toks:=s.toks+1 }->wpAny (model X.prog X.w) X.A (f (.int i t)) Q E s) :
  Hm X f (rU λi=>.int (g i)):=by
 intro pins s σ H x v Q I rx h;obtain⟨i,rfl,q⟩:=h;obtain⟨t,rfl⟩:=rx;exact rule i t s _ _ ⟨.int (g i),H,I.tok _,⟨_,rfl⟩,q⟩
theorem zij:Hm X (unaryOp .USub) (rU λi=>.int (-i)):=unI λ_ _ _ _ _ q=>neg_int q
end
section
variable {X:Cx}{a b c:Expr}{ta tb tc:TE}{pos:Pos}
theorem Hb{σ:St}(I:Inv X pins σ H s)(q:Q (.bl k) H)(e:k=k'):EP X pins σ Q (.bool k') s:=by
 subst e;exact⟨.bl k,H,I,rfl,q⟩
theorem op_lt:AX X (compareOp .Lt) (EF λi j=>.bl (decide (i<j))):=JD λ_ _ _ _ _ _ _ q=>lt_int q
theorem Pf:AX X (compareOp .LtE) (EF λi j=>.bl (decide (i<=j))):=JD λ_ _ _ _ _ _ _ q=>le_int q
theorem op_gt:AX X (compareOp .Gt) (EF λi j=>.bl (decide (j<i))):=JD λ_ _ _ _ _ _ _ q=>gt_int q
theorem op_ge:AX X (compareOp .GtE) (EF λi j=>.bl (decide (j<=i))):=JD λ_ _ _ _ _ _ _ q=>ge_int q
theorem zd2:AX X (compareOp .In) (λx y H Q=>∃i j,x=.str i/\y=.str j/\Q (.bl (!(Builtin.Str.occurrences j i 0 j.length 1).isEmpty)) H):=by
 intro pins s σ H x y v u Q I rx ry h;obtain⟨i,j,rfl,rfl,q⟩:=h;obtain⟨t,rfl⟩:=rx;obtain⟨t',rfl⟩:=ry;exact in_str (Hb I q rfl)
theorem zk8:AX X (compareOp .Is) (λx y H Q=>y=.non/\Q (.bl (decide (x=.non))) H):=by
 intro pins s σ H x y v u Q I rx ry h;obtain⟨rfl,q⟩:=h;cases ry;refine is_none_gen (Hb I q ?_)
 cases x<;>first
  |rfl
  |(obtain⟨t,rfl⟩:=rx;rfl)
theorem zh4:AX X (compareOp .IsNot) (λx y H Q=>y=.non/\Q (.bl (!decide (x=.non))) H):=by
 intro pins s σ H x y v u Q I rx ry h;obtain⟨rfl,q⟩:=h;cases ry;refine isnot_none_gen (Hb I q ?_)
 cases x<;>first
  |rfl
  |(obtain⟨t,rfl⟩:=rx;rfl)
theorem AX.or   (h:AX X f r)(h':AX X f r'):AX X f (λx y H Q=>r x y H Q\/r' x y H Q):=by
 intro pins s σ H x y v u Q I rx ry q
 rcases q with q|q
 .exact h pins s σ H x y v u Q I rx ry q
 .exact h' pins s σ H x y v u Q I rx ry q
theorem zh0   (ho:AX X (compareOp op) r)(ha:PE X a ta)(hb:PE X b tb)(hm:behindInMarks op b=false):PE X (.Compare a [op] [b] pos) (Fu r ta tb):=by
 intro pins s σ H Q I h;exact wpAny_Compare1 (Mp ha hb I h λv u s2 x y H2 I2 rx ry q=>ho pins s2 σ H2 x y v u Q I2 rx ry q) hm
def N6(t:TE):TT:=λσ H Q=>t σ H λx H'=>∃k,x=.bl k/\Q k H'
theorem zgt(ho:AX X (compareOp op) r)(ha:PE X a ta)(hb:PE X b tb)(hm:behindInMarks op b=false):PT X (.Compare a [op] [b] pos) (N6 (Fu r ta tb)):=by
 intro pins s σ H Q I h
 refine wpAny_isTrue_Compare1 (AJ (ha pins s σ H _ I h) λv s1 ⟨x,H1,I1,r1,q1⟩=>AJ (hb pins s1 σ H1 _ I1 q1) λu s2 ⟨y,H2,I2,r2,q2⟩ =>
  AJ (ho pins s2 σ H2 x y v u _ I2 r1 r2 q2) λc s3 ⟨z,H3,I3,r3,k,e,q3⟩=>?_) hm
 subst e;cases r3;exact ydb ⟨H3,I3,q3⟩
def K2(r r':R2)(ta tb tc:TE):TE:=λσ H Q=>ta σ H λx H1=>tb σ H1 λy H2=>r x y H2 λz H3=>∃k,z=.bl k /\
 (if k=true then tc σ H3 λw' H4=>r' y w' H4 Q else Q (.bl false) H3)
theorem zf1(ho:AX X (compareOp op) r)(ho':AX X (compareOp op') r')(ha:PE X a ta)(hb:PE X b tb)(hc:PE X c tc)
  (hm:lastMarks [op,op'] [b,c]=false:=by rfl):PE X (.Compare a [op,op'] [b,c] pos) (K2 r r' ta tb tc):=by
 intro pins s σ H Q I h
 refine Compare_chain (AJ (ha pins s σ H _ I h) λv s1 ⟨x,H1,I1,r1,q1⟩=>chain_link (AJ (hb pins s1 σ H1 _ I1 q1) λu s2 ⟨y,H2,I2,r2,q2⟩ =>
  AJ (ho pins s2 σ H2 x y v u _ I2 r1 r2 q2) λd s3 ⟨z,H3,I3,r3,k,e,q3⟩=>?_)) hm
 subst e;cases r3;refine ydb ?_;cases k with
 |false=>exact ite_ff ⟨.bl false,H3,I3,rfl,q3⟩
 |true=>exact ite_tt (chain_last (AJ (hc pins s3 σ H3 _ I3 q3) λw' s4 ⟨z',H4,I4,r4,q4⟩=>ho' pins s4 σ H4 y z' u w' Q I4 r2 r4 q4))
theorem zey(ho:AX X (compareOp op) r)(ho':AX X (compareOp op') r')(ha:PE X a ta)(hb:PE X b tb)(hc:PE X c tc)
  (hm:lastMarks [op,op'] [b,c]=false:=by rfl):PT X (.Compare a [op,op'] [b,c] pos) (N6 (K2 r r' ta tb tc)):=by
 intro pins s σ H Q I h
 refine isTrue_chain (AJ (ha pins s σ H _ I h) λv s1 ⟨x,H1,I1,r1,q1⟩=>test_link (AJ (hb pins s1 σ H1 _ I1 q1) λu s2 ⟨y,H2,I2,r2,q2⟩ =>
  AJ (ho pins s2 σ H2 x y v u _ I2 r1 r2 q2) λd s3 ⟨z,H3,I3,r3,k,e,q3⟩=>?_)) hm
 subst e;cases r3;refine ydb ?_;cases k with
 |false =>
  obtain⟨k',e',q'⟩:=q3;cases e';exact ite_ff ⟨H3,I3,q'⟩
 |true =>
  refine ite_tt (test_last (AJ (hc pins s3 σ H3 _ I3 q3) λw' s4 ⟨z',H4,I4,r4,q4⟩=>AJ (ho' pins s4 σ H4 y z' u w' _ I4 r2 r4 q4) λd' s5 ⟨z2,H5,I5,r5,k2,e2,q5⟩=>?_))
  subst e2;cases r5;exact ydb ⟨H5,I5,q5⟩
theorem JO:(sizeLine:Nat)<2 ^ 63:=by rw[ydi];decide
theorem zcd:AX X (binaryOp .Add) (λx y H Q=>∃i j,x=.str i/\y=.str j/\i.length+j.length<=sizeLine/\Q (.str (i++j)) H):=by
 intro pins s σ H x y v u Q I rx ry h;obtain⟨i,j,rfl,rfl,hz,q⟩:=h;obtain⟨t,rfl⟩:=rx;obtain⟨t',rfl⟩:=ry;exact add_str (λt' tk=>⟨.str (i++j),H,I.tok _,⟨_,rfl⟩,q⟩) hz
theorem FJ(r:AK [x] us):∃u,us=[u]/\AN x u:=by
 cases r with
 |cons r1 r2=>cases r2;grind
theorem Fp(r:AK [x,y] us):∃u w',us=[u,w']/\AN x u/\AN y w':=by
 cases r with
 |cons r1 r2 =>
  cases r2 with
  |cons r3 r4=>cases r4;grind
theorem zfy:BW X (.builtin "abs") (λxs H Q=>∃i,xs=[.int i]/\Q (.int (if i<0 then -i else i)) H):=by
 intro pins s σ H xs us Q I r h;obtain⟨i,rfl,q⟩:=h;obtain⟨u,rfl,t,rfl⟩:=FJ r;exact call_abs_int λu tk=>⟨.int (if i<0 then -i else i),H,I.tok _,⟨_,rfl⟩,q⟩
def LenV(K:k7)(x:V)(H:Hp)(n:Nat):Prop :=
 match x with
 |.str y=>y.length<=sizeLine/\n=y.length
 |.byt y=>y.size<=sizeLine/\n=y.size
 |.ref p=>(∃xs,AM K H p xs/\n=xs.length)\/∃xs,BD K H p xs/\n=xs.length
 |_=>False
theorem Sr:BW X (.builtin "len") (λxs H Q=>∃x n,xs=[x]/\LenV X.K x H n/\Q (.int n) H):=by
 intro pins s σ H xs us Q I r h;obtain⟨x,n,rfl,e,q⟩:=h;obtain⟨u,rfl,rx⟩:=FJ r;have hl:=JO;have hs :=ydi;cases x with
 |str y =>
  obtain⟨t,rfl⟩:=rx;obtain⟨hy,e'⟩:y.length<=sizeLine/\n=y.length:=e;subst e';exact len_str (by omega) ⟨.int _,H,I.tok _,⟨_,rfl⟩,q⟩
 |byt y =>
  obtain⟨t,rfl⟩:=rx;obtain⟨hy,e'⟩:y.size<=sizeLine/\n=y.size:=e;subst e';exact PySem.W.len_bytes (by omega) ⟨.int _,H,I.tok _,⟨_,rfl⟩,q⟩
 |ref p =>
  cases rx;have e' :=e
  rcases e' with ⟨xs,hx,e'⟩|⟨xs,hx,e'⟩
  .subst e';obtain⟨its,r',pl,hz⟩:=I.list hx;have hlen:=r'.length;exact Calls.call_len_list pl.isList (by simp only[yay];omega) ⟨.int xs.length,H,I.tok _,⟨_,by simp only[yay];rw[hlen]⟩,q⟩
  .subst e';obtain⟨its,r',pl,hz⟩:=I.tuple hx;have hlen:=r'.length;exact len_tuple pl (by grind) ⟨.int xs.length,H,I.tok _,⟨_,by simp only[yay];rw[hlen]⟩,q⟩
 |_=>exact(e).elim
end
structure ObjM(h:Heap)(x dx C:Addr)(mA:Str->Option Value):Prop where
 obj:h.get? x=some (PySem.W.instObj C dx)
 ns:h.Ns1 dx mA
 ne:dx≠x
theorem zda{h:Heap}(n:h.Ns1 dx mA):∃od,h.get? dx=some od/\∀name,PySem.W.lookIn name od=some (mA name):=by
 obtain⟨o,es,ep,ho,hd,hk,_,hm⟩:=n;refine⟨o,ho,λname=>?_⟩
 have e:=hm name;unfold nsFind findBy at e;rw[<- Array.find?_toList]at e;unfold PySem.W.lookIn;rw[hd];dsimp only;split
 .grind
 .have a:es.toList.any (·.refKey)=false:=by
   rw[List.any_eq_false];intro y hy;obtain⟨z,t,hkey⟩:=hk y (Array.mem_toList_iff.mp hy);simp[DictEntry.refKey,hkey]
  grind
theorem ObjM.look(I:ObjM h x dx C mA):∃od,PySem.W.InstAt h x (PySem.W.instObj C dx) C (some od)/\∀name,PySem.W.lookIn name od=some (mA name) :=
 let ⟨od,ho,hl⟩:=zda I.ns
 ⟨od,⟨I.obj,rfl,rfl,ho⟩,hl⟩
section
variable {prog:Program}{w:World}{A:Around}{E:Value->Shared->Prop}{s:Shared}{K:k7}{x dx C f:Addr}{mA:Str->Option Value}{name:Str}{v:Value}
theorem zi0(X:K.In s.heap)(I:ObjM s.heap x dx C mA)(hg:PySem.W.plainGet K C name=true)(hh:PySem.W.hasDictIn K C=true)
  (ha:PySem.W.findIn K (.ref C) name=some none) (hv:mA name=some v) (hv':PySem.W.handedIn v=true) (h:Q v { s with toks:=s.toks+1 }) :
  wpAny (model prog w) A (getAttr (.ref x) name expr) Q E s:=by
 obtain⟨od,J,hl⟩:=I.look;exact PySem.W.get_value X J (ycw hg).1 (PySem.W.findObj_own hh ha rfl (by rw[hl,hv])) hv' h
theorem zfl(X:K.In s.heap)(I:ObjM s.heap x dx C mA)(hg:PySem.W.plainGet K C name=true)
  (hf:PySem.W.findIn K (.ref C) name=some (some (.ref f))) (ht:PySem.W.isFn K (.ref f)=true) (hv:mA name=none) (h:Q (.ref f,[.ref x]) s) :
  wpAny (model prog w) A (getMethod (.ref x) name pl) Q E s:=by
 obtain⟨od,J,hl⟩:=I.look;exact PySem.W.method_fn X J (ycw hg).1 (ycw hg).2 hf (beq_iff_eq.mp ht) (by show(PySem.W.lookIn name od).map (·.isSome)=some false;grind) h
theorem zge(X:K.In s.heap)(I:ObjM s.heap x dx C mA)
  (hs:PySem.W.findIn K (.ref C) "__setattr__"=some (some (.builtin "object.__setattr__"))) (hp:PySem.W.plainOver K C=true) (ht:PySem.W.takerIn K C name=some none) (hh:PySem.W.hasDictIn K C=true)
  (hw:PySem.Within mA ns) (hsz:ns.length<=sizeLine)
  (h:∀h',ObjM h' x dx C (λy=>if y=name then some v else mA y)->Heap.SameBut dx s.heap h'->Q () { s with heap:=h',toks:=s.toks+2 }) :
  wpAny (model prog w) A (setAttr (.ref x) name v) Q E s:=by
 obtain⟨od,J,hl⟩:=I.look;refine PySem.W.set_plain X J hs (PySem.W.osa_open X J hp ht λb=>?_)
 obtain⟨cd,hc,hd'⟩:=PySem.W.any_some hh;have hx :=I.obj;refine ydc (ydf (ydc (ydc (wpAny_loadPart hx (ydc (PySem.W.Looks.here (PySem.W.looks_clsIn X hc) ?_))))));rw[hd'];refine ydf (ydc (ydf (ydc ?_)));refine wpAny_nsSet1 I.ns λh' hn2 hs2=>?_
 obtain⟨oD,esD,epD,hoD,hdD,hcD⟩:=hn2.count (PySem.Within.cons name v hw);refine ydc (wpAny_lookBehind hoD (by rw[hdD];exact pastItsLine_dict (yaf hcD (by grind))) ?_)
 exact ydf (h _ ⟨(hs2.2 _ (yah I.ne)).trans I.obj,hn2,I.ne⟩ hs2)
theorem zf8    (X:K.In s.heap)(hm:PySem.W.makesIn K C=true)
  (hi:PySem.W.findIn K (.ref C) "__init__"=some (some (.ref f))) (hf:PySem.W.typeIn K (.ref f)=some (.type "function"))
  (h : codeAny (model prog w) (A.under (.builtin "type.__call__" ⟨.ref C :: vs, kw⟩)) (.call (.ref f) ⟨.ref (s.heap.objs.size + 1) :: vs, kw⟩) (PySem.W.InitBack (s.heap.objs.size + 1) R)
   { s with heap:=(s.heap.push PySem.W.emptyDict).push (PySem.W.instObj C s.heap.objs.size) }) :
  codeAny (model prog w) A (.call (.ref C) ⟨vs,kw⟩) R s:=by
 exact PySem.W.make_core (PySem.W.makes_of X hm) (PySem.W.looks_findIn X hi) (λself=>PySem.W.bind_fn X self hf) (.inl rfl) h
end
def CQ(f:Str)(v:V):List (Str×V)->List (Str×V)
 |[]=>[(f,v)]
 |(g,x)::r=>if g=f then (g,v)::r else (g,x)::CQ f v r
theorem Qy(f g)(v):∀fs ,(CQ f v fs).lookup g=if g=f then some v else fs.lookup g
 |[]=>by
  show List.lookup g [(f,v)]=_
  grind
 |(k,x)::r=>by
  have ih:=Qy f g v r;rw[show CQ f v ((k,x)::r)=(if k=f then (k,v)::r else (k,x)::CQ f v r) from rfl]
  grind
theorem Ln(f)(v):∀fs ,f∈(CQ f v fs).map (·.1)/\∀g,g∈fs.map (·.1)->g∈(CQ f v fs).map (·.1)
 |[]=>⟨by simp[CQ],λg h=>by simp at h⟩
 |(k,x)::r=>by
  obtain⟨i1,i2⟩:=Ln f v r;rw[show CQ f v ((k,x)::r)=(if k=f then (k,v)::r else (k,x)::CQ f v r) from rfl]
  grind
theorem RD(f)(v):∀fs ,(CQ f v fs).length<=fs.length+1
 |[]=>by simp[CQ]
 |(k,x)::r=>by
  have ih:=RD f v r;rw[show CQ f v ((k,x)::r)=(if k=f then (k,v)::r else (k,x)::CQ f v r) from rfl]
  grind
theorem C0.some_of(r:C0 (some v) o):∃u,o=some u/\AN v u:=by
 cases o with
 |none=>exact(r).elim
 |some u=>exact⟨u,rfl,r⟩
theorem C0.none_of(r:C0 none o):o=none:=by
 cases o with
 |none=>rfl
 |some u=>exact(r).elim
theorem zdi(r:AN v u):PySem.W.handedIn u=true:=by
 cases v with
 |non=>cases (r);rfl
 |bl b=>cases (r);rfl
 |int i=>obtain⟨t,e⟩:=(r);cases e;rfl
 |str x=>obtain⟨t,e⟩:=(r);cases e;rfl
 |byt b=>obtain⟨t,e⟩:=(r);cases e;rfl
 |flt b=>obtain⟨t,e⟩:=(r);cases e;rfl
 |ref a=>cases (r);rfl
 |ty n=>cases (r);rfl
section
variable {P:Program}{w:World}{H H':Hp}{h h':Heap}{a C dx:Addr}{fs fs':List (Str×V)}
theorem JZ(hok:HOk P w H h)(e:H a=some (.ins C dx fs)):∃mA,ObjM h a dx C mA/\(∀f,C0 (fs.lookup f) (mA f))/\PySem.Within mA (fs.map (·.1))/\fs.length<=1000/\H dx=some (.own a):=by
 obtain⟨d,z,ne,ob,mA,n,r,q⟩:=(hok a _ e);exact⟨mA,⟨ob,n,ne⟩,r,q,z,d⟩
end
structure Cls(K:k7)(C:Addr):Prop where
 pg:PySem.W.plainGet K C Str.empty=true
 hd:PySem.W.hasDictIn K C=true
 po:PySem.W.plainOver K C=true
 sa:PySem.W.findIn K (.ref C) "__setattr__"=some (some (.builtin "object.__setattr__"))
theorem Cls.get{K}(c:Cls K C)(f):PySem.W.plainGet K C f=true:=c.pg
def Bd(K:k7)(C:Addr)(f:Str):Prop:=PySem.W.findIn K (.ref C) f=some none
theorem Bd.taker{K}(n:Bd K C f):PySem.W.takerIn K C f=some none:=by
 unfold PySem.W.takerIn;rw[n]
 rfl
structure Meth(K:k7)(C:Addr)(m:Str)(f:Addr):Prop where
 at_:PySem.W.findIn K (.ref C) m=some (some (.ref f))
 fn:PySem.W.isFn K (.ref f)=true
 kp:PySem.W.keepIn K (.ref f)=true
section
variable {X:Cx}{pins:List (Addr×Obj)}{σ:St}{H:Hp}{s:Shared}{a C dx:Addr}{fs:List (Str×V)}{f:Str}{v:V}{A:Around}{E:Value->Shared->Prop}
theorem zck(I:Inv X pins σ H s)(e:H a=some (.ins C dx fs))(c:Cls X.K C)(n:Bd X.K C f)(l:fs.lookup f=some v)
  (h:∀u s',Inv X pins σ H s'->AN v u->Q u s'):wpAny (model X.prog X.w) A (getAttr (.ref a) f b) Q E s:=by
 obtain⟨mA,O,r,_,_,_⟩:=JZ I.hok e;obtain⟨u,hu,ru⟩:=C0.some_of (v:=v) (o:=mA f) (by grind)
 exact zi0 I.kIn O (c.get f) c.hd n hu (zdi ru) (h u _ (I.tok _) ru)
theorem R8(I:Inv X pins σ H s)(e:H a=some (.ins C dx fs))(c:Cls X.K C)(k:Meth X.K C m g)(l:fs.lookup m=none)
  (h:Q (.ref g,[.ref a]) s):wpAny (model X.prog X.w) A (getMethod (.ref a) m pl) Q E s:=by
 obtain⟨mA,O,r,_,_,_⟩:=JZ I.hok e;have hn:mA m=none:=C0.none_of (by grind)
 exact zfl I.kIn O (c.get m) k.at_ k.fn hn h
theorem zcb(I:Inv X pins σ H s)(e:H a=some (.ins C dx fs))(c:Cls X.K C)(n:Bd X.K C f)(hl:fs.length<1000)(ry:AN y u)
  (h:∀s',Inv X pins σ (upd H a (.ins C dx (CQ f y fs))) s'->Q () s'):wpAny (model X.prog X.w) A (setAttr (.ref a) f u) Q E s:=by
 obtain⟨mA,O,r,wi,_,ho⟩:=JZ I.hok e;have hz:(fs.map (·.1)).length<=sizeLine:=by rw[ya2,ydi];omega
 refine zge I.kIn O c.sa c.po n.taker c.hd wi hz λh' O' sb=>h _ ?_
 have hd:∃o,h'.get? dx=some o:=let ⟨o,_,_,e',_⟩:=O'.ns;⟨o,e'⟩;refine I.write (by rw[e];exact True.intro) (.inr ho) (λb q hb z=>(sb.2 b hb).trans z) hd ?_
 refine⟨by rw[AZ O.ne];exact ho,?_,O.ne,O'.obj,_,O'.ns,λg=>?_,λg hg=>?_⟩
 .have:=RD f y fs;omega
 .rw[Qy]
  by_cases q:g=f
  .rw[if_pos q,if_pos q];exact ry
  .rw[if_neg q,if_neg q];exact r g
 .by_cases q:g=f
  .rw[q];exact(Ln f y fs).1
  .refine(Ln f y fs).2 g (wi g λz=>hg ?_)
   grind
theorem Inv.made(I:Inv X pins σ H s):Inv X pins σ (upd (upd H s.heap.objs.size (.own (s.heap.objs.size+1))) (s.heap.objs.size+1) (.ins C s.heap.objs.size []))
  { s with heap:=(s.heap.push PySem.W.emptyDict).push (PySem.W.instObj C s.heap.objs.size) }:=by
 have e1:(s.heap.push PySem.W.emptyDict).get? s.heap.objs.size=some PySem.W.emptyDict:=yai s.heap rfl
 have e2:((s.heap.push PySem.W.emptyDict).push (PySem.W.instObj C s.heap.objs.size)).get? (s.heap.objs.size+1)=some (PySem.W.instObj C s.heap.objs.size):=by
  have:=yai (s.heap.push PySem.W.emptyDict) (o:=PySem.W.instObj C s.heap.objs.size) rfl
  simp_all
 have e3:(s.heap.push PySem.W.emptyDict).Ns s.heap.objs.size (λ_=>none):=⟨PySem.W.emptyDict,#[],_,e1,rfl,(λe he=>absurd he (by simp)),λ_=>rfl⟩
 have I1:=I.laid (o:=.own (s.heap.objs.size+1)) (t':=s.toks) (λb u q=>ya4 _ q) (ya6 _) ⟨_,e1⟩
 refine I1.laid (λb u q=>ya4 _ q) (Nat.le_of_eq (ybq _ _)) ?_
 have ne:s.heap.objs.size≠s.heap.objs.size+1:=yaj (ycn _);refine⟨by rw[AZ ne,Be],ybf _,ne,e2,λ_=>none,(Heap.Ns1.of_empty e3).at λo q=>ya4 _ q,λ_=>True.intro,λy hy=>absurd rfl hy⟩
theorem zic         (hb:attributeBase e f env (eval e env)=eval e env)
  (h:wpAny (model prog w) A (eval e env) (λo s₁=>wpAny (model prog w) A (getAttr o f true) Q E s₁) E s):wpAny (model prog w) A (eval (.Attribute e f pos) env) Q E s :=
 Attribute_any_ h (by rw[arm_eval_Attribute,hb])
end
def tFld(K:k7)(ta:TE)(f:Str):TE:=λσ H Q=>ta σ H λx H1=>∃a C dx fs v,x=.ref a/\H1 a=some (.ins C dx fs)/\Cls K C/\Bd K C f/\fs.lookup f=some v/\Q v H1
def sFld(K:k7)(ta tv:TE)(f:Str):TS:=λD σ H=>tv σ H λy H1=>ta σ H1 λx H2=>∃a C dx fs,x=.ref a/\H2 a=some (.ins C dx fs)/\Cls K C/\Bd K C f/\fs.length<1000 /\
 D.nx σ (upd H2 a (.ins C dx (CQ f y fs)))
section
variable {X:Cx}{o e value:Expr}{f:Str}{pos pos' tpos:Pos}{ta tv:TE}
theorem Pa(he:PE X e ta)(hb:attributeBase e f X.env (eval e X.env)=eval e X.env):PE X (.Attribute e f pos) (tFld X.K ta f):=by
 intro pins s σ H Q I h;refine zic hb (AJ (he pins s σ H _ I h) λu s1 ⟨x,H1,I1,rx,a,C,dx,fs,v,ex,ea,c,n,l,q⟩=>?_)
 subst ex;obtain rfl:u=Value.ref a:=rx;exact zck I1 ea c n l λu' s2 I2 ru=>⟨v,H1,I2,ru,q⟩
theorem zjs(ha:PE X o ta)(hv:PE X value tv)(hs:swapsWith value (some (.Attribute o f pos')) pos.line X.env=pure false):PS X (.Assign [.Attribute o f pos'] value pos) (sFld X.K ta tv f):=by
 intro pins s σ H D I h;refine plainObj_wpAny_Assign_Attribute (AJ (hv pins s σ H _ I h) λu s1 ⟨y,H1,I1,ry,q⟩=>AJ (ha pins s1 σ H1 _ I1 q) λov s2 ⟨x,H2,I2,rx,a,C,dx,fs,ex,ea,c,n,l,q2⟩=>?_) hs
 subst ex;obtain rfl:ov=Value.ref a:=rx;exact zcb I2 ea c n l ry λs3 I3=>⟨σ,_,I3,q2⟩
end
section
variable {X:Cx}{pins:List (Addr×Obj)}{σ:St}{H:Hp}{s:Shared}{A:Around}{E:Value->Shared->Prop}{Q:Value->Shared->Prop}{c:Value}{b:Bool}
inductive TyOf(K:k7)(H:Hp):V->Value->Prop where
 |non:TyOf K H .non (.type "NoneType")
 |bl (x:Bool):TyOf K H (.bl x) (.type "bool")
 |int (i:Int):TyOf K H (.int i) (.type "int")
 |str (x:Str):TyOf K H (.str x) (.type "str")
 |flt (x:UInt64):TyOf K H (.flt x) (.type "float")
 |lst {a:Addr} {xs:List V} (e:H a=some (.lst xs)):TyOf K H (.ref a) (.type "list")
 |frz {a:Addr} {o:Obj} {xs:List V} (e:H a=some (.frz o (.lst xs))):TyOf K H (.ref a) (.type "list")
 |tup {a:Addr} {xs:List V} (e:H a=some (.tup xs)):TyOf K H (.ref a) (.type "tuple")
 |dK {a:Addr} {kvs:List (Key×V)} (e:H a=some (.dK kvs)):TyOf K H (.ref a) (.type "dict")
 |dT {a:Addr} {kvs:List (List Key×V)} (e:H a=some (.dT kvs)):TyOf K H (.ref a) (.type "dict")
 |ins {a C dx:Addr} {fs:List (Str×V)} (e:H a=some (.ins C dx fs)) (cl:Cls K C) (ha:PySem.W.findIn K (.ref C) "__class__"=some (some (.builtin "object.__class__")))
   (hn:PySem.W.specialIn K (.builtin "object.__class__") "__get__"=some (some (.builtin "getset_descriptor.__get__"))) (htk:PySem.W.takesIn K (.builtin "object.__class__")=some true)
   (hm:PySem.W.mroIn K C (.type "object")=some true):TyOf K H (.ref a) (.ref C)
theorem Lu{x:V}  (I:Inv X pins σ H s)(rx:AN x u)(ty:TyOf X.K H x t)(e:PySem.W.kitOne X.K t c=some b)(h:∀tk,Q (.bool b) { s with toks:=tk }) :
  wpAny (model X.prog X.w) A (call (.builtin "isinstance") [u,c]) Q E s:=by
 cases ty with
 |non=>cases (rx);exact yaw PySem.W.kitx_none I.kIn True.intro e (λz=>nomatch z) h
 |bl y=>cases (rx);exact yaw PySem.W.kitx_bool I.kIn True.intro e (λz=>nomatch z) h
 |int i=>obtain⟨t,q⟩:=(rx);cases q;exact yaw PySem.W.kitx_int I.kIn True.intro e (λz=>nomatch z) h
 |str y=>obtain⟨t,q⟩:=(rx);cases q;exact yaw PySem.W.kitx_str I.kIn True.intro e (λz=>nomatch z) h
 |flt y=>obtain⟨t,q⟩:=(rx);cases q;exact yaw PySem.W.kitx_float I.kIn True.intro e (λz=>nomatch z) h
 |@lst a xs ea =>
  cases (rx);obtain⟨_,_,n,_,h1⟩:=(I.hok a _ ea);exact yaw yd2 I.kIn ⟨_,h1,rfl⟩ e (λz=>nomatch z) h
 |@frz a ob xs ea =>
  cases (rx);obtain⟨_,_,_,n,_,h1⟩:=(I.hok a _ ea);exact yaw yd2 I.kIn ⟨_,h1,rfl⟩ e (λz=>nomatch z) h
 |@tup a xs ea =>
  cases (rx);obtain⟨_,_,_,p⟩:=(I.hok a _ ea);obtain⟨o,h1,h2,_⟩:=p;exact yaw PySem.W.kitx_tuple I.kIn ⟨o,h1,h2⟩ e (λz=>nomatch z) h
 |@dK a kvs ea =>
  cases (rx);obtain⟨_,_,vs,_,p⟩:=(I.hok a _ ea);obtain⟨o,es,ep,h1,h2,_⟩:=p;exact yaw yd3 I.kIn ⟨o,h1,h2.1⟩ e (λz=>nomatch z) h
 |@dT a kvs ea =>
  cases (rx);obtain⟨_,_,xs,_,o,es,ep,h1,h2,_⟩:=(I.hok a _ ea);exact yaw yd3 I.kIn ⟨o,h1,h2.1⟩ e (λz=>nomatch z) h
 |@ins a C dx fs ea cl ha hn htk hm =>
  cases (rx);obtain⟨mA,O,_⟩:=JZ I.hok ea;obtain⟨od,J,_⟩:=O.look;exact yaw (PySem.W.kitx_own (cl.get _) cl.hd ha hn htk hm) I.kIn J e (λz=>nomatch z) h
end
structure Room(k:Nat)(A:Around):Prop where
 hd:A.handled=none
 dp:A.depth+3 * k+5<recursionLimit
 un:A.units+16 * k+200<cLine
theorem Room.mono(r:Room k A)(h:j<=k):Room j A:=⟨r.hd,by have:=r.dp;omega,by have:=r.un;omega⟩
theorem Room.deeper(r:Room (k+1) A)(env):Room k (A.deeper env) :=
 ⟨r.hd,by have:=r.dp;show A.depth+1+3 * k+5<_;omega,by have:=r.un;show A.units+3+16 * k+200<_;omega⟩
theorem Room.in1(r:Room (k+1) A):Room k A.in1 :=
 ⟨r.hd,by have:=r.dp;grind,by have:=r.un;grind⟩
theorem zcf{A:Around}:(A.under (.builtin "type.__call__" ⟨.ref C::us,kw⟩)).depth=A.depth+1:=by
 rfl
theorem zce{A:Around}:(A.under (.builtin "type.__call__" ⟨.ref C::us,kw⟩)).units=A.units+1:=by
 rfl
theorem Room.make(r:Room (k+1) A)(C)(us)(kw):Room k (A.under (.builtin "type.__call__" ⟨.ref C::us,kw⟩)) :=
 ⟨r.hd,by have:=r.dp;rw[zcf];omega,by have:=r.un;rw[zce];omega⟩
theorem Room.depth(r:Room k A):A.depth<recursionLimit:=by have:=r.dp;omega
theorem Room.units(r:Room k A):A.units+64<cLine:=by have:=r.un;omega
def Nb:TA:=λ_ H Q=>Q [] H
def tCons(ta:TE)(tr:TA):TA:=λσ H Q=>ta σ H λx H1=>tr σ H1 λxs H2=>Q (x::xs) H2
section
variable {X:Cx}{e:Expr}{es:List Expr}{te:TE}{t:TA}{pos:Pos}
theorem Ct:PA X [] Nb:=λ_ _ _ _ H Q I h=>Calls.spliced_nil ⟨[],H,I,.nil,h⟩
theorem CI(ha:PE X e te)(hr:PA X es t)(hs:starEach (e::es) X.env=(false,eval e X.env)::starEach es X.env:=by rfl):PA X (e::es) (tCons te t):=by
 intro pos pins s σ H Q I h;rw[hs];refine Calls.spliced_cons (AJ (ha pins s σ H _ I h) λu s1 ⟨x,H1,I1,r1,q1⟩=>?_)
 exact AJ (hr pos pins s1 σ H1 _ I1 q1) λus s2 ⟨xs,H2,I2,r2,q2⟩=>⟨x::xs,H2,I2,.cons r1 r2,q2⟩
def tTup(t:TA):TE:=λσ H Q=>t σ H λxs H1=>xs.length<=sizeLine/\∀p,H1 p=none->Q (.ref p) (upd H1 p (.tup xs))
def tLst(t:TA):TE:=λσ H Q=>t σ H λxs H1=>xs.length<=sizeLine/\∀p,H1 p=none->Q (.ref p) (upd H1 p (.lst xs))
theorem P5(h:PA X es t):PE X (.Tuple es x1 pos) (tTup t):=by
 intro pins s σ H Q I hq;refine wpAny_Tuple_spliced (AJ (h pos pins s σ H _ I hq) λus s1 ⟨xs,H1,I1,r,z,q⟩=>⟨by rw[<- r.length];exact z,?_⟩)
 have hf :=I1.hok.fresh (ya6 _);refine⟨.ref s1.heap.objs.size,upd H1 s1.heap.objs.size (.tup xs),I1.laid (λb u e=>ya4 _ e) (ya6 _) ?_,rfl,q _ hf⟩
 exact⟨z,us,r,⟨_,yai _ rfl,rfl,_,rfl⟩⟩
theorem P7(h:PA X es t):PE X (.List es pos) (tLst t):=by
 intro pins s σ H Q I hq;refine wpAny_List_spliced (AJ (h pos pins s σ H _ I hq) λus s1 ⟨xs,H1,I1,r,z,q⟩=>⟨by rw[<- r.length];exact z,?_⟩)
 have hf :=I1.hok.fresh (ya6 _);refine⟨.ref s1.heap.objs.size,upd H1 s1.heap.objs.size (.lst xs),I1.laid (λb u e=>ya4 _ e) (ya6 _) ?_,rfl,q _ hf⟩
 exact⟨z,us,0,r,yai _ rfl⟩
end
abbrev Sp:=List V->Hp->VK->XK->Prop
abbrev Dx:=List Env->Hp->Shared->XK->Value->Shared->Prop
structure Env0(P:Program)(w:World)(K:k7)(mg:Str->Option Value)(base:Heap)(A:Around)(outer:List Env)(s:Shared)(H:Hp):Prop where
 frames:A.frames=some outer
 mod:Mod K mg base
 bs:∀b o,base.get? b=some o->s.heap.get? b=some o/\H b=none
 bsz:base.objs.size<=s.heap.objs.size
 funs:s.heap.FunFrames base outer
 frf:∀b∈Ax outer,H b=none
 hok:HOk P w H s.heap
 bare:AllBare s.gens
def CE(outer:List Env)(P:Program)(w:World)(H:Hp)(s:Shared)(Q:VK)(u:Value)(s':Shared):Prop :=
 ∃v H',s'.os=s.os/\AllBare s'.gens/\Un (Ax outer) [] H H' s.heap s'.heap/\HOk P w H' s'.heap/\AN v u/\Q v H'
def CR(CX:Dx)(outer:List Env)(P:Program)(w:World)(H:Hp)(s:Shared)(Q:VK)(E:XK)(r:Result)(s':Shared):Prop :=
 match r with
 |.ok (.ret u)=>CE outer P w H s Q u s'
 |.ok _=>False
 |.error e=>CX outer H s E e s'
structure FnOk(P:Program)(w:World)(K:k7)(mg:Str->Option Value)(base:Heap)(CX:Dx)(k:Nat)(f:Addr)(fd:FuncData)(ps:List Str)(sp:Sp):Prop where
 len:∀vs H Q E,sp vs H Q E->vs.length=ps.length
 run:∀(A:Around) (outer:List Env) (s:Shared) (H:Hp) (args:Args) (us:List Value) (vs:List V) (Q:VK) (E:XK),Room k A->Env0 P w K mg base A outer s H->BindsTo s fd args (ps.zip us)->AK vs us->sp vs H Q E ->
  codeAny (model P w) A (.call (.ref f) args) (CR CX outer P w H s Q E) s
theorem FnOk.mono{K}(F:FnOk P w K mg base CX j f fd ps sp)(h:j<=k) :
  FnOk P w K mg base CX k f fd ps sp:=⟨F.len,λA outer s H args us vs Q E hr=>F.run A outer s H args us vs Q E (hr.mono h)⟩
theorem FnOk.imp   {K }         (F:FnOk P w K mg base CX k f fd ps sp)
  (h:∀vs H Q E,sp' vs H Q E->sp vs H Q E):FnOk P w K mg base CX k f fd ps sp' :=
 ⟨λvs H Q E q=>F.len vs H Q E (h _ _ _ _ q),λA outer s H args us vs Q E hr he hb hv hs=>F.run A outer s H args us vs Q E hr he hb hv (h _ _ _ _ hs)⟩
theorem Env0.make{w:World}{K}{s:Shared}{H:Hp}(e:Env0 P w K mg base A outer s H)(C:Addr)(us)(kw) :
  Env0 P w K mg base (A.under (.builtin "type.__call__" ⟨.ref C::us,kw⟩)) outer s H:=⟨by first|exact e.frames|rfl,e.mod,e.bs,e.bsz,e.funs,e.frf,e.hok,e.bare⟩
theorem Env0.in1{w:World}{K}{H:Hp}(e:Env0 P w K mg base A outer s H) :
  Env0 P w K mg base A.in1 outer s H:=⟨e.frames,e.mod,e.bs,e.bsz,e.funs,e.frf,e.hok,e.bare⟩
section
variable {X:Cx}{pins:List (Addr×Obj)}{σ:St}{H:Hp}{s s':Shared}
theorem Inv.env0(I:Inv X pins σ H s):Env0 X.prog X.w X.K X.mg X.base X.A X.stack s H :=
 ⟨I.ok.frames,I.ok.mod,I.bs,yaf I.ok.bsz I.sz,I.stack,I.stkFree,I.hok,I.bare⟩
theorem Inv.after   (I:Inv X pins σ H s)(h:CE X.stack X.prog X.w H s Q u s'):EP X pins σ Q u s':=by
 obtain⟨v,H',os,bare,un,hok,r,q⟩:=h;obtain⟨hh,g,d,t,os'⟩:=s';obtain rfl:os'=s.os:=os;exact⟨v,H',I.call un hok bare (λb z=>absurd z (by simp)),r,q⟩
end
def Nn(sp:Sp)(dvs:List V)(E:XK)(t:TA):TE:=λσ H Q=>t σ H λvs H1=>sp (vs++dvs) H1 Q E
def Ba(K:k7)(fd:FuncData)(ps:List Str)(ds:List Value):Prop :=
 ∀(s:Shared) (us:List Value),K.In s.heap->(us++ds).length=ps.length->BindsTo s fd ⟨us,[]⟩ (ps.zip (us++ds))
theorem Ba.all{K }   (h:∀us ,us.length=ps.length->bindArgs fd ⟨us,[]⟩=pure (ps.zip us)):Ba K fd ps []:=λs us _ hl=>by
 rw[yc6]at hl ⊢;exact .of_eq (h us hl)
def ND(CX:Dx)(X:Cx)(E:XK):Prop:=∀(pins:List (Addr×Obj)) (σ:St) (H:Hp) (s:Shared) (e:Value) (s':Shared),Inv X pins σ H s->CX X.stack H s E e s'->X.xe e s'
section
variable {X:Cx}{CX:Dx}{k:Nat}{f C:Addr}{fd:FuncData}{ps:List Str}{sp:Sp}{dvs:List V}{ds:List Value}{E:XK}{x m:Str}{p pos apos:Pos}{e o:Expr}{es:List Expr}{ta:TE}{t:TA}
theorem zj7  {σ:St}   {Q:VK}   (F:FnOk X.prog X.w X.K X.mg X.base CX k f fd ps sp)(hr:Room k X.A)(hb:Ba X.K fd ps ds)(hd:AK dvs ds)(hx:ND CX X E)
  (I:Inv X pins σ H s) (r:AK vs us) (h:sp (vs++dvs) H Q E):wpAny (model X.prog X.w) X.A (call (.ref f) us) (EP X pins σ Q) X.xe s:=by
 have r2 :=r.append hd;have hl:(us++ds).length=ps.length:=by rw[<- r2.length];exact F.len _ _ _ _ h
 refine ydj (ydk (F.run X.A X.stack s H ⟨us,[]⟩ (us++ds) (vs++dvs) Q E hr I.env0 (hb s us I.kIn hl) r2 h) λr s' hq=>?_)
 cases r with
 |error e=>exact hx pins σ H s e s' I hq
 |ok fl =>
  cases fl with
  |ret u=>exact I.after hq
  |next=>exact False.elim hq
  |brk=>exact False.elim hq
  |cont=>exact False.elim hq
theorem zh1(F:FnOk X.prog X.w X.K X.mg X.base CX k f fd ps sp)(hr:Room k X.A)(hg:Gl X x)(hm:X.mg x=some (.ref f))(hk:PySem.W.keepIn X.K (.ref f)=true)(hb:Ba X.K fd ps ds)(hd:AK dvs ds)(hx:ND CX X E)
  (ha:PA X (e::es) t) (hdb:(x == "__debug__")=false:=by decide) (he:starEach (e::es) X.env=(false,eval e X.env)::starEach es X.env:=by rfl) (hpl:(backTo pos (starEach es X.env)).any (·.1)=false:=by rfl) :
  PE X (.Call (.Name x p) (e::es) [] pos) (Nn sp dvs E t):=by
 intro pins s σ H Q I h;refine ydl (HS I hg hm ?_ hdb);refine yc9 I.ok.mod.kin hk (AJ (ha pos pins s σ H _ I h) λus s1 ⟨vs,H1,I1,r,q⟩=>⟨I1.kIn,?_⟩) he hpl
 exact zj7 F hr hb hd hx I1 r q
structure Mk(K:k7)(C f:Addr):Prop where
 makes:PySem.W.makesIn K C=true
 init:PySem.W.findIn K (.ref C) "__init__"=some (some (.ref f))
 fn:PySem.W.isFn K (.ref f)=true
 kp:PySem.W.keepIn K (.ref C)=true
end
section
variable {X:Cx}{CX:Dx}{k:Nat}{f C:Addr}{fd:FuncData}{ps ks:List Str}{sp:Sp}{E:XK}{x m:Str}{p pos apos kpos:Pos}{e o:Expr}{es:List Expr}{kws:List Keyword}{te ta:TE}{t tk:TA}{nm:Option Str}
variable {g:List Value->List Value->List Value}{gV:List V->List V->List V}
end
structure FnScope(N P:List Str)(sc:Scope):Prop where
 kind:sc.kind=.function
 co:sc.isCoroutine=false
 gen:sc.isGenerator=false
 nd:N.Nodup
 pre:N.take P.length=P
 par:∀x∈P,sc.names.lookup x=some .local\/sc.names.lookup x=some .cell
 nofree:∀y∈sc.names,y.2≠.free
theorem TB{kindOf}:∀{binds} {m},(∀v,(x,v)∉binds)->bindL kindOf binds m x=m x
 |[],_,_=>rfl
 |(n,v)::r,m,h=>by
  unfold bindL;rw[TB λw hw=>h w (ya7 _ hw)]
  split
  .grind
  .rfl
theorem TF{kindOf}:∀{binds} {m},(∀v,(x,v)∉binds)->bindC kindOf binds m x=m x
 |[],_,_=>rfl
 |(n,v)::r,m,h=>by
  unfold bindC;rw[TF λw hw=>h w (ya7 _ hw)]
  split
  .rfl
  grind
theorem TC{kindOf}{x:Str}{v}:∀{P:List Str} {vs} {i:Nat} {m},P.Nodup->P[i]?=some x->vs[i]?=some v->kindOf x=some .local ->
  bindL kindOf (P.zip vs) m x=some v
 |[],_,_,_,_,h,_,_=>by simp at h
 |_::_,[],_,_,_,_,h,_=>by simp at h
 |p::P,w::vs,0,m,nd,h1,h2,hk=>by
  simp at h1 h2;subst h1;subst h2;show bindL kindOf ((p,w)::P.zip vs) m p=_;unfold bindL;rw[TB λv hv=>(yc7.mp nd).1 (List.of_mem_zip hv).1,if_pos hk]
  simp
 |p::P,w::vs,i+1,m,nd,h1,h2,hk=>by
  unfold bindL;exact TC (i:=i) (yc7.mp nd).2 (by grind) (by grind) hk
theorem TH{kindOf}{x:Str}{v}:∀{P:List Str} {vs} {i:Nat} {m},P.Nodup->P[i]?=some x->vs[i]?=some v->kindOf x≠some .local ->
  bindC kindOf (P.zip vs) m x=some v
 |[],_,_,_,_,h,_,_=>by simp at h
 |_::_,[],_,_,_,_,h,_=>by simp at h
 |p::P,w::vs,0,m,nd,h1,h2,hk=>by
  simp at h1 h2;subst h1;subst h2;show bindC kindOf ((p,w)::P.zip vs) m p=_;unfold bindC;rw[TF λv hv=>(yc7.mp nd).1 (List.of_mem_zip hv).1,if_neg hk]
  simp
 |p::P,w::vs,i+1,m,nd,h1,h2,hk=>by
  unfold bindC;exact TH (i:=i) (yc7.mp nd).2 (by grind) (by grind) hk
def start(N:List Str)(vs:List V):St:=vs.map some++List.replicate (N.length - vs.length) none
noncomputable def De(CX:Dx)(P:Program)(w:World)(K:k7)(mg:Str->Option Value)(base:Heap)(N:List Str)(qual:Str)(scope:Scope)(f:Addr)(cd:Value)(A:Around)(outer:List Env)(s:Shared)(H:Hp)(E:XK):Cx where
 prog:=P
 w:=w
 K:=K
 mg:=mg
 base:=base
 A:=A.deeper (envOfC qual scope s.heap.objs.size f cd)
 N:=N
 s₀:=s
 H₀:=H
 env:=envOfC qual scope s.heap.objs.size f cd
 outer:=outer
 stack:=envOfC qual scope s.heap.objs.size f cd::outer
 ex:=[]
 calm:=true
 fn:=λ_=>true
 pn:=[]
 xe:=λe s'=>wpAny (model P w) (A.deeper (envOfC qual scope s.heap.objs.size f cd)) (leaving (envOfC qual scope s.heap.objs.size f cd) e) (λ_ s''=>CX outer H s E e s'') (λe' s''=>CX outer H s E e' s'') s'
theorem So{sc:Scope}(h:sc.names.lookup x=some .cell):∃c,(cellsFrom n sc.names []).lookup x=some c:=by
 have q:=PySem.W.cellsFrom_some sc.names n [] (.inl h);exact yca.mp q
theorem zdf{CX:Dx}{P:Program}{w:World}{K:k7}{base:Heap}{N ps:List Str}{qual:Str}{scope:Scope}{f:Addr}{cd:Value}{A:Around}{s s1:Shared}{H:Hp}{E:XK}{vs:List V}
  (S:FnScope N ps scope) (hd:A.handled=none) (e0:Env0 P w K mg base A outer s H) (hl:vs.length=ps.length) (r:AK vs us)
  (x:InCallC s s.heap.objs.size (bindL (envOfC qual scope s.heap.objs.size f cd).kindOf (ps.zip us) λ_=>none) (cellsFrom (s.heap.objs.size+1) scope.names []) (bindC (envOfC qual scope s.heap.objs.size f cd).kindOf (ps.zip us) λ_=>none) s1) :
  Inv (De CX P w K mg base N qual scope f cd A outer s H E) [] (start N vs) H s1:=by
 have hpl :=by have:=congrArg List.length S.pre;rw[yb4]at this;omega
 obtain⟨h1,tk,rfl,hk⟩:=x.done;have noA:∀b ,b∉(De CX P w K mg base N qual scope f cd A outer s H E).ex:=λb z=>absurd (show b∈[] from z) (by simp)
 refine⟨⟨e0.mod,S.kind,rfl,rfl,ya6 _,λy z c h1 h2=>?_,λy hy=>?_,λy c _ h=>?_,λ_=>hd,Around.frames_deeper e0.frames,.inr ⟨rfl,rfl⟩,λb z=>absurd z (noA b),e0.bs,e0.bsz,λb _ _=>noA b,λb z=>absurd z (noA b),e0.funs,e0.frf⟩,
  rfl,e0.bare,Un.kept hk,⟨_,x.toInCall.ns,λi y v h1 h2 h3=>?_⟩,λy c h=>⟨_,x.cell y c h⟩,e0.hok.fresh (ya6 _),λy c h=>?_,λp hp=>absurd (show p∈[] from hp) (by simp),e0.hok.kept hk,?_⟩
 .exact name_of_addr x.apart (yb6 h1) (yb6 h2)
 .have hy :=hy
  rcases hy with hy|hy
  .exact So hy
  .exact absurd rfl (S.nofree _ (yb6 hy))
 .exact ycu (x.above y c (yb6 h))
 .have hi:i<vs.length:=by
   unfold start at h2
   by_cases hi:i<vs.length
   .exact hi
   .rw[yaz (by simpa using hi)]at h2
    rw[yce]at h2;split at h2<;>cases h2
  have ha:vs[i]?=some v:=by
   unfold start at h2;rw[yat (by simpa using hi),ya9]at h2
   cases e:vs[i]? with
   |none=>rw[e]at h2;cases h2
   |some a=>rw[e]at h2;cases h2;rfl
  obtain⟨u,hu,rv⟩:=r.get ha
  have hp:ps[i]?=some y:=by
   rw[<- S.pre,ycb (by omega)];exact h1
  have ndP:ps.Nodup:=by rw[<- S.pre];exact S.nd.sublist (List.take_sublist _ _)
  refine⟨u,rv,?_⟩
  rcases S.par y (ybb hp) with k|k
  .exact .inl ⟨k,TC ndP hp hu k⟩
  .obtain⟨c,e⟩:=So k;refine .inr ⟨.inl k,c,e,?_⟩;have q:=x.cell y c e;rw[TH ndP hp hu (by show scope.names.lookup y≠_;rw[k];decide)]at q
   exact q
 .exact e0.hok.fresh (ycu (x.above y c (yb6 h)))
 .unfold start;show _=N.length;rw[yau,ya2,ycp]
  omega
theorem ME{CX:Dx}   {K }   {k:Nat}{f:Addr}     {dV kV doc pm cdv ct oc:Value}
   {sp:Sp} (lk:K.lookup f=some ⟨oc,od,.func (PySem.W.fnOf name qual params body scope dV kV doc pm an cdv ct),osl⟩) (hcd:PySem.W.codeIn K cdv qual=true) (S:FnScope N ps scope)
  (len:∀vs H Q E,sp vs H Q E->vs.length=ps.length)
  (hbody : ∀ (A : Around) (outer ) (s : Shared) (H : Hp) (vs : List V) (Q : VK) (E : XK), Room k (A.deeper (envOfC qual scope s.heap.objs.size f cdv)) -> sp vs H Q E ->
   ∃t,Aq (De CX P w K mg base N qual scope f cdv A outer s H E) body t/\t { nx:=λ_ H'=>Q .non H',rt:=Q } (start N vs) H) :
  FnOk P w K mg base CX (k+1) f (PySem.W.fnOf name qual params body scope dV kV doc pm an cdv ct) ps sp:=by
 refine⟨len,λA outer s H args us vs Q E hr e0 hb r hsp=>?_⟩
 have hl:=len _ _ _ _ hsp;have KX :=e0.mod.kin.keeps λb o e=>(e0.bs b o e).1
 have AW :=e0.mod.nolimit.keeps λb o e=>(e0.bs b o e).1
 have hkind:∀y∈ps.zip us,scope.names.lookup y.1=some .local\/(scope.names.lookup y.1=some .cell/\((cellsFrom (s.heap.objs.size+1) scope.names []).lookup y.1).isSome=true):=λ⟨n,v⟩ hy=>by
  rcases S.par n (List.of_mem_zip hy).1 with q|q
  .exact .inl q
  .exact .inr ⟨q,PySem.W.cellsFrom_some _ _ _ (.inl q)⟩
 refine codeAny_call_function hr.depth (KX _ _ lk) rfl S.co S.gen rfl (PySem.W.codeRec_of KX hcd) (hb _ _ _ _ ?_);refine wpAny_newFunctionEnv_cells S.kind hkind λenv he s1 x=>?_
 subst he;refine⟨AW.keeps x.toInCall.keep,codeAny_func ?_⟩;obtain⟨t,ht,hq⟩:=hbody A outer s H vs Q E (hr.deeper _) hsp;have I:Inv (De CX P w K mg base N qual scope f cdv A outer s H E) [] (start N vs) H s1:=zdf S hr.hd e0 hl r x;refine yda (ht [] s1 (start N vs) H _ I hq) (λfl s' hs=>?_) λe s' hs=>hs
 have Ah:∀{σ' } {H' } {v } {u },Inv (De CX P w K mg base N qual scope f cdv A outer s H E) [] σ' H' s'->AN v u->Q v H'->CE outer P w H s Q u s' :=
  λ{σ' H' v u} J rv q=>⟨v,H',J.os,J.bare,J.base,J.hok,rv,q⟩
 cases fl with
 |ret u =>
  obtain⟨v,σ',H',J,rv,q⟩:=hs;exact Ah J rv q
 |next =>
  obtain⟨σ',H',J,q⟩:=hs;exact Ah (v:=V.non) J rfl q
 |brk =>
  obtain⟨_,_,_,q⟩:=hs;exact False.elim q
 |cont =>
  obtain⟨_,_,_,q⟩:=hs;exact False.elim q
section
variable {X:Cx}{x:Str}{p pos:Pos}{e:Expr}{es:List Expr}{t:TA}{id T:String}{r:List V->Hp->VK->Prop}
def Np(r:List V->Hp->VK->Prop)(t:TA):TE:=λσ H Q=>t σ H λvs H1=>r vs H1 Q
theorem JA(hc:BW X (.builtin id) r)(hg:Gl X x)(hm:X.mg x=none)(hv:bootBuiltins x=some (.builtin id))(ha:PA X (e::es) t)(hn:x≠"__name__":=by decide)(hdb:(x == "__debug__")=false:=by decide)
  (he:starEach (e::es) X.env=(false,eval e X.env)::starEach es X.env:=by rfl) (hpl:(backTo pos (starEach es X.env)).any (·.1)=false:=by rfl):PE X (.Call (.Name x p) (e::es) [] pos) (Np r t):=by
 intro pins s σ H Q I h;refine ydl (GL I hg hm hv ?_ hn hdb);exact PyProof.Rows.callWith_builtin1 (AJ (ha pos pins s σ H _ I h) λus s1 ⟨vs,H1,I1,r1,q1⟩=>hc pins s1 σ H1 vs us Q I1 r1 q1) he hpl
theorem Iz(hc:BW X (.type T) r)(hg:Gl X x)(hm:X.mg x=none)(hv:bootBuiltins x=some (.type T))(ha:PA X (e::es) t)(hn:x≠"__name__":=by decide)(hdb:(x == "__debug__")=false:=by decide)
  (he:starEach (e::es) X.env=(false,eval e X.env)::starEach es X.env:=by rfl) (hpl:(backTo pos (starEach es X.env)).any (·.1)=false:=by rfl):PE X (.Call (.Name x p) (e::es) [] pos) (Np r t):=by
 intro pins s σ H Q I h;refine ydl (GL I hg hm hv ?_ hn hdb);exact ybh (AJ (ha pos pins s σ H _ I h) λus s1 ⟨vs,H1,I1,r1,q1⟩=>hc pins s1 σ H1 vs us Q I1 r1 q1) he hpl
end
end L2
namespace HT
open PySem PyProof.Rows
section
open PySem.SeqAt
open PySem.AutoSeq1 (wpAny_loadPart')
open PySem.MeetsSeq PySem.MeetsSeq2 PySem.MeetsSeq3
end
section
variable {prog:Program}{w:World}{A:Around}{E:Value->Shared->Prop}{s:Shared}
noncomputable def sIx(n d:Nat):Option Int->Nat
 |none=>d
 |some v=>if v<0 then (v+(n:Int)).toNat else min v.toNat n
theorem sIx_none(n d:Nat):sIx n d none=d:=rfl
theorem sIx_nat(n d k:Nat):sIx n d (some (k:Int))=min k n:=by
 rfl
end
end HT
namespace L2
open PySem PySem.Spec PyProof.Rows
abbrev TO:=St->Hp->(Option Int->Hp->Prop)->Prop
def PO(X:Cx)(e:Option Expr)(t:TO):Prop :=
 ∀(pins:List (Addr×Obj)) (s:Shared) (σ:St) (H:Hp) (Q:Option Int->Hp->Prop),Inv X pins σ H s->t σ H Q ->
  wpAny (model X.prog X.w) X.A (evalPart e X.env) (λu s'=>∃o H',Inv X pins σ H' s'/\IsPart u o/\Q o H') X.xe s
def zg4:TO:=λ_ H Q=>Q none H
def tPart(t:TE):TO:=λσ H Q=>t σ H λx H1=>∃i,x=.int i/\Q (some i) H1
section
variable {X:Cx}{e:Expr}{te:TE}{lo hi:Option Expr}{tl th:TO}{pos p2:Pos}
theorem zgy:PO X none zg4:=by
 intro pins s σ H Q I h;exact ydf ⟨none,H,I,.none,h⟩
theorem zgx(h:PE X e te):PO X (some e) (tPart te):=by
 intro pins s σ H Q I hw;refine AJ (h pins s σ H _ I hw) λu s1 ⟨x,H1,I1,r1,q1⟩=>?_
 obtain⟨i,rfl,q⟩:=q1;obtain⟨t,rfl⟩:=r1;exact⟨some i,H1,I1,.int i t,q⟩
def Fh(X:Cx)(r:V->Option Int->Option Int->Hp->VK->Prop):Prop :=
 ∀(pins:List (Addr×Obj)) (s:Shared) (σ:St) (H:Hp) (x:V) (v vl vu:Value) (lo hi:Option Int) (sl:Addr) (Q:VK),Inv X pins σ H s->AN x v->s.heap.IsSliceOf sl vl vu .none->IsPart vl lo->IsPart vu hi->r x lo hi H Q ->
  ∃T id,typeLookup (.type T) "__getitem__"=pure (some (.builtin id))/\s.TypeIs v T/\wpAny (model X.prog X.w) X.A (getItem v (.ref sl)) (EP X pins σ Q) X.xe s
theorem Fh.or(h:Fh X r)(h':Fh X r'):Fh X (λx lo hi H Q=>r x lo hi H Q\/r' x lo hi H Q):=by
 intro pins s σ H x v vl vu lo hi sl Q I rx hs pl pu q
 rcases q with q|q
 .exact h pins s σ H x v vl vu lo hi sl Q I rx hs pl pu q
 .exact h' pins s σ H x v vl vu lo hi sl Q I rx hs pl pu q
def tSl(r:V->Option Int->Option Int->Hp->VK->Prop)(te:TE)(tl th:TO):TE:=λσ H Q=>te σ H λx H1=>tl σ H1 λl H2=>th σ H2 λu H3=>r x l u H3 Q
theorem P6  (hr:Fh X r)(he:PE X e te)(hl:PO X lo tl)(hu:PO X hi th):PE X (.Subscript e (.Slice lo hi none p2) pos) (tSl r te tl th):=by
 intro pins s σ H Q I h;refine Subscript_ (AJ (he pins s σ H _ I h) λv s1 ⟨x,H1,I1,r1,q1⟩=>?_)
 refine wpAny_Slice (AJ (hl pins s1 σ H1 _ I1 q1) λvl s2 ⟨l,H2,I2,pl,q2⟩=>AJ (hu pins s2 σ H2 _ I2 q2) λvu s3 ⟨u,H3,I3,pu,q3⟩=>?_)
 refine ydf ?_;have I4:Inv X pins σ H3 { s3 with heap:=s3.heap.push { cls:=.type "slice",data:=.fields #[vl,vu,.none] } }:=I3.kept λb ob q=>ya4 _ q
 obtain⟨T,id,hT,ht,hg⟩:=hr pins { s3 with heap:=s3.heap.push { cls:=.type "slice",data:=.fields #[vl,vu,.none] } } σ H3 x v vl vu l u s3.heap.objs.size Q I4 r1 (Heap.IsSliceOf.new ..) pl pu q3
 exact tail_any ht hT hg (by rfl)
def Hi(xs:List V)(lo hi:Option Int):List V:=(xs.drop (HT.sIx xs.length 0 lo)).take (HT.sIx xs.length xs.length hi - HT.sIx xs.length 0 lo)
theorem zc2(xs)(lo hi):(Hi xs lo hi).length<=xs.length:=by
 unfold Hi
 grind
end
noncomputable def CZ(n:Nat)(i:Int):Option Nat:=if 0<=i then (if i<n then some i.toNat else none) else if -(n:Int)<=i then some (i+n).toNat else none
def AV{α:Type}(xs:List α)(i:Int):Option α:=(CZ xs.length i).bind λj=>xs[j]?
theorem RP(h:CZ n i=some j):seqIndex? i n=some j/\j<n/\-n<=i/\i<n:=by
 unfold CZ at h
 by_cases h0:0<=i
 .rw[if_pos h0]at h
  by_cases h1:i<n
  .rw[if_pos h1]at h;have e :=yao h;exact⟨by rw[seqIndex_of h0 h1,e],by omega,by omega,h1⟩
  grind
 .rw[if_neg h0]at h
  by_cases h1:-n<=i
  .rw[if_pos h1]at h;have e :=yao h;exact⟨by rw[seqIndex_neg (by omega) h1,e],by omega,h1,by omega⟩
  grind
theorem Mu(h:AV xs i=some v):∃j,seqIndex? i xs.length=some j/\xs[j]?=some v/\j<xs.length/\-xs.length<=i/\i<xs.length:=by
 unfold AV at h;cases e:CZ xs.length i with
 |none=>grind
 |some j =>
  obtain⟨h1,h2,h3,h4⟩:=RP e
  grind
theorem Jd{j:Nat}{v}(h:xs[j]?=some v):AV xs j=some v:=by
 have hj :=(ya3.mp h).1
 have e:CZ xs.length j=some j:=by
  unfold CZ
  grind
 unfold AV;grind
def Fj(b:Expr):Prop:=∀o i,subscripted b false o i=operate [o,i] (getItem o i)
def EL(X:Cx)(r:R2):Prop :=
 ∀(value slice:Expr) (pins:List (Addr×Obj)) (s:Shared) (σ:St) (H:Hp) (x y:V) (v u:Value) (Q:VK),Inv X pins σ H s->AN x v->AN y u->r x y H Q ->
  subscripted slice false v u=operate [v,u] (getItem v u)->wpAny (model X.prog X.w) X.A (subscriptTail value slice v u) (EP X pins σ Q) X.xe s
def Ga(X:Cx)(id:String)(r:V->List V->Hp->VK->Prop):Prop :=
 ∀(pins:List (Addr×Obj)) (s:Shared) (σ:St) (H:Hp) (x:V) (xs:List V) (v:Value) (us:List Value) (Q:VK),Inv X pins σ H s->AN x v->AK xs us->r x xs H Q ->
  wpAny (model X.prog X.w) X.A (call (.builtin id) (v::us)) (EP X pins σ Q) X.xe s
section
variable {X:Cx}{a b:Expr}{ta tb:TE}{pos:Pos}
theorem EL.or(h:EL X r)(h':EL X r'):EL X (λx y H Q=>r x y H Q\/r' x y H Q):=by
 intro value slice pins s σ H x y v u Q I rx ry q hs
 rcases q with q|q
 .exact h value slice pins s σ H x y v u Q I rx ry q hs
 .exact h' value slice pins s σ H x y v u Q I rx ry q hs
theorem Ga.or{id}(h:Ga X id r)(h':Ga X id r'):Ga X id (λx xs H Q=>r x xs H Q\/r' x xs H Q):=by
 intro pins s σ H x xs v us Q I rx rs q
 rcases q with q|q
 .exact h pins s σ H x xs v us Q I rx rs q
 .exact h' pins s σ H x xs v us Q I rx rs q
theorem GD  (hr:EL X r)(ha:PE X a ta)(hb:PE X b tb)(hs:Fj b):PE X (.Subscript a b pos) (Fu r ta tb):=by
 intro pins s σ H Q I h;exact Subscript_ (Mp ha hb I h λv u s2 x y H2 I2 rx ry q=>hr a b pins s2 σ H2 x y v u Q I2 rx ry q (hs _ _))
def PN(K:k7):R2:=λx y H Q=>∃p xs i v,x=.ref p/\y=.int i/\AM K H p xs/\AV xs i=some v/\Q v H
def PL(K:k7):R2:=λx y H Q=>∃p xs i v,x=.ref p/\y=.int i/\BD K H p xs/\AV xs i=some v/\Q v H
def PM:R2:=λx y H Q=>∃z i c,x=.str z/\y=.int i/\z.length<=sizeLine/\AV z.cps.toList i=some c/\Q (.str ⟨#[c]⟩) H
theorem zhu:EL X (PN X.K):=by
 intro value slice pins s σ H x y v u Q I rx ry h hs;obtain⟨p,xs,i,z,rfl,rfl,hq,he,q⟩:=h;cases rx;obtain⟨t,rfl⟩:=ry;obtain⟨its,r,pl,hz⟩:=I.list hq;obtain⟨j,h1,h2,h3,h4,h5⟩:=Mu he;obtain⟨w,ew,rw'⟩:=r.get h2;have hl:=r.length;have hn:=JO;have Ah:EP X pins σ Q w s:=⟨z,H,I,rw',q⟩
 by_cases h0:0<=i
 .have hj :=by
   rw[seqIndex_of h0 h5]at h1;exact yao h1
  exact item_listR pl.isList h0 (by omega) (by rw[hj];simpa using ew) Ah hs
 .have hj:(i+its.toArray.size).toNat=j:=by
   rw[seqIndex_neg (by omega) h4]at h1
   grind
  exact subscriptTail_builtinR pl.isList.typeIs slot_list_getitem.lookup
   (wpAny_getItem_list_neg pl.isList (by omega) (by rw[yay]<;>omega) (by omega) (by rw[hj];simpa using ew) ⟨rfl,Ah⟩) hs
theorem zl2:EL X (PL X.K):=by
 intro value slice pins s σ H x y v u Q I rx ry h hs;obtain⟨p,xs,i,z,rfl,rfl,hq,he,q⟩:=h;cases rx;obtain⟨t,rfl⟩:=ry;obtain⟨its,r,pl,hz⟩:=I.tuple hq;obtain⟨j,h1,h2,h3,h4,h5⟩:=Mu he;obtain⟨w,ew,rw'⟩:=r.get h2;have hl:=r.length;have hn:=JO;have Ah:EP X pins σ Q w s:=⟨z,H,I,rw',q⟩
 exact subscriptTail_builtinR pl.typeIs slot_tuple_getitem.lookup
  (getItem_tuple (j:=j) pl (by omega) (by omega) (by grind) (by grind) ⟨rfl,Ah⟩) hs
theorem zl3:EL X PM:=by
 intro value slice pins s σ H x y v u Q I rx ry h hs;obtain⟨z,i,c,rfl,rfl,hz,he,q⟩:=h;obtain⟨t,rfl⟩:=rx;obtain⟨t',rfl⟩:=ry;obtain⟨j,h1,h2,h3,h4,h5⟩:=Mu he;have hl:z.cps.toList.length=z.length:=by simp[Str.length]
 rw[hl]at h1 h4 h5;have hn:=JO
 exact tail_any (ydm s z t) slot_str_getitem.lookup (getItem_str (by
  grind) (by grind) ⟨.str ⟨#[c]⟩,H,I.tok _,⟨_,rfl⟩,q⟩) hs
def PQ(K:k7):R2:=λx y H Q=>PN K x y H Q\/PL K x y H Q\/PM x y H Q
theorem HW:EL X (PQ X.K):=zhu.or (zl2.or zl3)
theorem Inv.lst{pins:List (Addr×Obj)}{σ:St}{H:Hp}{s:Shared}{p:Addr}{xs:List V}(I:Inv X pins σ H s)(h:H p=some (.lst xs)) :
  ∃(its:List Value) (n:Nat),AK xs its/\s.heap.get? p=some { cls:=.type "list",data:=.seq its.toArray n }/\xs.length<=sizeLine:=by
 obtain⟨z,its,n,r,e⟩:=I.hok p _ h
 grind
theorem zbd(lo hi)(n):(sliceBounds lo hi none n).1=HT.sIx n 0 lo/\(sliceBounds lo hi none n).2.1=HT.sIx n n hi/\(sliceBounds lo hi none n).2.2=1:=by
 refine⟨?_,?_,rfl⟩
 .cases lo with
  |none=>simp[sliceBounds,HT.sIx]
  |some i =>
   simp only[sliceBounds,HT.sIx,Option.getD_none,ydn]
   grind
 .cases hi with
  |none=>simp[sliceBounds,HT.sIx]
  |some i =>
   simp only[sliceBounds,HT.sIx,Option.getD_none,ydn]
   grind
theorem zb4(its:List Value)(lo hi):slicePick its.toArray lo hi none=((its.drop (HT.sIx its.length 0 lo)).take (HT.sIx its.length its.length hi - HT.sIx its.length 0 lo)).toArray:=by
 obtain⟨h1,h2,h3⟩:=zbd lo hi its.toArray.size;unfold slicePick;rw[h1,h2,h3];simp only[sliceRange_one,pick_run]<;>rfl
def PK(K:k7):V->Option Int->Option Int->Hp->VK->Prop:=λx lo hi H Q=>∃a xs,x=.ref a/\AM K H a xs/\∀p,H p=none->Q (.ref p) (upd H p (.lst (Hi xs lo hi)))
theorem zg9:Fh X (PK X.K):=by
 intro pins s σ H x v vl vu lo hi sl Q I rx hs pl pu h;obtain⟨a,xs,rfl,hx,q⟩:=h;cases rx;obtain⟨its,r,ht,hz⟩:=I.list hx;have hlen:=r.length;refine⟨"list",_,slot_list_getitem.lookup,ht.isList.typeIs,?_⟩;refine wpAny_getItem_list_slice ht.isList hs pl pu .none (by simp) ?_ (by grind)
 rw[zb4,<- hlen];refine⟨.ref s.heap.objs.size,_,I.laid (λb ob q=>ya4 _ q) (ya6 _) ?_,rfl,q _ (I.hok.fresh (ya6 _))⟩
 exact⟨yaf (zc2 xs lo hi) hz,_,0,(r.drop (HT.sIx xs.length 0 lo)).take (HT.sIx xs.length xs.length hi - HT.sIx xs.length 0 lo),yai _ rfl⟩
theorem BW.or(h:BW X f r)(h':BW X f r'):BW X f (λxs H Q=>r xs H Q\/r' xs H Q):=by
 intro pins s σ H xs us Q I rs q
 rcases q with q|q
 .exact h pins s σ H xs us Q I rs q
 .exact h' pins s σ H xs us Q I rs q
theorem zbs:BW X (.type "list") (λxs H Q=>∃p ys,xs=[.ref p]/\(AM X.K H p ys\/BD X.K H p ys)/\∀l,H l=none->Q (.ref l) (upd H l (.lst ys))):=by
 intro pins s σ H xs us Q I r h;obtain⟨p,ys,rfl,hq,q⟩:=h;obtain⟨u,rfl,rx⟩:=FJ r;cases rx
 have Ah:∀(its ),AK ys its->ys.length<=sizeLine->∀(h' ) (c' ),(∀b o',s.heap.get? b=some o'->h'.get? b=some o') ->
   h'.get? s.heap.objs.size=some { cls:=.type "list",dict:=none,data:=.seq its.toArray c',slots:=#[] }->EP X pins σ Q (.ref s.heap.objs.size) { s with heap:=h' }:=λits r' hz h' c' kp e =>
  ⟨.ref s.heap.objs.size,_,I.laid kp (ya6 _) (show Bl X.prog X.w _ h' _ (.lst ys) from⟨hz,its,c',r',e⟩),rfl,q _ (I.hok.fresh (ya6 _))⟩
 rcases hq with hq|hq
 .obtain⟨its,r',pl,hz⟩:=I.list hq;have hlen:=r'.length;obtain⟨o,ho,hc,n,hd⟩:=pl.isList;exact call_list_seq p (.inl rfl) ho hc hd (λh' c' kp e=>Ah its r' hz h' c' kp e) (by grind)
 .obtain⟨its,r',pl,hz⟩:=I.tuple hq;have hlen:=r'.length;obtain⟨o,ho,hc,n,hd⟩:=pl;exact call_list_seq p (.inr rfl) ho hc hd (λh' c' kp e=>Ah its r' hz h' c' kp e) (by grind)
def KR(K:k7)(T:String)(x:V)(H:Hp):Prop:=match x with
 |.str _=>T="str"
 |.int _=>T="int"
 |.ref p=>(T="list"/\∃xs,AM K H p xs)\/(T="tuple"/\∃o,K.lookup p=some o/\o.cls=.type "tuple"/\o.dict=none) \/
   (T="dict"/\((∃kvs,H p=some (.dK kvs))\/∃kvs,H p=some (.dT kvs)))\/(T="set"/\∃S n,H p=some (.set S n))
 |_=>False
theorem N2{σ:St}{x:V}(I:Inv X pins σ H s)(r:AN x v)(ty:KR X.K T x H) :
  s.TypeIs v T/\∀a,v=.ref a->∃ob,s.heap.get? a=some ob/\ob.dict=none:=by
 cases x with
 |str z =>
  obtain⟨t,rfl⟩:=r;cases (ty);exact⟨ydm s z t,λ_ e=>nomatch e⟩
 |int i =>
  obtain⟨t,rfl⟩:=r;cases (ty);exact⟨typeIs_int s i t,λ_ e=>nomatch e⟩
 |ref p =>
  cases r
  rcases ty with ⟨rfl,xs,hq⟩|⟨rfl,o,hk,hc,hd⟩|⟨rfl,hk⟩|⟨rfl,S,n,hk⟩
  .obtain⟨its,_,pl,_⟩:=I.list hq;refine⟨pl.isList.typeIs,λa e=>?_⟩
   cases e;obtain⟨o,n,e,c,hd,_⟩:=pl;exact⟨o,e,hd⟩
  .refine⟨⟨o,I.kIn p o hk,hc⟩,λa e=>?_⟩
   cases e;exact⟨o,I.kIn _ o hk,hd⟩
  .have z:∃o,s.heap.get? p=some o/\o.ExactDict:=by
    rcases hk with ⟨kvs,hk⟩|⟨kvs,hk⟩
    .obtain⟨_,_,_,_,o,_,_,e,ex,_⟩:=I.hok p _ hk;exact⟨o,e,ex⟩
    .obtain⟨_,_,_,_,o,_,_,e,ex,_⟩:=I.hok p _ hk;exact⟨o,e,ex⟩
   obtain⟨o,e,ex⟩:=z;refine⟨⟨o,e,ex.1⟩,λa e2=>?_⟩
   cases e2;exact⟨o,e,ex.2.1⟩
  .obtain⟨o,_,_,_,e,ex,_⟩:=I.hok p _ hk;refine⟨⟨o,e,ex.1⟩,λa e2=>?_⟩
   cases e2;exact⟨o,e,ex.2.1⟩
 |_=>exact False.elim ty
def tBM0(K:k7)(T:String)(r:V->List V->Hp->VK->Prop)(to:TE):TE:=λσ H Q=>to σ H λx H1=>KR K T x H1/\r x [] H1 Q
def tBM(K:k7)(T:String)(r:V->List V->Hp->VK->Prop)(to:TE)(t:TA):TE:=λσ H Q=>to σ H λx H1=>KR K T x H1/\t σ H1 λxs H2=>r x xs H2 Q
variable {o e:Expr}{es:List Expr}{to:TE}{t:TA}{name:Str}{apos cpos:Pos}{T id:String}{r:V->List V->Hp->VK->Prop}
theorem Ky(pa:PlainAttrs T)(slot:Slot T name id)(hty:typeOf (.builtin id)=pure (.type "method_descriptor"))(hm:Ga X id r)(ho:PE X o to)
  (hbase:attributeBase o name X.env (eval o X.env)=eval o X.env:=by rfl) (hline:(apos.endLine == cpos.line)=true:=by rfl):PE X (.Call (.Attribute o name apos) [] [] cpos) (tBM0 X.K T r to):=by
 intro pins s σ H Q I h;refine wpAny_Call_method0_late hbase hline (AJ (ho pins s σ H _ I h) λv s1 ⟨x,H1,I1,r1,ty,q1⟩=>?_)
 obtain⟨h1,h2⟩:=N2 I1 r1 ty;exact⟨T,id,pa,slot,hty,h1,h2,Calls.callWith_builtin rfl (PySem.evalArgs_none (hm pins s1 σ H1 x [] v [] Q I1 r1 .nil q1))⟩
theorem GF(pa:PlainAttrs T)(slot:Slot T name id)(hty:typeOf (.builtin id)=pure (.type "method_descriptor"))(hm:Ga X id r)(ho:PE X o to)(ha:PA X (e::es) t)
  (hbase:attributeBase o name X.env (eval o X.env)=eval o X.env:=by rfl)
  (hfew : ((backTo cpos (starEach (e :: es) X.env)).all (fun x => !x.1) && (backToKw cpos (keywordEach [] X.env)).all (fun x => x.1.isSome)
   && decide ((e::es).length+([]:List Keyword).length+(if ([]:List Keyword).isEmpty then 0 else 1)<30))=true:=by rfl)
  (hline:(apos.endLine == cpos.line)=true:=by rfl) (hs:starEach (e::es) X.env=(false,eval e X.env)::starEach es X.env:=by rfl) (hplain:(backTo cpos (starEach es X.env)).any (·.1)=false:=by rfl) :
  PE X (.Call (.Attribute o name apos) (e::es) [] cpos) (tBM X.K T r to t):=by
 intro pins s σ H Q I h;refine wpAny_Call_method_late hbase hfew hline rfl (AJ (ho pins s σ H _ I h) λv s1 ⟨x,H1,I1,r1,ty,q1⟩=>?_)
 obtain⟨h1,h2⟩:=N2 I1 r1 ty;refine⟨T,id,pa,slot,hty,h1,h2,?_⟩;have hA:=ha cpos pins s1 σ H1 _ I1 q1;rw[hs]at hA ⊢;refine Calls.callWith_builtin (by grind) (Calls.evalArgs_plain ?_)
 exact AJ hA λus s2 ⟨vs,H2,I2,r2,q2⟩=>hm pins s2 σ H2 x vs v us Q I2 r1 r2 q2
end
def NF(X:Cx)(id:String)(r:V->List V->Hp->VK->Prop):Prop :=
 ∀(pins:List (Addr×Obj)) (s:Shared) (σ:St) (H:Hp) (x:V) (xs:List V) (v:Value) (us:List Value) (Q:VK),Inv X pins σ H s->AN x v->AK xs us->r x xs H Q ->
  wpAny (model X.prog X.w) X.A (call (.builtin id) (v::us)) (EP X pins σ Q) X.xe s
theorem AK.one:∀{x} {us},AK [x] us->∃u,us=[u]/\AN x u
 |_,_,.cons r .nil=>⟨_,rfl,r⟩
theorem AK.two:∀{x y} {us},AK [x,y] us->∃u v,us=[u,v]/\AN x u/\AN y v
 |_,_,_,.cons r (.cons q .nil)=>⟨_,_,rfl,r,q⟩
theorem AK.zero:∀{us:List Value},AK [] us->us=[]
 |_,.nil=>rfl
theorem AK.reverse(h:AK xs us):AK xs.reverse us.reverse:=by
 induction h with
 |nil=>exact .nil
 |cons r t ih=>rw[ycj,ycj];exact AK.append ih (.cons r .nil)
theorem AK.rep(h:AK xs us):∀k ,AK (List.replicate k xs).flatten (List.replicate k us).flatten
 |0=>.nil
 |k+1=>by
  exact AK.append h (AK.rep h k)
theorem Rc(its):∀(k) (acc:List Value),
  List.foldl (λx1 x2=>x1++x2) acc.toArray (List.replicate k its.toArray)=(acc++(List.replicate k its).flatten).toArray
 |0,acc=>by simp
 |k+1,acc=>by
  have e:acc.toArray++its.toArray=(acc++its).toArray:=by simp
  have e2:(acc++its)++(List.replicate k its).flatten=acc++(List.replicate (k+1) its).flatten:=by
   grind
  rw[<- e2,<- Rc its k (acc++its),<- e,List.replicate_succ,List.foldl_cons]
section
variable {X:Cx}{pins:List (Addr×Obj)}{σ:St}{H:Hp}{s:Shared}{l b:Addr}{xs ys zs:List V}
theorem Inv.lset{its its':List Value}(I:Inv X pins σ H s)(hH:H l=some (.lst xs))
  (e:s.heap.get? l=some { cls:=.type "list",data:=.seq its.toArray n }) (hf:f its.toArray=its'.toArray) (hv:AK ys its') (hz:ys.length<=sizeLine) :
  Inv X pins σ (upd H l (.lst ys)) { s with heap:=s.heap.update l (Obj.mapSeq f),toks:=t' }:=by
 have q:=PySem.IsL.update e f;rw[hf]at q;refine I.write (by rw[hH];exact trivial) (.inl rfl) (λb' u hb hu=>(yb1 s.heap (Obj.mapSeq f) (yah hb)).trans hu) ⟨_,q⟩ ?_
 exact⟨hz,its',_,hv,q⟩
theorem Inv.lnew(I:Inv X pins σ H s)(hv:AK ys its)(hz:ys.length<=sizeLine) :
  Inv X pins σ (upd H s.heap.objs.size (.lst ys)) { s with heap:=s.heap.push { cls:=.type "list",data:=.seq its.toArray },toks:=t' } :=
 I.laid (λ_ _ q=>ya4 _ q) (ya6 _) ⟨hz,its,0,hv,yai _ rfl⟩
theorem Inv.fresh(I:Inv X pins σ H s):H s.heap.objs.size=none:=I.hok.fresh (ya6 _)
theorem Inv.lstM(I:Inv X pins σ H s)(hH:H l=some (.lst xs)):xs.length<=sizeLine/\∃(its:List Value) (n:Nat),AK xs its/\xs.length=its.length/\s.heap.get? l=some { cls:=.type "list",data:=.seq its.toArray n }:=by
 obtain⟨z,its,n,r,e⟩:=I.hok l _ hH;exact⟨z,its,n,r,r.length,e⟩
theorem zf5(h:n<=sizeLine):Builtin.List.listTooLong n=false:=by
 exact yd9 (by omega)
end
section
variable {X:Cx}
def zgp:V->List V->Hp->VK->Prop:=λx vs H Q=>∃l xs y,x=.ref l/\vs=[y]/\H l=some (.lst xs)/\xs.length<sizeLine/\Q .non (upd H l (.lst (xs++[y])))
theorem HG:NF X "list.append" zgp:=by
 intro pins s σ H x vs v us Q I rx rv h;obtain⟨l,xs,y,rfl,rfl,hH,hz,q⟩:=h;cases rx;obtain⟨u,rfl,ru⟩:=rv.one;obtain⟨z,its,n,r,hl,e⟩:=I.lstM hH;refine ydo F.slot_list_append ⟨_,e,rfl⟩ F.entry_list_append (F.args_list_append_2 _ _) (PySem.list_append l its.toArray n u (by grind)) ⟨e,?_⟩
 refine⟨.non,_,I.lset hH e (by simp) (r.append (.cons ru .nil)) ?_,rfl,q⟩
 grind
def zjm:V->List V->Hp->VK->Prop:=λx vs H Q=>∃l xs,x=.ref l/\vs=[]/\H l=some (.lst xs)/\Q .non (upd H l (.lst []))
theorem LL:NF X "list.clear" zjm:=by
 intro pins s σ H x vs v us Q I rx rv h;obtain⟨l,xs,rfl,rfl,hH,q⟩:=h;cases rx;have hus:=rv.zero;subst hus;obtain⟨z,its,n,r,hl,e⟩:=I.lstM hH;refine ydo F.slot_list_clear ⟨_,e,rfl⟩ F.entry_list_clear (F.args_list_clear_1 _) (AutoSeq1.list_clear_list_0 l its.toArray n (by grind)) ⟨e,?_⟩
 exact⟨.non,_,I.lset hH e rfl .nil (ybf _),rfl,q⟩
def rCat:R2:=λx y H Q=>∃l b xs zs,x=.ref l/\y=.ref b/\H l=some (.lst xs)/\H b=some (.lst zs)/\xs.length+zs.length<=sizeLine/\∀p,H p=none->Q (.ref p) (upd H p (.lst (xs++zs)))
theorem zka:AX X (binaryOp .Add) rCat:=by
 intro pins s σ H x y v u Q I rx ry h;obtain⟨l,b,xs,zs,rfl,rfl,hH,hB,hz,q⟩:=h;cases rx;cases ry;obtain⟨z,its,n,r,hl,e⟩:=I.lstM hH;obtain⟨z2,its2,n2,r2,hl2,e2⟩:=I.lstM hB;refine PySem.P.add_list e e2 ?_ (by grind)
 have ea:its.toArray++its2.toArray=(its++its2).toArray:=by simp
 rw[ea];exact⟨.ref _,_,I.lnew (r.append r2) (by grind),rfl,q _ I.fresh⟩
def rRep:R2:=λx y H Q=>∃l k xs,x=.ref l/\y=.int k/\H l=some (.lst xs)/\-(2 ^ 63)<=k/\k<2 ^ 63/\xs.length * k.toNat<=sizeLine /\
 ∀p,H p=none->Q (.ref p) (upd H p (.lst (List.replicate k.toNat xs).flatten))
theorem zhp{α:Type}(xs:List α)(k):(List.replicate k xs).flatten.length=k * xs.length:=by
 simp
theorem zk6:AX X (binaryOp .Mult) rRep:=by
 intro pins s σ H x y v u Q I rx ry h;obtain⟨l,k,xs,rfl,rfl,hH,h1,h2,hz,q⟩:=h;cases rx;obtain⟨t,rfl⟩:=ry;obtain⟨z,its,n,r,hl,e⟩:=I.lstM hH;have hlen:its.toArray.size * k.toNat<=sizeLine:=by rw[yay,<- hl];exact hz
 have hcap:¬ its.toArray.size * k.toNat > (2 ^ 63 - 1) / 8:=by
  have:sizeLine<=(2 ^ 63 - 1) / 8:=by decide
  omega
 have hfit:¬ (!Builtin.List.listFitsIndex k)=true:=by
  rw[fitsIndex_both h1 h2];exact ybw
 have hlong:¬ Builtin.List.listTooLong (its.toArray.size * k.toNat)=true:=by
  rw[zf5 hlen];exact ybw
 have hnew:List.foldl (λx1 x2=>x1++x2) #[] (List.replicate (if its.toArray.isEmpty=true then 0 else k.toNat) its.toArray)=(List.replicate k.toNat its).flatten.toArray:=by
  have f0 :=λm=>by
   have:=Rc its m [];rw[List.nil_append]at this;exact this
  rw[f0];cases its with
  |nil=>simp
  |cons a r'=>rw[if_neg (by simp)]
 refine wpAny_binaryOp_repeat_ref (by decide) ⟨_,e,rfl⟩ (λs'=>typeIs_int s' k t) noFill_list_mul F.fills_int_mul F.slot_int_rmul repeat_list F.slot_int_index.lookup
  (ydo F.slot_int_rmul (typeIs_int s k t) F.entry_int_rmul (F.args_int_rmul_2 _ _) (int___rmul___int_list k t l its.toArray n)
   ⟨e,rfl,⟨_,e,rfl⟩,ydo F.slot_list_mul ⟨_,e,rfl⟩ F.entry_list_mul (F.args_list_mul_2 _ _) (AutoListH.list___mul___list_int_3 l its.toArray n k t hfit hcap hlong) ⟨e,?_⟩⟩)
 rw[hnew];exact⟨.ref _,_,I.lnew (r.rep k.toNat) (by rw[zhp,Nat.mul_comm];exact hz),rfl,q _ I.fresh⟩
end
section
variable {prog:Program}{w:World}{A:Around}{E:Value->Shared->Prop}{s:Shared}
end
section
variable {X:Cx}
end
end L2
namespace Att
open PySem PySem.W PySem.Calls PyProof.Rows
theorem zak:∀(ns) (vs),WellAll P h vs (ns.map WData.int)->IntsAre vs ns:=by
 intro ns
 induction ns with
 |nil =>
  intro vs w;cases w;exact .nil
 |cons n ns ih =>
  intro vs w;cases w with
  |cons a b =>
   cases a;exact .cons _ _ (ih _ b)
theorem zcx{l:OpenLaw}(hn:l.most=some n)
  (hpre:l.row.toRowW.claim.pre args=true) (hwl:WellAll P h vals args) :
  ∃a vs ns,vals=[Value.ref a]/\args=[WData.list (ns.map WData.int)]/\h.get? a=some { cls:=.type "list",data:=.seq vs.toArray }/\IntsAre vs ns/\ns.length<=n:=by
 have hsh :=(pre_splitW hpre).1;have hc:l.pre.holds [] { args:=args }=true:=(pre_splitW hpre).2;obtain⟨d,r,rfl,h1,h2⟩:=hasAllW_cons hsh;obtain rfl:=hasAllW_nil h2;obtain⟨xs,rfl,h3⟩:=hasW_list h1;obtain⟨ns,rfl⟩:=items_int h3
 have hlen:ns.length<=n:=by
  have h4:(WTm.not (.lt (.lit (.int n)) (.len (.arg 0)))).holds [] { args:=[.list (ns.map .int)] }=true:=by
   have h4:=(holds_andW hc).1
   grind
  have h5:=condW_of h4 (w_not (w_lt w_lit (w_len_list (w_arg rfl))))
  grind
 cases hwl with
 |cons w1 w2 =>
  cases w2;cases w1 with
  |list ho hall=>exact⟨_,_,ns,rfl,rfl,ho,zak ns _ hall,hlen⟩
theorem zd0(l:OpenLaw)(args):l.row.toRowW.claim.post args (.bool true) args=true :=
 postW_of
  (by rfl)
  (w_eq_bool (w_res rfl) w_lit) rfl
theorem attach_call{l:OpenLaw}
  (hn:l.most=some n) (hdf:d.params.defaults=[])
  (call : ∀ (w ) (s₀ s₁ ) (mg mb ) (fa ) (o ) (pm cd doc ) (a ) (vs ) (ns ),
   Ground q loose [] XP w s₀ mg mb s₁.heap->YP w s₁.heap ->
   s₁.heap.get? fa=some o->o.data=.func (docDef d.name d.params d.body d.scope pm cd doc)->s₁.heap.CodeRec cd d.name->mg d.name=some (.ref fa) ->
   s₁.heap.get? a=some { cls:=.type "list",data:=.seq vs.toArray }->IntsAre vs ns->ns.length<=n->s₁.gens=#[] ->
   codeAny (model l.prog w) callerA (.call (.ref fa) ⟨[.ref a],[]⟩) (λr s'=>r=.ok (.ret (.bool true))/\OldK s₁.heap s'.heap/\s'.os=s₁.os/\AllBare s'.gens) s₁) :
  WalkO q loose XP YP l.row.toRowW d [] (λf vs=>PySem.call f vs):=by
 intro w s₀ s₁ mg mb G Y fa o pm cd doc dV kV ho hd hcd hD hmg hg args vals as hpre hlay hrd hwl hlo;obtain rfl:dV=.none:=Dflts.none hD hdf;obtain rfl:kV=.none:=Dflts.noKw hD;obtain⟨a,vs,ns,rfl,rfl,hobj,hints,hlen⟩:=zcx hn hpre hwl;refine enter_call (ydk (call w s₀ s₁ mg mb fa o pm cd doc a vs ns G Y ho (fd_plain hd) hcd hmg hobj hints hlen hg) λr s' hq=>?_)
 obtain⟨rfl,h2,h3,h4⟩:=hq;exact⟨.inl ⟨.bool true,.bool true,[],rfl,λ_=>rfl,.bool true,zd0 l _,λ_=>⟨List.Pairwise.nil,λ_ hm=>(nomatch hm)⟩⟩,h2,h3,h4⟩
section
variable {prog:Program}{w:World}{A:Around}{E:Value->Shared->Prop}{s:Shared}{K:Frag}
end
end Att
namespace L2
open PySem PySem.Spec PyProof.Rows
theorem NV:∀{vs} {ns},IntsAre vs ns->AK (ns.map V.int) vs
 |_,_,.nil=>.nil
 |_,_,.cons n t h=>.cons ⟨t,rfl⟩ (NV h)
def Jw(H:Hp):Prop:=∀b,H b=none\/∃o xs,H b=some (.frz o (.lst xs))
theorem zfb   {K }   {k:Nat}   {x:Str}{sp:Sp}
  (KX:K.In s₁.heap) (hns:s₁.heap.Ns mainGlobals mg) (hb:s₁.heap.Ns builtinsNs mb) (hbb:∀x:Str,x≠"__name__"->mb x=bootBuiltins x) (hlim:s₁.heap.NoLimit) (hg:s₁.gens=#[])
  (ha:s₁.heap.get? a=some { cls:=.type "list",data:=.seq vs.toArray }) (hi:IntsAre vs ns) (hl:ns.length<=sizeLine) (hr:Room k callerA)
  (F:∀base:Heap,K.In base->base.Ns mainGlobals mg->FnOk P w K mg base CX k fa fd [x] sp) (hbind:∀(s:Shared) (u:Value),BindsTo s fd ⟨[u],[]⟩ [(x,u)])
  (hsp:∀H:Hp,Jw H->AM K H a (ns.map V.int)->sp [.ref a] H (λv _=>v=.bl true) λ_ _ _=>False)
  (hCX:∀H e s',CX [] H s₁ (λ_ _ _=>False) e s'->False) :
  codeAny (model P w) callerA (.call (.ref fa) ⟨[.ref a],[]⟩) (λr s'=>r=.ok (.ret (.bool true))/\OldK s₁.heap s'.heap/\s'.os=s₁.os/\AllBare s'.gens) s₁:=by
 have rv:=NV hi;have lenV:=hi.length
 have core:∀H ,Jw H->AM K H a (ns.map V.int)->HOk P w H s₁.heap->(∀b,H b≠none->b=a)->(H a≠none->K.lookup a=none) ->
   codeAny (model P w) callerA (.call (.ref fa) ⟨[.ref a],[]⟩) (λr s'=>r=.ok (.ret (.bool true))/\OldK s₁.heap s'.heap/\s'.os=s₁.os/\AllBare s'.gens) s₁:=by
  intro H hO hS hok hA hK;have base_of:∀{b } {o },s₁.heap.get? b=some o->H b=none->(Ey s₁.heap H).get? b=some o:=λe n=>zfg e n
  have noA:∀{b } {o } {es } {ep },s₁.heap.get? b=some o->o.data=.dict es ep->H b=none:=λ{b o es ep} e d=>by
   cases q:H b with
   |none=>rfl
   |some u =>
    have e' :=hA b (by rw[q];simp)
    subst e';rw[ha]at e;cases e;have d' :=d;cases d'
  have nsK:∀{b } {m },s₁.heap.Ns b m->(Ey s₁.heap H).Ns b m:=λ{b m} ⟨o,es,ep,e,d,r⟩=>⟨o,es,ep,base_of e (noA e d),d,r⟩
  have hKb :=λb o e=>base_of (KX b o e) (by
   cases q:H b with
   |none=>rfl
   |some u =>
    have e' :=hA b (by rw[q];simp)
    subst e';rw[hK (by rw[q];simp)]at e;cases e)
  have hM:Mod K mg (Ey s₁.heap H):=⟨hKb,nsK hns,⟨mb,nsK hb,hbb⟩,let ⟨mc,h1,h2⟩:=hlim;⟨mc,nsK h1,h2⟩⟩;have e0:Env0 P w K mg (Ey s₁.heap H) callerA [] s₁ H:=⟨rfl,hM,λb o e=>zhe e,Nat.le_of_eq (zdh _ _),trivial,λb hb=>absurd (show b∈[] from hb) (by simp),hok,.of_eq hg⟩
  refine ydk ((F _ hKb (nsK hns)).run callerA [] s₁ H ⟨[.ref a],[]⟩ [.ref a] [.ref a] _ _ hr e0 (hbind s₁ (.ref a)) (.cons rfl .nil) (hsp H hO hS)) λr s' h=>?_
  cases r with
  |error e=>exact(hCX H e s' h).elim
  |ok fl =>
   cases fl with
   |next=>exact False.elim h
   |brk=>exact False.elim h
   |cont=>exact False.elim h
   |ret u =>
    obtain⟨v,H',os,bare,un,hok',r',q⟩:=h;have q' :=q;subst q';obtain rfl:u=Value.bool true:=r';refine⟨rfl,OldK.of_keep λb o e=>?_,os,bare⟩
    cases q:H b with
    |none=>exact un.keep b o e q (by intro z;exact absurd (show b∈[] from z) (by simp)) (by simp)
    |some u =>
     rcases hO b with z|⟨ob,xs,z⟩
     .rw[q]at z;cases z
     .have z2:=un.frzs b ob _ z;obtain⟨e1,_⟩:=hok b _ z;obtain⟨e2,_⟩:=hok' b _ z2;rw[e]at e1;cases e1;exact e2
 cases hk:K.lookup a with
 |some o =>
  have e:=KX a o hk;rw[ha]at e;cases e;refine core (λ_=>none) (λ_=>.inl rfl) (.inr ⟨_,vs.toArray,_,hk,rfl,rfl,rfl,by rw[yay,lenV];exact hl,by simpa using rv⟩) (λb u z=>by have z' :=z;cases z') (λb z=>absurd rfl z) λz=>absurd rfl z
 |none =>
  refine core (λb=>if b=a then some (.frz { cls:=.type "list",data:=.seq vs.toArray } (.lst (ns.map V.int))) else none) (λb=>?_) (.inl (.inr ⟨{ cls:=.type "list",data:=.seq vs.toArray },if_pos rfl⟩)) (λb u z=>?_) (λb z=>?_) λ_=>hk
  .by_cases hb:b=a
   .exact .inr ⟨_,_,if_pos hb⟩
   .exact .inl (if_neg hb)
  .by_cases hb:b=a
   .have z':=(if_pos hb).symm.trans z;cases z';subst hb;exact⟨ha,by rw[ya2];exact hl,vs,_,rv,ha⟩
   .have z':=(if_neg hb).symm.trans z;cases z'
  .by_cases hb:b=a
   .exact hb
   .exact absurd (if_neg hb) z
theorem walk_of{l:PySem.W.OpenLaw}{n k:Nat}     {d:DefRec}{K:Params->k7}{CX:World->Dx}{sp:World->Sp}{x:Str}
  (hn:l.most=some n) (hn2:n<=sizeLine) (hdf:d.params.defaults=[]) (hr:Room k callerA)
  (hY:∀(w:World) (h:Heap),YP w h->(K w.params).In h)
  (F : ∀ (w : World) (mg ) (fa : Addr) (h : Heap), (K w.params).In h -> h.Ns mainGlobals mg -> mg d.name = some (.ref fa) ->
   ∃fd:FuncData,(∀(s:Shared) (u:Value),BindsTo s fd ⟨[u],[]⟩ [(x,u)]) /\
    ∀base:Heap,(K w.params).In base->base.Ns mainGlobals mg->FnOk l.prog w (K w.params) mg base (CX w) k fa fd [x] (sp w))
  (hsp:∀(w:World) (H:Hp) (a:Addr) (ns:List Int),ns.length<=n->Jw H->AM (K w.params) H a (ns.map V.int)->sp w [.ref a] H (λv _=>v=.bl true) λ_ _ _=>False)
  (hCX:∀(w:World) (H:Hp) (s:Shared) (e:Value) (s':Shared),CX w [] H s (λ_ _ _=>False) e s'->False) :
  PySem.W.WalkO q loose XP YP l.row.toRowW d [] (λf vs=>PySem.call f vs):=by
 refine Att.attach_call hn hdf λw s₀ s₁ mg mb fa o pm cd doc a vs ns G Y ho hd hcd hmg hobj hints hlen hg=>?_
 have KX:=hY w _ Y;obtain⟨fd,hb,hF⟩:=F w mg fa _ KX G.T.g hmg;exact zfb KX G.T.g G.T.b G.T.builtins G.T.nolimit hg hobj hints (yaf hlen hn2) hr hF hb (λH hO hS=>hsp w H a ns hlen hO hS) λH e s'=>hCX w H s₁ e s'
def GX(s:Stmt):Arguments:=match s with
 |.FunctionDef _ a _ _ _ _ _ _ _ _=>a
 |_=>{ posonlyargs:=[],args:=[],vararg:=none,kwonlyargs:=[],kw_defaults:=[],kwarg:=none,defaults:=[] }
def Dd(s:Stmt):List Stmt:=match s with
 |.FunctionDef _ _ b _ _ _ _ _ _ _=>b
 |_=>[]
noncomputable def BU(s:Stmt):Scope:=match s with
 |.FunctionDef _ _ _ _ _ _ sc _ _ _=>sc
 |_=>{ kind:=.function,names:=[],isGenerator:=false,isCoroutine:=false }
abbrev Dy:Dx:=λ_ _ _ _ _ _=>False
abbrev E0:XK:=λ_ _ _=>False
theorem pass0{X:Cx}:ND Dy X E0:=λ_ _ _ _ _ _ _ h=>h.elim
structure Fun(K:k7)(x qual:Str)(st:Stmt)(f:Addr)(fd:FuncData):Prop where
 ex:∃(oc:Value) (od:Option Addr) (kV doc pm:Value) (an:Option Addr) (cdv ct:Value) (osl:Array (Option Value)),
  fd=PySem.W.fnOf x qual (GX st) (Dd st) (BU st) .none kV doc pm an cdv ct/\K.lookup f=some ⟨oc,od,.func fd,osl⟩/\PySem.W.codeIn K cdv qual=true
 kp:PySem.W.keepIn K (.ref f)=true
section
variable {P:Program}{w:World}{K:k7}{mg:Str->Option Value}{base:Heap}
theorem Fun.ok  {st }      (F:Fun K x qual st f fd)(S:FnScope N ps (BU st))(len:∀vs H Q E,sp vs H Q E->vs.length=ps.length)
  (hbody : ∀ (cdv ) (A ) (outer ) (s ) (H ) (vs ) (Q ) (E ), Room k (A.deeper (envOfC qual (BU st) s.heap.objs.size f cdv)) -> sp vs H Q E ->
   ∃t,Aq (De Dy P w K mg base N qual (BU st) f cdv A outer s H E).nox (Dd st) t/\t { nx:=λ_ H'=>Q .non H',rt:=Q } (start N vs) H):FnOk P w K mg base Dy (k+1) f fd ps sp:=by
 obtain⟨oc,od,kV,doc,pm,an,cdv,ct,osl,rfl,lk,hcd⟩:=F.ex;refine ME lk hcd S len λA outer s H vs Q E hr hsp=>?_
 obtain⟨t,h,q⟩:=hbody cdv A outer s H vs Q E hr hsp;exact⟨t,h.nox,q⟩
theorem Fun.binds  {st }    (F:Fun K x qual st f fd)
  (h:∀(kV doc pm ) (an ) (cdv ct ) (us ),us.length=ps.length->bindArgs (PySem.W.fnOf x qual (GX st) (Dd st) (BU st) .none kV doc pm an cdv ct) ⟨us,[]⟩=pure (ps.zip us)):Ba K fd ps []:=by
 obtain⟨oc,od,kV,doc,pm,an,cdv,ct,osl,rfl,lk,hcd⟩:=F.ex;exact .all (h kV doc pm an cdv ct)
end
theorem zcv{n:Nat}(h:n<=1000):n<sizeLine:=Nat.lt_of_le_of_lt h (by decide)
section
variable {X:Cx}
theorem pv(i:Nat){x:Str}{pos:Pos}(hN:X.N[i]?=some x:=by rfl)(hv:Bs X.env.scope x:=by rfl)(hd:(x == ("__debug__":Str))=false:=by decide)
  (hcd:(x == ("__classdict__":Str))=false:=by decide):PE X (.Name x pos) (KW i):=DD hN hv hd hcd
end
theorem JX{A B:Prop}(h:B):if false=true then A else B:=by
 grind
theorem JW{A B:Prop}(h:A):if true=true then A else B:=by
 rw[if_pos rfl];exact h
def AL(H H':Hp):Prop:=∀b o,H b=some o->H' b=some o
theorem AL.refl(H:Hp):AL H H:=λ_ _ h=>h
theorem AL.trans(a:AL H H1)(b:AL H1 H2):AL H H2:=λc o h=>b c o (a c o h)
theorem AL.free(e:AL H H')(h:H' l=Option.none):H l=Option.none:=by
 cases q:H l with
 |none=>rfl
 |some o =>
  rw[e l o q]at h;cases h
theorem AL.seq{K}(e:AL H H')(h:AM K H a xs):AM K H' a xs:=by
 rcases h with (h|⟨o,h⟩)|h
 .exact .inl (.inl (e _ _ h))
 .exact .inl (.inr ⟨o,e _ _ h⟩)
 .exact .inr h
section
variable {κ:Type} [DecidableEq κ]
noncomputable def Cd(kvs:List (κ×V))(k:κ):Option V:=(kvs.find? λkv=>decide (kv.1=k)).map (·.2)
noncomputable def Cf(kvs:List (κ×V))(k:κ)(v:V):List (κ×V) :=
 if (kvs.any λkv=>decide (kv.1=k))=true then kvs.map (λkv=>if kv.1=k then (kv.1,v) else kv) else kvs++[(k,v)]
def S8(kvs:List (κ×V))(k:κ):List (κ×V):=kvs.filter λkv=>decide (kv.1≠k)
theorem IM{k:κ}(e:p.1=k):Cd (p::r) k=some p.2:=by simp[Cd,e]
theorem IP{k:κ}(e:¬ p.1=k):Cd (p::r) k=Cd r k:=by simp[Cd,e]
theorem NX(k:κ):∀kvs ,(kvs.any λkv=>decide (kv.1=k))=(Cd kvs k).isSome
 |[]=>rfl
 |p::r=>by
  rw[List.any_cons]
  by_cases e:p.1=k
  .simp only[IM e,ydp e,Bool.true_or,Option.isSome_some]
  .rw[IP e,yd9 e];exact NX k r
theorem RC(kvs)(k:κ)(v):(Cf kvs k v).length<=kvs.length+1:=by
 unfold Cf
 grind
theorem C0.isSome_eq(r:C0 o u):o.isSome=u.isSome:=by
 cases o with
 |none=>cases u with
  |none=>rfl
  |some _=>exact(r).elim
 |some _=>cases u with
  |none=>exact(r).elim
  |some _=>rfl
theorem C0.getD(r:C0 o u)(rd:AN d d'):AN (o.getD d) (u.getD d'):=by
 cases o with
 |none=>cases u with
  |none=>exact rd
  |some _=>exact(r).elim
 |some _=>cases u with
  |none=>exact(r).elim
  |some _=>exact r
theorem KV.val   (r:KV kvs vs)(k:κ):C0 (Cd kvs k) (valueAt vs k):=by
 induction r with
 |nil=>exact True.intro
 |@cons p q ps qs h t ih =>
  obtain⟨h1,h2⟩:=h
  by_cases e:p.1=k
  .have e' :=h1.symm.trans e;have b:valueAt (q::qs) k=some q.2:=by simp[valueAt,e']
   rw[IM e,b];exact h2
  .have e':¬ q.1=k:=λz=>e (h1.trans z)
   have b:valueAt (q::qs) k=valueAt qs k:=by simp[valueAt,e']
   rw[IP e,b];exact ih
theorem KV.any(r:KV kvs vs)(k:κ):(kvs.any λkv=>decide (kv.1=k))=vs.any λkv=>decide (kv.1=k):=by
 induction r with
 |nil=>rfl
 |cons h t ih=>grind
theorem KV.repl(r:KV kvs vs)(k:κ)(ry:AN y u) :
  KV (kvs.map λkv=>if kv.1=k then (kv.1,y) else kv) (vs.map λkv=>if kv.1=k then (kv.1,u) else kv):=by
 induction r with
 |nil=>exact .nil
 |@cons p q ps qs h t ih =>
  refine .cons ?_ ih
  grind
theorem KV.put(r:KV kvs vs)(k:κ)(ry:AN y u):KV (Cf kvs k y) (stored vs k u):=by
 unfold Cf stored;rw[r.any k]
 by_cases e:(vs.any λkv=>decide (kv.1=k))=true
 .rw[if_pos e,if_pos e];exact r.repl k ry
 .rw[if_neg e,if_neg e];exact Paired.snoc r ⟨rfl,ry⟩
theorem KV.drop(r:KV kvs vs)(k:κ):KV (S8 kvs k) (without vs k):=by
 unfold S8 without
 induction r with
 |nil=>exact .nil
 |@cons p q ps qs h t ih =>
  obtain⟨h1,h2⟩:=h;rw[List.filter_cons,List.filter_cons]
  by_cases e:p.1=k
  .grind
  .have e':¬ q.1=k:=λz=>e (h1.trans z)
   have a:decide (p.1≠k)=true:=by simp[e]
   have b:decide (q.1≠k)=true:=by simp[e']
   rw[if_pos a,if_pos b];exact .cons ⟨h1,h2⟩ ih
theorem KV.length{kvs:List (κ×V)}(r:KV kvs vs):kvs.length=vs.length:=yd1 r
end
theorem Lq(r:AN (kV k) u):(CV P w).is k u=true:=by
 cases k with
 |inl i=>obtain⟨t,e⟩:=(r);subst e;exact zbv P w i t
 |inr x=>obtain⟨t,e⟩:=(r);subst e;exact zbu P w x t
theorem RS:∀{ks} {us},AK (ks.map kV) us->ItemsAre (CV P w) ks us
 |[],_,r=>by cases r;exact .nil
 |k::ks,_,r=>by
  cases r with
  |cons h t=>exact .cons (Lq h) (RS t)
abbrev KT(H:Hp):List (List Key×V)->List (List Key×Addr×Value)->Prop:=Paired λp q=>p.1=q.1/\H q.2.1=some (.tup (p.1.map kV))/\AN p.2 q.2.2
theorem KT.val(r:KT H kvs xs)(k):C0 (Cd kvs k) ((atKey xs k).map (·.2)):=by
 induction r with
 |nil=>exact True.intro
 |@cons p q ps qs h t ih =>
  obtain⟨h1,_,h2⟩:=h
  by_cases e:p.1=k
  .have e' :=h1.symm.trans e;have b:atKey (q::qs) k=some q.2:=by simp[atKey,e']
   rw[IM e,b];exact h2
  .have e':¬ q.1=k:=λz=>e (h1.trans z)
   have b:atKey (q::qs) k=atKey qs k:=by simp[atKey,e']
   rw[IP e,b];exact ih
theorem KT.repl(r:KT H kvs xs)(k)(ry:AN y u) :
  KT H (kvs.map λkv=>if kv.1=k then (kv.1,y) else kv) (xs.map (putAt k u)):=by
 induction r with
 |nil=>exact .nil
 |@cons p q ps qs h t ih =>
  refine .cons ?_ ih;unfold putAt
  grind
theorem KT.put{H:Hp}(r:KT H kvs xs)(k:List Key){y:V}(hb:H b=some (.tup (k.map kV)))(ry:AN y u) :
  KT H (Cf kvs k y) (storedH xs k b u):=by
 have e:(kvs.any λkv=>decide (kv.1=k))=(atKey xs k).isSome:=by
  rw[NX,(r.val k).isSome_eq,Option.isSome_map]
 unfold Cf storedH;rw[e]
 by_cases q:(atKey xs k).isSome=true
 .rw[if_pos q,if_pos q];exact r.repl k ry
 .rw[if_neg q,if_neg q];exact Paired.snoc r ⟨rfl,hb,ry⟩
theorem KT.keeps(r:KT H kvs xs)(ht:∀b ys,H b=some (.tup ys)->H' b=some (.tup ys)):KT H' kvs xs :=
 Paired.mapP r λ_ _ z=>⟨z.1,ht _ _ z.2.1,z.2.2⟩
section
variable {P:Program}{w:World}{H:Hp}{h:Heap}{a:Addr}
theorem Oy{u:HO}(ok:HOk P w H h)(e:Rd H a u):Bl P w H h a u:=e.ok ok
theorem S9(ok:HOk P w H h)(e:Rd H a (.dK kvs)):kvs.length<=sizeLine/\(a == sysModules)=false/\∃vs,KV kvs vs/\h.DictOf (CV P w) a vs :=
 Oy ok e
theorem Sa(ok:HOk P w H h)(e:H a=some (.dK kvs)):kvs.length<=sizeLine/\(a == sysModules)=false/\∃vs,KV kvs vs/\h.DictOf (CV P w) a vs:=S9 ok (.inl e)
theorem Lp  (ok:HOk P w H h)(e:H a=some (.tup (ks.map kV))):(tupleKind (CV P w)).is h ks a:=by
 obtain⟨_,its,r,o,h1,h2,n,h3⟩:=(ok a _ e);exact⟨o,its.toArray,n,h1,h2,h3,by simpa using RS r⟩
theorem SY(ok:HOk P w H h)(e:Rd H a (.dT kvs)):kvs.length<=sizeLine/\(a == sysModules)=false /\
  ∃xs,KT H kvs xs/\h.DictOfH (tupleKind (CV P w)) a xs:=by
 obtain⟨z,y,xs,r,o,es,ep,h1,h2,h3,h4,h5⟩:=(Oy ok e);refine⟨z,y,xs,r,o,es,ep,h1,h2,h3,h4,λx hx=>?_,h5⟩
 have all:∀{l } {m },KT H l m->∀x∈m,(tupleKind (CV P w)).is h x.1 x.2.1:=by
  intro l m q
  induction q with
  |nil=>simp
  |@cons p q ps qs hq t ih =>
   intro x hx
   rcases(yak.mp hx) with e|hx
   .exact Lp ok (by grind)
   grind
 grind
theorem dt_of(ok:HOk P w H h)(e:H a=some (.dT kvs)):kvs.length<=sizeLine/\(a == sysModules)=false /\
  ∃xs,KT H kvs xs/\h.DictOfH (tupleKind (CV P w)) a xs:=SY ok (.inl e)
end
def Gd(H:Hp)(a:Addr)(y:V)(r:Option V):Prop :=
 (∃kvs k,Rd H a (.dK kvs)/\y=kV k/\r=Cd kvs k)\/∃kvs k b,Rd H a (.dT kvs)/\y=.ref b/\H b=some (.tup (k.map kV))/\r=Cd kvs k
def Gc(H:Hp)(a:Addr)(y v:V)(H':Hp):Prop :=
 (∃kvs k,H a=some (.dK kvs)/\y=kV k/\kvs.length<sizeLine/\H'=upd H a (.dK (Cf kvs k v))) \/
 ∃kvs k b,H a=some (.dT kvs)/\y=.ref b/\H b=some (.tup (k.map kV))/\kvs.length<sizeLine/\H'=upd H a (.dT (Cf kvs k v))
theorem Gd.k{k}(e:H a=some (.dK kvs)):Gd H a (kV k) (Cd kvs k):=.inl ⟨kvs,k,.inl e,rfl,rfl⟩
theorem Gd.t{k}(e:H a=some (.dT kvs))(eb:H b=some (.tup (k.map kV))):Gd H a (.ref b) (Cd kvs k):=.inr ⟨kvs,k,b,.inl e,rfl,eb,rfl⟩
theorem Gc.k{k}(e:H a=some (.dK kvs))(hl:kvs.length<sizeLine):Gc H a (kV k) v (upd H a (.dK (Cf kvs k v))):=.inl ⟨kvs,k,e,rfl,hl,rfl⟩
theorem Gc.t{k}(e:H a=some (.dT kvs))(eb:H b=some (.tup (k.map kV)))(hl:kvs.length<sizeLine) :
  Gc H a (.ref b) v (upd H a (.dT (Cf kvs k v))):=.inr ⟨kvs,k,b,e,rfl,eb,hl,rfl⟩
section
variable {X:Cx}{pins:List (Addr×Obj)}{σ:St}{H:Hp}{s:Shared}{a:Addr}{y v:V}{u r:Value}{o:Option V}{A:Around}{E:Value->Shared->Prop}
theorem Inv.big(I:Inv X pins σ H s):sysModules<s.heap.objs.size:=by
 have h :=(I.mod.glob.keeps I.bk).lt;exact ycs (by decide) h
theorem zdv  (hu:A.units+1<cLine)(I:Inv X pins σ H s)(g:Gd H a y (some v))(ry:AN y u)(h:∀w' s',Inv X pins σ H s'->AN v w'->Q w' s') :
  wpAny (model X.prog X.w) A (getItem (.ref a) u) Q E s:=by
 rcases g with ⟨kvs,k,e,ey,l⟩|⟨kvs,k,b,e,ey,eb,l⟩
 .subst ey;obtain⟨z,hd,vs,rel,dd⟩:=S9 I.hok e;obtain⟨w',hw,rw'⟩:=C0.some_of (by rw[l];exact rel.val k)
  exact wpAny_getItem_of (Lq ry) dd.mapOf hw (h w' _ (I.tok _) rw')
 .subst ey;cases (ry);obtain⟨z,hd,xs,rel,dd⟩:=SY I.hok e;obtain⟨w',hw,rw'⟩:=C0.some_of (by rw[l];exact rel.val k)
  obtain⟨p,hp,hp2⟩:=yad.mp hw;refine wpAny_getItem_heap (tupleKind_room_in1 hu) (Lp I.hok eb) dd hp ?_;rw[hp2];exact h w' _ (I.tok _) rw'
theorem Si    (I:Inv X pins σ H s)(mu:IC (H a))(hs:Heap.SameBut a s.heap h')(he:∃q,h'.get? a=some q)(new:Bl X.prog X.w (upd H a ob) h' a ob) :
  Inv X pins σ (upd H a ob) { s with heap:=h',toks:=t' } :=
 I.write mu (.inl rfl) (λb q hb z=>(hs.2 b hb).trans z) he new
theorem zlf(z:kvs.length<=sizeLine)(hd:(a == sysModules)=false)(rel:KV kvs vs)(dd:h'.DictOf (CV P w) a vs) :
  Bl P w H' h' a (.dK kvs):=⟨z,hd,vs,rel,dd⟩
theorem zdu   (hu:A.units+1<cLine)(I:Inv X pins σ H s)(g:Gc H a y v H')(ry:AN y u)(rv:AN v r)(h:∀s',Inv X pins σ H' s'->Q () s') :
  wpAny (model X.prog X.w) A (setItem (.ref a) u r) Q E s:=by
 rcases g with ⟨kvs,k,e,ey,l,eH⟩|⟨kvs,k,b,e,ey,eb,l,eH⟩
 .subst ey eH;obtain⟨z,hd,vs,rel,dd⟩:=Sa I.hok e;have hz:vs.length<=sizeLine:=by rw[<- rel.length];exact z
  have hl:(Cf kvs k v).length<=sizeLine:=by have:=RC kvs k v;omega
  refine wpAny_setItem_pairs (Lq ry) dd λh' dd' hs=>h _ ?_
  have he:∃q,h'.get? a=some q:=let ⟨q,_,_,hq,_⟩:=dd';⟨q,hq⟩;exact Si I (by rw[e];exact True.intro) hs he (zlf hl hd (rel.put k rv) dd')
 .subst ey eH;cases (ry);obtain⟨z,hd,xs,rel,dd⟩:=dt_of I.hok e;have hz:xs.length<=sizeLine:=by rw[<- yd1 rel];exact z
  have hl:(Cf kvs k v).length<=sizeLine:=by have:=RC kvs k v;omega
  refine wpAny_setItem_heap (tupleKind_room_in1 hu) (Lp I.hok eb) dd λh' dd' hs=>h _ ?_
  obtain⟨q,es,ep,hq,h2,h3,h4,_,h5⟩:=dd';refine Si I (by rw[e];exact True.intro) hs ⟨q,hq⟩ ⟨hl,hd,_,(rel.put k eb rv).keeps λc ys ec=>?_,q,es,ep,hq,h2,h3,h4,h5⟩
  rw[AZ (ne_of ec e (λz=>nomatch z))]
  exact ec
end
section
variable {X:Cx}{pins:List (Addr×Obj)}{σ:St}{H:Hp}{s:Shared}{a:Addr}{kvs:List (Key×V)}{k:Key}{u:Value}{A:Around}{E:Value->Shared->Prop}
end
section
variable {X:Cx}{o i e value:Expr}{pos pos' tpos:Pos}{td ty tv:TE}
end
theorem zfp(h:Heap)(hb:sysModules<h.objs.size):Bl P w H (h.push { cls:=.type "dict",data:=.dict #[]}) h.objs.size (.dK []) :=
 ⟨ybf _,beq_eq_false_iff_ne.mpr (yah (yaj hb)),[],.nil,Heap.DictOf.new h⟩
section
variable {X:Cx}{pos:Pos}
end
section
variable {X:Cx}{pins:List (Addr×Obj)}{σ:St}{H:Hp}{s:Shared}{a:Addr}{y d:V}{u r:Value}{o:Option V}{A:Around}{E:Value->Shared->Prop}
end
section
variable {X:Cx}{o e f:Expr}{apos cpos:Pos}{td ty tx:TE}
end
section
variable {X:Cx}{pins:List (Addr×Obj)}{σ:St}{H:Hp}{s:Shared}{a:Addr}{kvs:List (Key×V)}{A:Around}{E:Value->Shared->Prop}
end
section
variable {X:Cx}{pins:List (Addr×Obj)}{σ:St}{H:Hp}{s:Shared}{a:Addr}{y:V}{u:Value}{A:Around}{E:Value->Shared->Prop}
end
end L2
namespace Zm
noncomputable def gd(a b:Int):Int:=(Int.gcd a b:Nat)
def lt(t b:Int):Int:=t.fdiv (gd t b)
def lb(t b:Int):Int:=b.fdiv (gd t b)
def sg(t b:Int):Int:=if b<0 then -(gd t b) else gd t b
def fb(t b:Int):Int:=b.fdiv (sg t b)
end Zm
namespace Zw
open PySem PySem.Spec PyProof.Rows L2
def Sm(i:Int):Prop:=-(10 ^ 70)<i/\i<10 ^ 70
theorem Sm.nat{i:Int}(h:Sm i):i.natAbs<10 ^ 70:=by
 unfold Sm at h
 omega
theorem zjt:10 ^ 70<=2 ^ 300:=by decide +kernel
theorem Sm.log(h:Sm i):i.natAbs.log2<300:=by
 by_cases z:i.natAbs=0
 .simp_all
 .exact(Nat.log2_lt z).mpr (yab h.nat zjt)
theorem Sm.bits(h:Sm i):Builtin.Int.intBits i<=2 ^ 20:=by
 have q:=h.log;unfold Builtin.Int.intBits
 grind
theorem Sm.of{i:Int}(h1:-(10 ^ 70)<i)(h2:i<10 ^ 70):Sm i:=⟨h1,h2⟩
theorem Sm.abs(h:i.natAbs<=m)(hm:m<10 ^ 70):Sm i:=by
 constructor<;>omega
section
variable {X:Cx}
theorem zh6:AX X (binaryOp .Mult) (rI (λi j=>Sm i/\Sm j) λi j=>.int (i * j)):=HD λ_ _ _ _ _ _ _ hc q=>mul_int q (.of_bits hc.1.bits hc.2.bits)
theorem zf3:AX X (binaryOp .FloorDiv) (rI (λ_ j=>j≠0/\Sm j) λi j=>.int (i.fdiv j)) :=
 HD λ_ _ _ _ _ _ _ hc q=>floordiv_int hc.1 q (.inl (PyProof.noPylong_of_log2 (ycs hc.2.log (by decide))))
theorem RU(r:AN x v):PySem.plainIs v (.bool b)=true/\(v == Value.bool b)=decide (x=V.bl b):=by
 cases x with
 |non=>cases r;exact⟨rfl,by simp⟩
 |bl c=>cases r;exact⟨rfl,by grind⟩
 |int i=>obtain⟨t,rfl⟩:=r;exact⟨rfl,by simp⟩
 |str i=>obtain⟨t,rfl⟩:=r;exact⟨rfl,by simp⟩
 |byt i=>obtain⟨t,rfl⟩:=r;exact⟨rfl,by simp⟩
 |flt i=>obtain⟨t,rfl⟩:=r;exact⟨rfl,by simp⟩
 |ref i=>cases r;exact⟨rfl,by simp⟩
 |ty i=>cases r;exact⟨rfl,by simp⟩
theorem zk9:AX X (compareOp .Is) (λx y H Q=>∃b,y=.bl b/\Q (.bl (decide (x=.bl b))) H):=by
 intro pins s σ H x y v u Q I rx ry h;obtain⟨b,rfl,q⟩:=h;cases ry;obtain⟨e1,e2⟩:=RU rx;exact wpAny_is_plain e1 (Hb I q e2.symm)
theorem zh5:AX X (compareOp .IsNot) (λx y H Q=>∃b,y=.bl b/\Q (.bl (!decide (x=.bl b))) H):=by
 intro pins s σ H x y v u Q I rx ry h;obtain⟨b,rfl,q⟩:=h;cases ry;obtain⟨e1,e2⟩:=RU rx;exact wpAny_isNot_plain e1 (Hb I q (by rw[e2]))
theorem zfw :BW X (.builtin "isinstance") (λxs H Q=>∃x t b,xs=[x,.ty c]/\TyOf X.K H x t/\PySem.W.kitOne X.K t (.type c)=some b/\Q (.bl b) H):=by
 intro pins s σ H xs us Q I r h;obtain⟨x,t,b,rfl,ty,e,q⟩:=h;obtain⟨u,w',rfl,rx,ry⟩:=Fp r;cases ry;exact Lu I rx ty e λtk=>⟨.bl b,H,I.tok _,rfl,q⟩
end
section
variable {X:Cx}
end
section
variable {X:Cx}{pos:Pos}
end
section
variable {X:Cx}
end
theorem zbx:PySem.W.kitMeta "int"=true:=by decide +kernel
theorem zbg:PySem.W.kitMeta "bool"=true:=by decide +kernel
theorem zb5:PySem.W.kitMeta "tuple"=true:=by decide +kernel
theorem zfc(K)(c):PySem.W.kitOne K (.type c) (.type c)=some true:=by
 unfold PySem.W.kitOne;simp
theorem zkw(K){l:List Value}(h:t≠c)(hm:PySem.W.kitMeta c=true)(hl:(fastBuiltinMro t).map (·.contains (Value.type c))=some b):PySem.W.kitOne K (.type t) (.type c)=some b:=by
 unfold PySem.W.kitOne;rw[if_neg (by simpa using h)]
 show(if PySem.W.kitMeta c=true then PySem.W.subIn K (.type t) (.type c) else none)=some b
 rw[if_pos hm];exact hl
inductive Known(H:Hp):V->Prop where
 |non:Known H .non
 |bl (b:Bool):Known H (.bl b)
 |int (i:Int):Known H (.int i)
 |str (x:Str):Known H (.str x)
 |lst {p:Addr} {xs:List V} (e:H p=some (.lst xs)):Known H (.ref p)
 |tup {p:Addr} {xs:List V} (e:H p=some (.tup xs)):Known H (.ref p)
 |dic {p:Addr} {kvs:List (Key×V)} (e:H p=some (.dK kvs)):Known H (.ref p)
theorem Known.same(h:Known H x)(s:AL H H'):Known H' x:=by
 cases h with
 |non=>exact .non
 |bl b=>exact .bl b
 |int i=>exact .int i
 |str y=>exact .str y
 |lst e=>exact .lst (s _ _ e)
 |tup e=>exact .tup (s _ _ e)
 |dic e=>exact .dic (s _ _ e)
structure FunD(K:k7)(x qual:Str)(st:Stmt)(f:Addr)(fd:FuncData):Prop where
 ex:∃(oc:Value) (od:Option Addr) (dV kV doc pm:Value) (an:Option Addr) (cdv ct:Value) (osl:Array (Option Value)),
  fd=PySem.W.fnOf x qual (GX st) (Dd st) (BU st) dV kV doc pm an cdv ct/\K.lookup f=some ⟨oc,od,.func fd,osl⟩/\PySem.W.codeIn K cdv qual=true
 kp:PySem.W.keepIn K (.ref f)=true
theorem FunD.ok{K}{st}(F:FunD K x qual st f fd)(S:FnScope N ps (BU st))(len:∀vs H Q E,sp vs H Q E->vs.length=ps.length)
  (hbody : ∀ (cdv ) (A ) (outer ) (s ) (H ) (vs ) (Q ) (E ), Room k (A.deeper (envOfC qual (BU st) s.heap.objs.size f cdv)) -> sp vs H Q E ->
   ∃t,Aq (De Dy P w K mg base N qual (BU st) f cdv A outer s H E).nox (Dd st) t/\t { nx:=λ_ H'=>Q .non H',rt:=Q } (start N vs) H):FnOk P w K mg base Dy (k+1) f fd ps sp:=by
 obtain⟨oc,od,dV,kV,doc,pm,an,cdv,ct,osl,rfl,lk,hcd⟩:=F.ex;refine ME lk hcd S len λA outer s H vs Q E hr hsp=>?_
 obtain⟨t,h,q⟩:=hbody cdv A outer s H vs Q E hr hsp;exact⟨t,h.nox,q⟩
theorem zi1{K}{st}{dV kV doc pm cdv ct}(l:K.lookup f=some ⟨oc,od,.func (PySem.W.fnOf x qual (GX st) (Dd st) (BU st) dV kV doc pm an cdv ct),osl⟩)
  (c:PySem.W.codeIn K cdv qual=true) (k:PySem.W.keepIn K (.ref f)=true):FunD K x qual st f (PySem.W.fnOf x qual (GX st) (Dd st) (BU st) dV kV doc pm an cdv ct):=⟨⟨oc,od,dV,kV,doc,pm,an,cdv,ct,osl,rfl,l,c⟩,k⟩
structure Tx(K:k7)(mg:Str->Option Value)(x:Str)(st:Stmt)(ps:List Str) where
 f:Addr
 fd:FuncData
 F:FunD K x x st f fd
 m:mg x=some (.ref f)
 b:Ba K fd ps []
structure Def(P:Program)(w:World)(K:k7)(mg:Str->Option Value)(base:Heap)(k:Nat)(x:Str)(ps:List Str)(sp:Sp) where
 f:Addr
 fd:FuncData
 ok:FnOk P w K mg base Dy k f fd ps sp
 m:mg x=some (.ref f)
 kp:PySem.W.keepIn K (.ref f)=true
 b:Ba K fd ps []
section
variable {X:Cx}{k j:Nat}{x:Str}{ps:List Str}{sp:Sp}{p pos:Pos}{e:Expr}{es:List Expr}{t:TA}
theorem pd(D:Def X.prog X.w X.K X.mg X.base k x ps sp)(hr:Room j X.A)(ha:PA X (e::es) t)(hk:k<=j:=by decide)(hg:Gl X x:=by rfl)(hdb:(x == "__debug__")=false:=by decide)
  (he:starEach (e::es) X.env=(false,eval e X.env)::starEach es X.env:=by rfl) (hpl:(backTo pos (starEach es X.env)).any (·.1)=false:=by rfl) :
  PE X (.Call (.Name x p) (e::es) [] pos) (Nn sp [] E0 t):=zh1 D.ok (hr.mono hk) hg D.m D.kp D.b .nil pass0 ha hdb he hpl
end
theorem Ip(h:H p=none)(o):AL H (upd H p o):=λb u q=>by
 rw[AZ (Bt q h)];exact q
def IE(H:Hp)(p:Addr)(a b:Int):Prop:=H p=some (.tup [.int a,.int b])
theorem IE.same(h:IE H p a b)(s:AL H H'):IE H' p a b:=s _ _ h
theorem IE.new:IE (upd H p (.tup [.int a,.int b])) p a b:=Be
theorem sz{n:Nat}(h:n<=1000:=by exact Nat.le_of_ble_eq_true rfl):n<=sizeLine:=ycu (zcv h)
noncomputable def zli(X:Cx)(scope:Scope)(cl:List (Str×Addr))(N':List Str)(C:Addr)(s₀:Shared)(H₀:Hp)(ex:List Addr):Cx :=
 { X with N:=N',s₀:=s₀,H₀:=H₀,env:=compEnvC scope cl C X.env,outer:=X.stack,ex:=ex,fn:=λ_=>false,xe:=λ_ _=>False }
theorem HOk.adopt(x:HOk P w H h)(hn:H a=none)(new:Bl P w (upd H a o) h a o):HOk P w (upd H a o) h:=λb u e=>by
 by_cases hb:b=a
 .subst hb;rw[Be]at e
  grind
 .rw[AZ hb]at e;exact(x b u e).stay (λc v _ q=>q) (λc q=>by rw[AZ (Bt q hn)];exact q) λc xs q=>by rw[AZ (Bt q hn)];exact q
section
variable {X:Cx}{elt iter tg:Expr}{scope:Scope}{pos:Pos}{cl:List (Str×Addr)}{N':List Str}{wi:TI}{g:TG}{te:TE}
end
end Zw
namespace Zx
open PySem PySem.Spec PyProof.Rows L2 Zw
def Ji(h B:Heap)(a:Addr)(cls:Value×Option Addr)(fl:Value):Prop :=
 ∃oe vs T oT ts,h.get? a=some oe/\((oe.cls,oe.dict)=cls/\vs[2]?=some .none)/\oe.data=.fields vs/\vs[1]?=some (.ref T)/\B.get? T=none/\T≠a/\h.get? T=some oT/\oT.data=.fields ts/\ts[3]?=some fl
def E8(B:Heap)(l:List Env)(a:Addr)(cls:Value×Option Addr)(h:Heap):Prop:=B.StaysIn h/\B.get? a=none/\h.FunFrames B l/\Ji h B a cls .none
def NK(B:Heap)(l:List Env)(a:Addr)(cls:Value×Option Addr)(L:Addr)(h:Heap):Prop:=B.StaysIn h/\B.get? a=none/\h.FunFrames B l/\Ji h B a cls (rawInt L)
theorem E8.first(x:E8 B l a cls h):∃oe vs,h.get? a=some oe/\(oe.cls,oe.dict)=cls/\oe.data=.fields vs/\vs[2]?=some .none :=
 let ⟨_,_,_,oe,vs,_,_,_,he,hc,hd,_⟩:=x;⟨oe,vs,he,hc.1,hd,hc.2⟩
theorem E8.there(x:E8 B l a cls h):∃ob,h.get? a=some ob/\ob.cls=cls.1 :=
 let ⟨oe,_,he,hc,_⟩:=x.first;⟨oe,he,congrArg Prod.fst hc⟩
theorem zd8(f)(o):((Obj.mapFields f o).cls,(Obj.mapFields f o).dict)=(o.cls,o.dict):=by
 unfold Obj.mapFields;split<;>rfl
section
variable {M:Model}{A:Around}{E:Value->Shared->Prop}{s:Shared}{B:Heap}{env v:Env}{l:List Env}{L a:Addr}{cls:Value×Option Addr}{Q:Unit->Shared->Prop}
theorem SU     (hfr:A.frames=some (v::l))(hl:s.heap.FunFrames B (v::l))(hL:v.frame=some L)(he:s.heap.get? a=some oe)(hk:B.StaysIn s.heap)(ha:B.get? a=none)
  (hd:oe.data=.fields vs) (hsz:1<vs.size) (h2:vs[2]?=some .none) (h:∀h',NK B (v::l) a (oe.cls,oe.dict) L h'->s.heap.UpToSlots h'->Q () { s with heap:=h' }) :
  wpAny M A (do let f <- frameOf v;let pl <- entryPlaceOf L hn;let b <- EntryCells.newEntry head f .none (rawInt L) .none pl;setField (.ref a) 1 b) Q E s:=by
 have nof:a∉(v::l).filterMap (·.frame):=λz=>by
  obtain⟨_,o,ho,n⟩:=hl.mem z;rw[he]at ho;cases ho;exact n vs hd
 refine ydc (wpAny_frameOf_fun hfr hl hL λh1 k1=>?_)
 refine ydc (wpAny_entryPlaceOf λpl hpl=>?_)
 unfold EntryCells.newEntry newFields;refine ydc (wpAny_newObj_type ?_ (hpl.sizeOk5 _ _ _ _ _));have e1 :=(k1.2.1 a nof).trans he;have b1:B.StaysIn h1:=λb o q=>(k1.2.1 b λz=>by rw[(hl.mem z).1]at q;cases q).trans (hk b o q)
 have ne :=Nat.ne_of_gt (ya8 e1);refine ydq (ya4 _ e1) hd hsz ?_;have hd3:=ycc hd (·.setIfInBounds 1 (Value.ref h1.objs.size));have kp:∀nw b o,b≠a->h1.get? b=some o->((h1.push nw).update a (Obj.mapFields (·.setIfInBounds 1 (Value.ref h1.objs.size)))).get? b=some o:=λnw b o n q=>(yb1 _ _ (yah n)).trans (ya4 _ q)
 have nr:∀b o,s.heap.get? b=some o->(∀ws,o.data≠.fields ws)->b≠a:=λb o q n z=>by
  rw[z,he]at q;cases q;exact n vs hd
 have sm:∀nw,s.heap.UpToSlots ((h1.push nw).update a (Obj.mapFields (·.setIfInBounds 1 (Value.ref h1.objs.size)))):=λnw b o q n=>by
  obtain⟨sl,q1⟩:=k1.2.2 b o q;exact⟨sl,kp nw b _ (nr b o q n) q1⟩
 refine h _ ⟨λb o q=>kp _ b o (λz=>by rw[z,ha]at q;cases q) (b1 b o q),ha,hl.of_keeps λb o q n=>?_,_,_,h1.objs.size,_,_,ycq _ (ya4 _ e1) (ycr hd3),⟨by rw[zd8],?_⟩,hd3,by simp[hsz],b1.fresh,ne,
  (yb1 _ _ (yah ne)).trans (yai h1 rfl),rfl,?_⟩ (sm _)
 .obtain⟨sl,q1⟩:=sm _ b o q n;exact⟨_,q1,rfl⟩
 .rw[Array.getElem?_setIfInBounds_ne (by decide)]
  exact h2
 .first|(simp;done)|(rcases hpl with rfl|⟨_,_,_,_,_,_,_,rfl⟩<;>simp)
theorem zi2  (hk:B.StaysIn s.heap)(ha:B.get? a=none)(hl:s.heap.FunFrames B l)(ht:Ji s.heap B a cls fl)(h:∀h',E8 B l a cls h'->s.heap.UpToSlots h'->Q () { s with heap:=h' }):wpAny M A (setFlight (.ref a) none) Q E s:=by
 obtain⟨oe,vs,T,oT,ts,he,hc,hd,g1,nT,Tne,hT,dT,g3⟩:=ht;have s3:3<ts.size:=(yb7.mp g3).1;have oth:∀b,b≠T->(s.heap.update T (Obj.mapFields (·.setIfInBounds 3 ((none:Option Addr).elim Value.none λf=>rawInt f)))).get? b=s.heap.get? b:=λb hb=>yb1 _ _ (yah hb)
 have nr:∀b o,s.heap.get? b=some o->(∀ws,o.data≠.fields ws)->b≠T:=λb o q n z=>by
  rw[z,hT]at q;cases q;exact n ts dT
 unfold setFlight;refine ydc (ydr he hd g1 ?_);rw[if_pos (by simp)]
 exact ydq hT dT s3 (h _ ⟨λb o q=>(oth b λz=>by rw[z,nT]at q;cases q).trans (hk b o q),ha,hl.of_keeps λb o q n=>⟨o,(oth b (nr b o q n)).trans q,rfl⟩,
  oe,vs,T,_,_,(oth a (yah Tne)).trans he,hc,hd,g1,nT,Tne,ycq _ hT (ycr (ycc dT _)),ycc dT _,by simp[s3]⟩ λb o q n=>⟨o.slots,(oth b (nr b o q n)).trans q⟩)
theorem RI(hh:NK B l a cls L s.heap)(hQ:∀h',E8 B l a cls h'->s.heap.UpToSlots h'->Q () { s with heap:=h' }):wpAny M A (setFlight (.ref a) none) Q E s :=
 zi2 hh.1 hh.2.1 hh.2.2.1 hh.2.2.2 hQ
structure MadeO(h h':Heap)(a:Addr)(cls:Value×Option Addr):Prop where
 keeps:∀b o,h.get? b=some o->h'.get? b=some o
 new:h.get? a=none
 there:∃oe t,h'.get? a=some oe/\(oe.cls,oe.dict)=cls/\oe.data=.fields #[.ref t,.none,.none,.none,.bool false,.none]
theorem madeO(hx:Heap.MadeExcOf h h' a c args):MadeO h h' a (c,none) :=
 ⟨hx.keeps,hx.new,let ⟨t,he,_,_⟩:=hx.there;⟨_,t,he,rfl,rfl⟩⟩
theorem madeX  (hfr:A.frames=some (v::l))(hL:v.frame=some L)(hk:B.StaysIn h)(hl:h.FunFrames B (v::l))(hx:MadeO h s.heap a cls)
  (hQ:∀h',E8 B l a cls h'->s.heap.UpToSlots h'->Q () { s with heap:=h' }):wpAny M A (leaving v (.ref a)) Q E s:=by
 obtain⟨oe,t,he,rfl,hd⟩:=hx.there
 have fr:B.get? a=none:=by
  cases q:B.get? a with
  |none=>rfl
  |some o =>
   have:=hk a o q;rw[hx.new]at this;cases this
 unfold leaving noteFrame;simp only[hL];refine ydc (ydc (ydr he hd rfl ?_));refine SU hfr (hl.of_keeps λb o q _=>⟨o,hx.keeps b o q,rfl⟩) hL he (λb o q=>hx.keeps b o (hk b o q)) fr hd (by simp) rfl λh1 k1 sm=>RI k1 λh2 k2 sm2=>?_
 obtain⟨k1,k2,⟨_,_,k3⟩,k4⟩:=k2;exact hQ h2 ⟨k1,k2,k3,k4⟩ (sm.trans sm2)
end
def Jz(B:Heap)(l:List Env)(a:Addr)(cls:Value×Option Addr)(h:Heap):Prop:=∃fl,B.StaysIn h/\B.get? a=none/\h.FunFrames B l/\Ji h B a cls fl
theorem SI(x:E8 B l a cls h):Jz B l a cls h:=⟨.none,x⟩
section
variable {M:Model}{A:Around}{E:Value->Shared->Prop}{s:Shared}{B:Heap}{env v:Env}{l:List Env}{L a:Addr}{cls:Value×Option Addr}{Q:Unit->Shared->Prop}
theorem Q8(hfr:A.frames=some (v::l))(hv:env.frame=v.frame)(hL:v.frame=some L)(hx:Jz B (v::l) a cls s.heap)(hQ:∀h',NK B (v::l) a cls L h'->s.heap.UpToSlots h'->Q () { s with heap:=h' }):wpAny M A (noteFrame (.ref a) env) Q E s:=by
 have en:noteFrame (.ref a) env=noteFrame (.ref a) v:=by
  unfold noteFrame PySem.frameOf;rw[hv]
 rw[en];obtain⟨fl,f1,f2,f3,f4⟩:=hx
 by_cases hfl:fl=rawInt L
 .subst hfl;obtain⟨oe,ws,Tb,oT,ts,ha,_,hd,g1,_,_,hT,dT,g3⟩:=id f4;unfold noteFrame;simp only[hL];refine ydc (ydr ha hd g1 ?_);rw[if_pos (by simp)]
  refine ydc (ydr hT dT g3 ?_);rw[if_pos (by simp)]
  exact ydf (hQ _ ⟨f1,f2,f3,f4⟩ (.refl _))
 .obtain⟨oe,ws,Tb,oT,ts,ha,⟨rfl,g0⟩,hd,g1,nT,Tne,hT,dT,g3⟩:=f4;have g3s:=(yb7.mp g3).1;have oth:∀b,b≠Tb->(s.heap.update Tb (Obj.mapFields (·.setIfInBounds 3 Value.none))).get? b=s.heap.get? b:=λb hb=>yb1 _ _ (yah hb)
  have nr:∀b o,s.heap.get? b=some o->(∀us,o.data≠.fields us)->b≠Tb:=λb o hb hn z=>by
   rw[z,hT]at hb;cases hb;exact hn ts dT
  unfold noteFrame;simp only[hL];refine ydc (ydr ha hd g1 ?_);rw[if_pos (by simp)]
  refine ydc (ydr hT dT g3 ?_);rw[if_neg (λz=>hfl (beq_iff_eq.mp z))]
  refine ydc (ydq hT dT g3s ?_);refine SU hfr (f3.of_keeps λb o hb hn=>⟨o,(oth b (nr b o hb hn)).trans hb,rfl⟩) hL ((oth a (yah Tne)).trans ha) (λb o hb=>(oth b λz=>by rw[z,nT]at hb;cases hb).trans (f1 b o hb)) f2 hd (yb7.mp g1).1 g0 λh' k k4=>?_
  exact hQ h' k λb o hb hn=>k4 b o ((oth b (nr b o hb hn)).trans hb) hn
theorem leavX(hfr:A.frames=some (v::l))(hL:v.frame=some L)(hx:Jz B (v::l) a cls s.heap)(hQ:∀h',E8 B l a cls h'->s.heap.UpToSlots h'->Q () { s with heap:=h' }):wpAny M A (leaving v (.ref a)) Q E s:=by
 refine ydc (Q8 hfr rfl hL hx λh1 hh sm1=>RI hh λh2 hf sm2=>?_)
 obtain⟨k1,k2,⟨_,_,k3⟩,k4⟩:=hf;exact hQ h2 ⟨k1,k2,k3,k4⟩ (sm1.trans sm2)
end
def CO(P:Program)(w:World):Dx:=λouter H s E e s'=>∃(a:Addr) (cls:Value×Option Addr) (H':Hp) (B:Heap),
 e=.ref a/\s'.os=s.os/\AllBare s'.gens/\Un (Ax outer) [] H H' s.heap s'.heap/\HOk P w H' B/\(∀b o,s.heap.get? b=some o->H b=none->b∉Ax outer->B.get? b=some o) /\
 (∀b o,s.heap.get? b=some o->b∉Ax outer->∃o',B.get? b=some o')/\Jz B outer a cls s'.heap/\E cls.1 cls.2 H'
theorem zee       (x:Bl P w H h a o):∃ob,h.get? a=some ob:=by
 cases o with
 |lst xs=>obtain⟨_,_,_,_,e⟩:=x;grind
 |tup xs=>obtain⟨_,_,_,o',e,_⟩:=x;grind
 |dK kvs=>obtain⟨_,_,_,_,o',_,_,e,_⟩:=x;grind
 |dT kvs=>obtain⟨_,_,_,_,o',_,_,e,_⟩:=x;grind
 |set S n=>obtain⟨o',_,_,_,e,_⟩:=x;grind
 |ins C dx fs=>obtain⟨_,_,_,e,_⟩:=x;grind
 |own y=>exact x
 |xd fs=>obtain⟨_,⟨o',_,_,e,_⟩,_⟩:=x;grind
 |rng lo hi=>obtain⟨_,_,_,e⟩:=x;grind
 |frz ob u=>obtain⟨e,_⟩:=x;exact⟨_,e⟩
 |tbl ps=>exact⟨_,(x)⟩
 |met f y=>exact⟨_,(x)⟩
 |ext φ=>obtain⟨_,e,_⟩:=x;exact e
theorem none_of(x:HOk P w H h)(e:h.get? a=none):H a=none:=by
 cases q:H a with
 |none=>rfl
 |some u =>
  obtain⟨ob,z⟩:=zee (x a u q)
  grind
def Aw(X:Cx)(E:L2.St->XK):Prop:=∀(pins:List (Addr×Obj)) (σ:L2.St) (H:Hp) (s:Shared) (e:Value) (s':Shared),Inv X pins σ H s->CO X.prog X.w X.stack H s (E σ) e s'->X.xe e s'
def NG(X:Cx)(E:L2.St->XK):Prop:=∀(pins:List (Addr×Obj)) (σ:L2.St) (H:Hp) (s:Shared) (a:Addr) (cls:Value) (vs:List Value) (h':Heap),Inv X pins σ H s->Heap.MadeExcOf s.heap h' a cls vs->E σ cls none H->X.xe (.ref a) { s with heap:=h' }
section
variable {X:Cx}{pins:List (Addr×Obj)}{σ:L2.St}{H:Hp}{s:Shared}
theorem JE(I:Inv X pins σ H s)(e:X.s₀.heap.get? b=some o)(hb:b∉Ax X.outer):b∉Ax X.stack:=λz=>by
 rcases yak.mp (I.stkSub b z) with q|q
 .exact absurd (yab (ya8 e) I.ok.above) (by rw[q];exact yav _)
 .exact hb q
theorem zcu(hst:X.stack=X.env::X.outer)(hb:b∈Ax X.outer):b∈Ax X.stack:=by
 rw[hst];obtain⟨v,h1,h2⟩:=ybv.mp hb;exact ybv.mpr ⟨v,ya7 _ h1,h2⟩
theorem zl7(I:Inv X pins σ H s):HOk X.prog X.w H (PySem.W.hideAll s.heap (Ax X.stack)):=λb u e=>(I.hok b u e).stay (λc v hc q=>ybe _ q λz=>by
  have f:=I.stkFree c z
  grind) (λ_ q=>q) λ_ _ q=>q
theorem zhm(hst:X.stack=X.env::X.outer)(hf:X.env.frame=some X.env.locals)(hex:X.ex=[])       (I:Inv X pins σ H s)(hx:Heap.MadeExcOf s.heap h' a cls vs)(he:E cls none H) :
  wpAny (model X.prog X.w) X.A (leaving X.env (.ref a)) (λ_ s2=>CO X.prog X.w X.outer X.H₀ X.s₀ E (.ref a) s2) Ex { s with heap:=h' }:=by
 have nex:∀b ,b∉X.ex:=λb z=>by grind
 have hfr :=hst▸I.ok.frames
 have FF:s.heap.FunFrames (PySem.W.hideAll s.heap (Ax X.stack)) (X.env::X.outer):=by
  rw[<- hst];exact PySem.W.funFrames_hide I.stack λv hv b hb=>ybv.mpr ⟨v,hv,hb⟩
 refine madeX hfr hf (λb o q=>ybu _ q) FF (madeO hx) λh2 fl sm=>?_
 have kB :=λb o e n hb=>ybe _ (I.base.keep b o e n hb (nex b)) (JE I e hb)
 have tB:∀b o,X.s₀.heap.get? b=some o->b∉Ax X.outer->∃o',(PySem.W.hideAll s.heap (Ax X.stack)).get? b=some o':=λb o e hb=>by
  obtain⟨o',e'⟩:=I.base.there b o e (nex b);exact⟨o',ybe _ e' (JE I e hb)⟩
 have sl:∀b o,X.s₀.heap.get? b=some o->X.H₀ b=none->b∈Ax X.outer->∃z,h2.get? b=some { o with slots:=z }:=λb o e n hb=>by
  obtain⟨z,e1⟩:=I.base.slot b o e n hb (nex b);obtain⟨_,o2,ho2,hd⟩:=I.funs.mem hb;rw[e1]at ho2;cases ho2;obtain⟨z3,e3⟩:=sm b { o with slots:=z } (hx.keeps b _ e1) hd
  exact⟨z3,e3⟩
 refine⟨a,(cls,none),H,_,rfl,I.os,I.bare,⟨λb o e n hb _=>fl.1 b o (kB b o e n hb),λb o e n hb _=>sl b o e n hb,λb o e n _=>I.base.free b o e n (nex b),λb o e _=>?_,I.base.tups,I.base.frzs,I.base.tbls⟩,zl7 I,kB,tB,SI fl,he⟩
 by_cases hb:b∈Ax X.outer
 .obtain⟨z,q⟩:=sl b o e (I.ok.frf b hb) hb;exact⟨_,q⟩
 .obtain⟨o',q⟩:=tB b o e hb;exact⟨o',fl.1 b o' q⟩
theorem zh3(hst:X.stack=X.env::X.outer)(hf:X.env.frame=some X.env.locals)(hex:X.ex=[])     (I:Inv X pins σ H s)(h:CO X.prog X.w X.stack H s E e s') :
  wpAny (model X.prog X.w) X.A (leaving X.env e) (λ_ s2=>CO X.prog X.w X.outer X.H₀ X.s₀ E e s2) Ex s':=by
 obtain⟨a,cls,H',B,rfl,os,bare,un,hok,kB0,tB0,fl0,he⟩:=h;have nex:∀b ,b∉X.ex:=λb z=>by rw[hex]at z;cases z
 have hfr :=hst▸I.ok.frames;have fl1 :=hst▸fl0;refine leavX hfr hf fl1 λh2 fl sm=>?_
 have kB :=λb o e n hb=>kB0 b o (I.base.keep b o e n hb (nex b)) (I.base.free b o e n (nex b)) (JE I e hb)
 have tB:∀b o,X.s₀.heap.get? b=some o->b∉Ax X.outer->∃o',B.get? b=some o':=λb o e hb=>by
  obtain⟨o',e'⟩:=I.base.there b o e (nex b);exact tB0 b o' e' (JE I e hb)
 have sl:∀b o,X.s₀.heap.get? b=some o->X.H₀ b=none->b∈Ax X.outer->∃z,h2.get? b=some { o with slots:=z }:=λb o e n hb=>by
  obtain⟨z,e1⟩:=I.base.slot b o e n hb (nex b);obtain⟨_,o2,ho2,hd⟩:=I.funs.mem hb;rw[e1]at ho2;cases ho2;obtain⟨z2,e2⟩:=un.slot b { o with slots:=z } e1 (I.base.free b o e n (nex b)) (zcu hst hb) (by simp)
  obtain⟨z3,e3⟩:=sm b { o with slots:=z2 } e2 hd
  exact⟨z3,e3⟩
 refine⟨a,cls,H',B,rfl,os.trans I.os,bare,⟨λb o e n hb _=>fl.1 b o (kB b o e n hb),λb o e n hb _=>sl b o e n hb,λb o e n _=>?_,λb o e _=>?_,λb xs e=>un.tups b xs (I.base.tups b xs e),λb o u e=>un.frzs b o u (I.base.frzs b o u e),λb ps e=>?_⟩,hok,kB,tB,SI fl,he⟩
 .obtain⟨o',e'⟩:=I.base.there b o e (nex b);exact un.free b o' e' (I.base.free b o e n (nex b)) (by simp)
 .by_cases hb:b∈Ax X.outer
  .obtain⟨z,q⟩:=sl b o e (I.ok.frf b hb) hb;exact⟨_,q⟩
  .obtain⟨o',q⟩:=tB b o e hb;exact⟨o',fl.1 b o' q⟩
 .obtain⟨m1,e1⟩:=I.base.tbls b ps e;obtain⟨m2,e2⟩:=un.tbls b _ e1;exact⟨m1++m2,e2.trans (by rw[Array.append_assoc])⟩
end
section
variable {P:Program}{w:World}{K:k7}{mg:Str->Option Value}{base:Heap}
theorem Pd:Aw (De (CO P w) P w K mg base N qual sc f cd A outer s H E) (λ_=>E) :=
 λ_ _ _ _ _ _ I h=>zh3 rfl rfl rfl I h
theorem Qp:NG (De (CO P w) P w K mg base N qual sc f cd A outer s H E) (λ_=>E) :=
 λ_ _ _ _ _ _ _ _ I hx he=>zhm rfl rfl rfl I hx he
theorem Pk  {st }      (F:FunD K x qual st f fd)(S:FnScope N ps (BU st))(len:∀vs H Q E,sp vs H Q E->vs.length=ps.length)
  (hbody : ∀ (cdv ) (A ) (outer ) (s ) (H ) (vs ) (Q ) (E ), Room k (A.deeper (envOfC qual (BU st) s.heap.objs.size f cdv)) -> sp vs H Q E ->
   ∃t,Aq (De (CO P w) P w K mg base N qual (BU st) f cdv A outer s H E) (Dd st) t/\t { nx:=λ_ H'=>Q .non H',rt:=Q } (start N vs) H):FnOk P w K mg base (CO P w) (k+1) f fd ps sp:=by
 obtain⟨oc,od,dV,kV,doc,pm,an,cdv,ct,osl,rfl,lk,hcd⟩:=F.ex;exact ME lk hcd S len λA outer s H vs Q E hr hsp=>hbody cdv A outer s H vs Q E hr hsp
end
structure DefX(P:Program)(w:World)(K:k7)(mg:Str->Option Value)(base:Heap)(k:Nat)(x:Str)(ps:List Str)(sp:Sp) where
 f:Addr
 fd:FuncData
 ok:FnOk P w K mg base (CO P w) k f fd ps sp
 m:mg x=some (.ref f)
 kp:PySem.W.keepIn K (.ref f)=true
 b:Ba K fd ps []
structure DefsX(K:k7)(fd:FuncData)(ps:List Str)(dvs:List V):Prop where
 ex:∃ds,Ba K fd ps ds/\AK dvs ds
section
variable {X:Cx}{k j:Nat}{f:Addr}{fd:FuncData}{x:Str}{ps:List Str}{sp:Sp}{p pos:Pos}{e:Expr}{es:List Expr}{t:TA}{E:L2.St->XK}{dvs:List V}
theorem Kh  {σ:L2.St}      (F:FnOk X.prog X.w X.K X.mg X.base (CO X.prog X.w) k f fd ps sp)(hr:Room k X.A)(hb:Ba X.K fd ps ds)(hd:AK dvs ds)(hx:Aw X E)
  (I:Inv X pins σ H s) (r:AK vs us) (h:sp (vs++dvs) H Q (E σ)):wpAny (model X.prog X.w) X.A (call (.ref f) us) (EP X pins σ Q) X.xe s:=by
 have r2 :=r.append hd;have hl :=r2.length.symm.trans (F.len _ _ _ _ h);refine ydj (ydk (F.run X.A X.stack s H ⟨us,[]⟩ (us++ds) (vs++dvs) Q (E σ) hr I.env0 (hb s us I.kIn hl) r2 h) λr s' hq=>?_)
 cases r with
 |error v=>exact hx pins σ H s v s' I hq
 |ok fl =>
  cases fl with
  |ret u=>exact I.after hq
  |_=>exact False.elim hq
def Nm(sp:Sp)(dvs:List V)(E:L2.St->XK)(t:TA):TE:=λσ H Q=>t σ H λvs H1=>sp (vs++dvs) H1 Q (E σ)
theorem px(D:DefX X.prog X.w X.K X.mg X.base k x ps sp)(hr:Room j X.A)(hx:Aw X E)(ha:PA X (e::es) t)(hk:k<=j:=by decide)(hg:Gl X x:=by rfl)(hdb:(x == "__debug__")=false:=by decide)
  (he:starEach (e::es) X.env=(false,eval e X.env)::starEach es X.env:=by rfl) (hpl:(backTo pos (starEach es X.env)).any (·.1)=false:=by rfl):PE X (.Call (.Name x p) (e::es) [] pos) (Nm sp [] E t):=by
 intro pins s σ H Q I h;refine ydl (HS I hg D.m ?_ hdb);refine yc9 I.ok.mod.kin D.kp (AJ (ha pos pins s σ H _ I h) λus s1 ⟨vs,H1,I1,r,q⟩=>⟨I1.kIn,?_⟩) he hpl
 exact Kh D.ok (hr.mono hk) D.b .nil hx I1 r q
end
noncomputable abbrev NS:List Value:=[.type "ValueError",.type "Exception",.type "BaseException",.type "object"]
def J7(K:k7)(C:Addr):Bool:=match K.lookup C with
 |some ⟨.type "type",_,.cls k,l⟩=>(match k.mro,l.toList with|.ref D::r,[_,_,_,_,some (.builtin n),_]=>D == C && n == "ValueError.__new__" && !k.hasDel && PySem.W.tailIn K NS r && PySem.W.nsOkIn K k.ns|_,_=>false)
 |_=>false
def DI(K:k7)(C:Addr):Option (Option Value):=(PySem.W.clsIn K C).bind λk=>PySem.W.nsIn K k.ns "__init__"
structure ExcK(K:k7)(C:Addr):Prop where
 q:J7 K C=true
 self:PySem.W.subIn K (.ref C) (.ref C)=some true
 cd:∃cd,PySem.W.clsIn K C=some cd
 ty:PySem.W.typeIn K (.ref C)=some (.type "type")
 ga:PySem.W.findIn K (.ref C) "__getattribute__"=some (some (.builtin "BaseException.__getattribute__"))
 gt:PySem.W.findIn K (.ref C) "__getattr__"=some none
 ca:PySem.W.findIn K (.ref C) "__class__"=some (some (.builtin "object.__class__"))
 ob:PySem.W.mroIn K C (.type "object")=some true
 be:PySem.W.mroIn K C (.type "BaseException")=some true
 gs:PySem.W.specialIn K (.builtin "object.__class__") "__get__"=some (some (.builtin "getset_descriptor.__get__"))
 tk:PySem.W.takesIn K (.builtin "object.__class__")=some true
structure ECls(K:k7)(mg:Str->Option Value)(x:Str) where
 C:Addr
 m:mg x=some (.ref C)
 k:ExcK K C
theorem zle{K}(X:K.In h)(q:J7 K C=true):∃bm N nm qn bs hd sn sub ab col dd k0 k1 k2 k3 k5 mN,
  h.get? C=some (excClassObj nm qn C N bs bm hd sn sub ab col dd k0 k1 k2 k3 k5 "ValueError.__new__")/\h.Ns N mN/\(∃cd,PySem.W.clsIn K C=some cd/\cd.ns=N/\cd.mro=.ref C::bm/\cd.hasDict=hd)/\OwnTail h NS bm:=by
 unfold J7 at q;split at q
 .rename_i dd cd sl ho;have hcl:PySem.W.clsIn K C=some cd:=by unfold PySem.W.clsIn;rw[ho]
  split at q
  .rename_i C2 bm k0 k1 k2 k3 nid k5 hm hs;simp only[yc0,ya1,beq_iff_eq]at q;obtain⟨⟨⟨⟨z1,z2⟩,hdel⟩,ht⟩,hok⟩:=q;subst z1;subst z2;obtain⟨nm,bs,mro,nsp,qn,hd,sn,sub,ab,col,dl⟩:=cd;dsimp only at hm hok hdel;subst hm;subst hdel
   have hsl:sl=#[k0,k1,k2,k3,some (.builtin "ValueError.__new__"),k5]:=by
    obtain⟨l⟩:=sl;have hs':l=[k0,k1,k2,k3,some (.builtin "ValueError.__new__"),k5]:=hs;rw[hs']
   subst hsl;exact⟨bm,nsp,nm,qn,bs,hd,sn,sub,ab,col,dd,k0,k1,k2,k3,k5,_,X _ _ ho,.of_isNs (PySem.W.isNs_of_in X hok),⟨_,hcl,rfl,rfl,rfl⟩,PySem.W.tail_of_in X ht⟩
  .exact absurd q ybw
 .exact absurd q ybw
theorem zff{K}(X:K.In h)(G:h.Ns N mN)(hc:PySem.W.clsIn K C=some cd)(hn:cd.ns=N)(q:DI K C=some none):mN "__init__"=none:=by
 unfold DI at q;rw[hc]at q;subst hn;exact PySem.W.ns_none_of X G q
section
variable {X:Cx}{x:Str}{p cpos pos:Pos}{e:Expr}{es:List Expr}{t:TA}{E:L2.St->XK}
def zim(C:Addr)(E:L2.St->XK)(t:TA):TS:=λ_ σ H=>t σ H λvs H1=>vs.length<=sizeLine/\E σ (.ref C) none H1
theorem zez(T:ECls X.K X.mg x)(hini:DI X.K T.C=some none)(hc:X.calm=true)(hx:NG X E)(ha:PA X (e::es) t)(hg:Gl X x:=by rfl)(hdb:(x == ("__debug__":Str))=false:=by decide)
  (he:starEach (e::es) X.env=(false,eval e X.env)::starEach es X.env:=by rfl) (hpl:(backTo cpos (starEach (e::es) X.env)).any (·.1)=false:=by rfl) :
  PS X (.Raise (some (.Call (.Name x p) (e::es) [] cpos)) none pos) (zim T.C E t):=by
 intro pins s σ H D I h;obtain⟨bm,N,nm,qn,bs,hd,sn,sub,ab,col,dd,k0,k1,k2,k3,k5,mN,hC,hN,⟨cd,hcd,hcn,_⟩,TL⟩:=zle I.mod.kin T.k.q;have hni:=zff I.mod.kin hN hcd hcn hini
 refine wpAny_Raise_call_subT (nm:=nm) (q:=qn) (N:=N) (bs:=bs) (hdct:=hd) (sn:=sn) (sub:=sub) (ab:=ab) (col:=col) (dd:=dd) (k0:=k0) (k1:=k1) (k2:=k2) (k3:=k3) (k5:=k5)
  PySem.F.excBase_ValueError (TL.hasType PySem.F.excBase_ValueError.hasBase) (I.ok.hd hc) hpl hni (HS I hg T.m ⟨rfl,?_⟩ hdb)
 have h2:=ha cpos pins s σ H _ I h;rw[he]at h2 ⊢;exact Calls.evalArgs_plain (AJ h2 λus s1 ⟨vs,H1,I1,r,z,q1⟩=>⟨rfl,r.length▸z,I1.bk _ _ hC,hN.keeps I1.bk,TL.keeps I1.bk,λh' a hm=>hx pins σ H1 s1 a _ us h' I1 hm q1⟩)
end
def ID(H:Hp)(a C:Addr):Prop:=∃ob,H a=some (.frz ob (.own 0))/\ob.cls=.ref C/\∃vs,ob.data=.fields vs/\vs[2]?=some .none
def Gb(H:Hp)(a C:Addr)(dx:Option Addr):Prop:=∃ob,H a=some (.frz ob (.own 0))/\(ob.cls,ob.dict)=(.ref C,dx)/\∃vs,ob.data=.fields vs/\vs[2]?=some .none
theorem Gb.x(h:Gb H a C dx):ID H a C:=let ⟨ob,e,k,r⟩:=h;⟨ob,e,congrArg Prod.fst k,r⟩
theorem Gb.of(x:Gb H a C dx)(e:∀u,H a=some u->F a=some u):Gb F a C dx :=
 let ⟨ob,y,r⟩:=x;⟨ob,e _ y,r⟩
theorem ID.of(x:ID H a C)(e:∀u,H a=some u->F a=some u):ID F a C :=
 let ⟨ob,y,r⟩:=x;⟨ob,e _ y,r⟩
section
variable {K:k7}{a C:Addr}
end
section
variable {X:Cx}
end
section
variable {X:Cx}{pins:List (Addr×Obj)}{σ:L2.St}{H:Hp}{s:Shared}{xe:Value->Shared->Prop}
end
section
variable {A:Around}{E:Value->Shared->Prop}{M:Model}
end
section
variable {X:Cx}{i:Nat}{x n:Str}{np pos hpos:Pos}{body suite:List Stmt}{b₀:Stmt}{tb th:TS}{E:L2.St->XK}
end
end Zx
namespace Pu
open PySem PySem.Spec PyProof.Rows L2 Zw Zx
abbrev Rg:=Addr->Prop
def R0:Rg:=λ_=>False
set_option genInjectivity true in
inductive Kd where
 |lst|rl|tup|rt|pin (p:Addr)
set_option genInjectivity true in
inductive Ob where
 |ins (C:Addr) (fs:List Str)|exn (C:Addr)|sdc (ks:List Str)|lab (p:Addr)
set_option genInjectivity true in
inductive T where
 |non|bl (b:Bool)|int (i:Int)|str (x:Str)|nd (o:Bool) (k:Kd) (l:List T)|dic (ks:List Int) (l:List T)|pdc (ks:List Int) (l:List T)|odc (ks:List Int) (l:List T)
 |obj (k:Ob) (l:List T)|oob (p C:Addr) (fs:List Str) (l:List T)|osd (ks:List Str) (l:List T)
noncomputable abbrev T.lst(l:List T):T:=.nd false .lst l
noncomputable abbrev T.own(l:List T):T:=.nd true .lst l
noncomputable abbrev T.tup(l:List T):T:=.nd false .tup l
mutual
def T.share:T->T
 |.nd _ k l=>.nd false k (Af l)
 |.dic ks l=>.dic ks (Af l)
 |.pdc ks l=>.pdc ks (Af l)
 |.odc ks l=>.pdc ks (Af l)
 |.obj k l=>.obj k (Af l)
 |.oob _ C fs l=>.obj (.ins C fs) (Af l)
 |.osd ks l=>.obj (.sdc ks) (Af l)
 |.non=>.non
 |.bl b=>.bl b
 |.int i=>.int i
 |.str x=>.str x
def Af:List T->List T
 |[]=>[]
 |t::r=>t.share::Af r
end
mutual
def T.sh:T->Bool
 |.nd o _ l=>!o && A6 l
 |.dic _ l=>A6 l
 |.pdc _ l=>A6 l
 |.odc _ _=>false
 |.obj _ l=>A6 l
 |.oob _ _ _ _=>false
 |.osd _ _=>false
 |.non=>true
 |.bl _=>true
 |.int _=>true
 |.str _=>true
def A6:List T->Bool
 |[]=>true
 |t::r=>t.sh && A6 r
end
noncomputable def T.flat:T->Bool
 |.nd _ _ _=>false
 |.dic _ _=>false
 |.pdc _ _=>false
 |.odc _ _=>false
 |.obj _ _=>false
 |.oob _ _ _ _=>false
 |.osd _ _=>false
 |.non=>true
 |.bl _=>true
 |.int _=>true
 |.str _=>true
theorem EA:∀l ,Af l=l.map T.share
 |[]=>rfl
 |t::r=>by rw[Af,EA r];rfl
theorem C4:∀l ,A6 l=l.all T.sh
 |[]=>rfl
 |t::r=>by rw[A6,C4 r];rfl
mutual
theorem Ii:∀t:T,t.sh=true->t.share=t
 |.nd o k l,h=>by
  rw[T.sh,ya1]at h;have ho:o=false:=by simpa using h.1
  subst ho;rw[T.share,AQ l h.2]
 |.dic ks l,h=>by
  rw[T.sh]at h;rw[T.share,AQ l h]
 |.pdc ks l,h=>by
  rw[T.sh]at h;rw[T.share,AQ l h]
 |.odc ks l,h=>by
  rw[T.sh]at h;cases h
 |.obj k l,h=>by
  rw[T.sh]at h;rw[T.share,AQ l h]
 |.oob p C fs l,h=>by
  rw[T.sh]at h;cases h
 |.osd ks l,h=>by
  rw[T.sh]at h;cases h
 |.non,_=>rfl
 |.bl _,_=>rfl
 |.int _,_=>rfl
 |.str _,_=>rfl
theorem AQ:∀l:List T,A6 l=true->Af l=l
 |[],_=>rfl
 |t::r,h=>by
  rw[A6,ya1]at h;rw[Af,Ii t h.1,AQ r h.2]
end
theorem zgc(h:A6 l=true){i:Nat}(e:l[i]?=some t):t.sh=true:=by
 rw[C4]at h;exact yan.mp h _ (ybb e)
def E5(K:k7)(F:Hp)(p:Addr)(xs:List V):Prop:=(∃o,F p=some (.frz o (.lst xs)))\/∃(o:Obj) (its:Array Value) (n:Nat),K.lookup p=some o/\o.cls=.type "list"/\o.dict=none/\o.data=.seq its n/\its.size<=sizeLine/\AK xs its.toList
theorem E5.l{K}(h:E5 K F p xs):AM K F p xs:=h.elim (λz=>.inl (.inr z)) .inr
def EK(K:k7)(F:Hp)(k:Kd)(p:Addr)(xs:List V):Prop:=match k with
 |.lst=>F p=some (.lst xs)
 |.rl=>E5 K F p xs
 |.tup=>F p=some (.tup xs)
 |.rt=>BD K F p xs
 |.pin _=>F p=some (.lst xs)
theorem Ec{K}(s:AL F F')(h:BD K F p xs):BD K F' p xs:=by
 rcases h with (h|⟨o,h⟩)|h
 .exact .inl (.inl (s _ _ h))
 .exact .inl (.inr ⟨o,s _ _ h⟩)
 .exact .inr h
theorem EK.same{K}(h:EK K F k p xs)(s:AL F F'):EK K F' k p xs:=by
 cases k with
 |lst=>exact s _ _ h
 |rl=>exact h.elim (λ⟨o,z⟩=>.inl ⟨o,s _ _ z⟩) .inr
 |tup=>exact s _ _ h
 |rt=>exact Ec s h
 |pin q=>exact s _ _ h
def Kd.isT:Kd->Bool
 |.tup=>true
 |_=>false
def G9(k:Kd)(p:Addr):Prop:=match k with
 |.lst=>True
 |.pin q=>q=p
 |.tup=>True
 |_=>False
def Lx:Kd->List V->HO
 |.tup,xs=>.tup xs
 |_,xs=>.lst xs
theorem RZ(h:k.isT=false):Lx k xs=.lst xs:=by cases k<;>first|rfl|cases h
theorem G9.node{K}(hk:G9 k p)(h:F p=some (Lx k xs)):EK K F k p xs:=by
 cases k with
 |lst=>exact h
 |pin q=>exact h
 |tup=>exact h
 |_=>exact hk.elim
def JQ(ks:List Int)(xs:List V):List (Key×V):=List.zipWith (λk x=>(Sum.inl k,x)) ks xs
def Bx(ks:List Str)(xs:List V):List (Key×V):=List.zipWith (λk x=>(Sum.inr k,x)) ks xs
def Hn(F:Hp)(dx:Option Addr)(v:V):Prop:=∃d od u,dx=some d/\F d=some (.frz od (.own 0))/\AN v u/\PySem.W.lookIn "step" od=some (some u)
theorem Hn.of(h:Hn F dx v)(s:∀a u,F a=some u->F' a=some u):Hn F' dx v :=
 let ⟨d,od,u,e,h1,r⟩:=h;⟨d,od,u,e,s _ _ h1,r⟩
def IB(F:Hp)(k:Ob)(p:Addr)(xs:List V):Prop:=match k with
 |.ins C fs=>∃dx,F p=some (.ins C dx (fs.zip xs))
 |.exn C=>∃dx,Gb F p C dx/\∀v∈xs,Hn F dx v
 |.sdc ks=>ks.length=xs.length/\F p=some (.dK (Bx ks xs))
 |.lab q=>q=p/\xs=[.ref p]
theorem IB.same(h:IB F k p xs)(s:AL F F'):IB F' k p xs:=by
 cases k with
 |ins C fs=>exact h.elim λdx e=>⟨dx,s _ _ e⟩
 |exn C=>exact h.elim λdx e=>⟨dx,e.1.of λu=>s p u,λv hv=>(e.2 v hv).of s⟩
 |sdc ks=>exact⟨h.1,s _ _ h.2⟩
 |lab q=>exact h
inductive Rp(K:k7)(F H:Hp):T->V->Rg->Prop where
 |non:Rp K F H .non .non R0
 |bl (b:Bool):Rp K F H (.bl b) (.bl b) R0
 |int (i:Int):Rp K F H (.int i) (.int i) R0
 |str (x:Str):Rp K F H (.str x) (.str x) R0
 |shr {k:Kd} {p:Addr} {xs:List V} {l:List T} (h:EK K F k p xs) (e:l.length=xs.length) (c:∀(i:Nat) (t:T) (x:V),l[i]?=some t->xs[i]?=some x->Rp K F H t x R0):Rp K F H (.nd false k l) (.ref p) R0
 |dic {p:Addr} {ob:Obj} {ks:List Int} {xs:List V} {l:List T} (h:F p=some (.frz ob (.dK (JQ ks xs)))) (e:l.length=xs.length) (ek:ks.length=xs.length) (c:∀(i:Nat) (t:T) (x:V),l[i]?=some t->xs[i]?=some x->Rp K F H t x R0):Rp K F H (.dic ks l) (.ref p) R0
 |pdc {p:Addr} {ks:List Int} {xs:List V} {l:List T} (h:F p=some (.dK (JQ ks xs))) (e:l.length=xs.length) (ek:ks.length=xs.length) (c:∀(i:Nat) (t:T) (x:V),l[i]?=some t->xs[i]?=some x->Rp K F H t x R0):Rp K F H (.pdc ks l) (.ref p) R0
 |odc {p:Addr} {ks:List Int} {xs:List V} {l:List T} (f:F p=none) (h:H p=some (.dK (JQ ks xs))) (e:l.length=xs.length) (ek:ks.length=xs.length) (c:∀(i:Nat) (t:T) (x:V),l[i]?=some t->xs[i]?=some x->Rp K F H t x R0):Rp K F H (.odc ks l) (.ref p) (λa=>a=p)
 |obj {k:Ob} {p:Addr} {xs:List V} {l:List T} (h:IB F k p xs) (e:l.length=xs.length) (c:∀(i:Nat) (t:T) (x:V),l[i]?=some t->xs[i]?=some x->Rp K F H t x R0):Rp K F H (.obj k l) (.ref p) R0
 |oob {C p dx:Addr} {fs:List Str} {xs:List V} {l:List T} (R:Nat->Rg) (f:F p=none) (h:H p=some (.ins C dx (fs.zip xs))) (e:l.length=xs.length) (c:∀(i:Nat) (t:T) (x:V),l[i]?=some t->xs[i]?=some x->Rp K F H t x (R i))
   (d:∀i j a,i≠j->R i a->¬ R j a) (dp:∀i,¬ R i p) (o:∀i a,R i a->i<l.length):Rp K F H (.oob p C fs l) (.ref p) (λa=>a=p\/∃i,R i a)
 |osd {p:Addr} {ks:List Str} {xs:List V} {l:List T} (R:Nat->Rg) (f:F p=none) (h:H p=some (.dK (Bx ks xs))) (e:l.length=xs.length) (ek:ks.length=xs.length) (c:∀(i:Nat) (t:T) (x:V),l[i]?=some t->xs[i]?=some x->Rp K F H t x (R i))
   (d:∀i j a,i≠j->R i a->¬ R j a) (dp:∀i,¬ R i p) (o:∀i a,R i a->i<l.length):Rp K F H (.osd ks l) (.ref p) (λa=>a=p\/∃i,R i a)
 |own {k:Kd} {p:Addr} {xs:List V} {l:List T} (hk:G9 k p) (R:Nat->Rg) (f:F p=none) (h:H p=some (Lx k xs)) (e:l.length=xs.length) (c:∀(i:Nat) (t:T) (x:V),l[i]?=some t->xs[i]?=some x->Rp K F H t x (R i))
   (d:∀i j a,i≠j->R i a->¬ R j a) (dp:∀i,¬ R i p) (o:∀i a,R i a->i<l.length):Rp K F H (.nd true k l) (.ref p) (λa=>a=p\/∃i,R i a)
theorem reg0{p:Addr}:(λa=>a=p\/∃_:Nat,R0 a)=λa=>a=p:=funext λ_=>propext ⟨λz=>z.elim id λ⟨_,w⟩=>w.elim,.inl⟩
theorem Rp.osd0{K}{F H:Hp}{p:Addr}{ks:List Str}{xs:List V}{l:List T}(f:F p=none)(h:H p=some (.dK (Bx ks xs)))(e:l.length=xs.length)(ek:ks.length=xs.length)(c:∀(i:Nat) (t:T) (x:V),l[i]?=some t->xs[i]?=some x->Rp K F H t x R0):Rp K F H (.osd ks l) (.ref p) (λa=>a=p):=by
 have r:Rp K F H (.osd ks l) (.ref p) (λa=>a=p\/∃_:Nat,R0 a):=.osd (λ_=>R0) f h e ek c (λ_ _ _ _ z=>z.elim) (λ_ z=>z) (λ_ _ z=>z.elim)
 rwa[reg0]at r
section
variable {K:k7}{F F' H H':Hp}{t:T}{x:V}{A:Rg}
theorem Rp.frame(h:Rp K F H t x A)(s:AL F F')(k:∀a,A a->H' a=H a/\F' a=none):Rp K F' H' t x A:=by
 induction h with
 |non=>exact .non
 |bl b=>exact .bl b
 |int i=>exact .int i
 |str y=>exact .str y
 |shr h e c ih=>exact .shr (h.same s) e λi t x h1 h2=>ih i t x h1 h2 λa z=>z.elim
 |dic h e ek c ih=>exact .dic (s _ _ h) e ek λi t x h1 h2=>ih i t x h1 h2 λa z=>z.elim
 |pdc h e ek c ih=>exact .pdc (s _ _ h) e ek λi t x h1 h2=>ih i t x h1 h2 λa z=>z.elim
 |odc f h e ek c ih =>
  have q:=k _ rfl;exact .odc q.2 (q.1.trans h) e ek λi t x h1 h2=>ih i t x h1 h2 λa z=>z.elim
 |obj h e c ih=>exact .obj (h.same s) e λi t x h1 h2=>ih i t x h1 h2 λa z=>z.elim
 |oob R f h e c d dp o ih =>
  have q:=k _ (.inl rfl);exact .oob R q.2 (q.1.trans h) e (λi t x h1 h2=>ih i t x h1 h2 λa z=>k a (.inr ⟨i,z⟩)) d dp o
 |osd R f h e ek c d dp o ih =>
  have q:=k _ (.inl rfl);exact .osd R q.2 (q.1.trans h) e ek (λi t x h1 h2=>ih i t x h1 h2 λa z=>k a (.inr ⟨i,z⟩)) d dp o
 |own hk R f h e c d dp o ih =>
  have q:=k _ (.inl rfl);exact .own hk R q.2 (q.1.trans h) e (λi t x h1 h2=>ih i t x h1 h2 λa z=>k a (.inr ⟨i,z⟩)) d dp o
theorem Rp.dom(h:Rp K F H t x A)(ha:A a):F a=none/\∃u,H a=some u:=by
 induction h with
 |non=>exact ha.elim
 |bl b=>exact ha.elim
 |int i=>exact ha.elim
 |str y=>exact ha.elim
 |shr h e c ih=>exact ha.elim
 |dic h e ek c ih=>exact ha.elim
 |pdc h e ek c ih=>exact ha.elim
 |odc f h e ek c ih =>
  grind
 |obj h e c ih=>exact ha.elim
 |@osd p ks xs l R f h e ek c d dp o ih =>
  rcases ha with rfl|⟨i,z⟩
  .grind
  .have hi:=o i a z;have hx:i<xs.length:=by omega
   exact ih i _ _ (ya0 hi) (ya0 hx) z
 |@oob C p dx fs xs l R f h e c d dp o ih =>
  rcases ha with rfl|⟨i,z⟩
  .grind
  .have hi:=o i a z;have hx:i<xs.length:=by omega
   exact ih i _ _ (ya0 hi) (ya0 hx) z
 |@own k0 p xs l hk R f h e c d dp o ih =>
  rcases ha with rfl|⟨i,z⟩
  .grind
  .have hi:=o i a z;have hx:i<xs.length:=by omega
   exact ih i _ _ (ya0 hi) (ya0 hx) z
theorem Rp.share(h:Rp K F H t x A)(s:AL F F')(k:∀a u,A a->H a=some u->F' a=some u):Rp K F' H' t.share x R0:=by
 induction h with
 |non=>exact .non
 |bl b=>exact .bl b
 |int i=>exact .int i
 |str y=>exact .str y
 |@shr k0 p xs l h e c ih =>
  rw[T.share,EA];refine .shr (h.same s) (by rw[ya2];exact e) λi t x h1 h2=>?_
  rw[ya9]at h1;obtain⟨t0,e0,rfl⟩:=yad.mp h1;exact ih i t0 x e0 h2 λa u z=>z.elim
 |@dic p ob ks xs l h e ek c ih =>
  rw[T.share,EA];refine .dic (s _ _ h) (by rw[ya2];exact e) ek λi t x h1 h2=>?_
  rw[ya9]at h1;obtain⟨t0,e0,rfl⟩:=yad.mp h1;exact ih i t0 x e0 h2 λa u z=>z.elim
 |@pdc p ks xs l h e ek c ih =>
  rw[T.share,EA];refine .pdc (s _ _ h) (by rw[ya2];exact e) ek λi t x h1 h2=>?_
  rw[ya9]at h1;obtain⟨t0,e0,rfl⟩:=yad.mp h1;exact ih i t0 x e0 h2 λa u z=>z.elim
 |@odc p ks xs l f h e ek c ih =>
  rw[T.share,EA];refine .pdc (k _ _ rfl h) (by rw[ya2];exact e) ek λi t x h1 h2=>?_
  rw[ya9]at h1;obtain⟨t0,e0,rfl⟩:=yad.mp h1;exact ih i t0 x e0 h2 λa u z=>z.elim
 |@obj k0 p xs l h e c ih =>
  rw[T.share,EA];refine .obj (h.same s) (by rw[ya2];exact e) λi t x h1 h2=>?_
  rw[ya9]at h1;obtain⟨t0,e0,rfl⟩:=yad.mp h1;exact ih i t0 x e0 h2 λa u z=>z.elim
 |@oob C p dx fs xs l R f h e c d dp o ih =>
  rw[T.share,EA];refine .obj ⟨dx,k _ _ (.inl rfl) h⟩ (by rw[ya2];exact e) λi t x h1 h2=>?_
  grind
 |@osd p ks xs l R f h e ek c d dp o ih =>
  rw[T.share,EA];refine .obj ⟨ek,k _ _ (.inl rfl) h⟩ (by rw[ya2];exact e) λi t x h1 h2=>?_
  grind
 |@own k0 p xs l hk R f h e c d dp o ih =>
  rw[T.share,EA];refine .shr (hk.node (k _ _ (.inl rfl) h)) (by rw[ya2];exact e) λi t x h1 h2=>?_
  grind
theorem Rp.r0(h:Rp K F H t x A)(s:t.sh=true):A=R0:=by
 cases h with
 |own hk R f h e c d dp o =>
  cases s
 |odc f h e ek c =>
  cases s
 |oob R f h e c d dp o =>
  cases s
 |osd R f h e ek c d dp o =>
  cases s
 |_=>rfl
theorem Rp.move(h:Rp K F H t x A)(s:t.sh=true)(q:AL F F'):Rp K F' H' t x R0:=by
 have e:=h.r0 s;subst e;exact h.frame q λa z=>z.elim
theorem Rp.flat_any(h:Rp K F H t x A)(s:t.flat=true):Rp K F' H' t x R0:=by
 cases h with
 |non=>exact .non
 |bl b=>exact .bl b
 |int i=>exact .int i
 |str y=>exact .str y
 |shr h e c=>cases s
 |dic h e ek c=>cases s
 |pdc h e ek c=>cases s
 |odc f h e ek c=>cases s
 |obj h e c=>cases s
 |oob R f h e c d dp o=>cases s
 |osd R f h e ek c d dp o=>cases s
 |own hk R f h e c d dp o=>cases s
theorem Rp.int_inv{i:Int}(h:Rp K F H (.int i) x A):x=.int i:=by cases h;rfl
theorem Rp.bl_inv{b:Bool}(h:Rp K F H (.bl b) x A):x=.bl b:=by cases h;rfl
theorem Rp.non_inv(h:Rp K F H .non x A):x=.non:=by cases h;rfl
theorem Rp.str_inv{y:Str}(h:Rp K F H (.str y) x A):x=.str y:=by cases h;rfl
end
def A2(K:k7)(F:Hp)(ts:List T)(xs:List V):Prop:=ts.length=xs.length/\∀(i:Nat) (t:T) (x:V),ts[i]?=some t->xs[i]?=some x->Rp K F F t x R0
theorem A2.nil{K}:A2 K F [] []:=⟨rfl,λi t x h=>by simp at h⟩
theorem Rp.any{K}(h:Rp K F H t x R0):Rp K F H' t x R0:=h.frame (AL.refl F) λa z=>z.elim
theorem A2.cons{K:k7}{F H:Hp}{t:T}{x:V}{ts:List T}{xs:List V}(h:Rp K F H t x R0)(r:A2 K F ts xs):A2 K F (t::ts) (x::xs):=by
 refine⟨by simp[r.1],λi t' x' h1 h2=>?_⟩
 cases i with
 |zero =>
  simp at h1 h2;subst h1;subst h2;exact h.any
 |succ j=>exact r.2 j t' x' (by simpa using h1) (by simpa using h2)
theorem A2.inv{K}(r:A2 K F (t::ts) xs):∃x xs',xs=x::xs'/\Rp K F F t x R0/\A2 K F ts xs':=by
 obtain⟨e,h⟩:=r;cases xs with
 |nil=>simp at e
 |cons x xs'=>exact⟨x,xs',rfl,h 0 t x rfl rfl,by simpa using e,λi t' x' h1 h2=>h (i+1) t' x' (by simpa using h1) (by simpa using h2)⟩
theorem A2.inv0{K}(r:A2 K F [] xs):xs=[]:=by
 obtain⟨e,h⟩:=r
 grind
theorem A2.same{K}(r:A2 K F ts xs)(s:AL F F'):A2 K F' ts xs:=⟨r.1,λi t x h1 h2=>((r.2 i t x h1 h2).frame s λa z=>z.elim)⟩
theorem A2.node{K}(h:Rp K F H (.nd false k l) (.ref p) A):∃xs,EK K F k p xs/\A2 K F l xs:=by
 cases h with
 |shr h e c=>exact⟨_,h,e,λi t x h1 h2=>(c i t x h1 h2).any⟩
theorem Rp.ref_inv{K}(h:Rp K F H (.nd o k l) x A):∃p,x=.ref p:=by
 cases h with
 |shr h e c=>simp
 |own hk R f h e c d dp o=>simp
theorem A2.of_node{K}(h:EK K F k p xs)(r:A2 K F l xs):Rp K F H (.nd false k l) (.ref p) R0:=.shr h r.1 λi t x h1 h2=>(r.2 i t x h1 h2).any
structure Ext(F H F' H':Hp)(B:Rg):Prop where
 hh:AL H H'
 ff:AL F F'
 fh:AL F' H'
 nb:∀b,B b->H b=none
 nf:∀b u,F' b=some u->F b=some u\/H b=none
theorem El(s:AL H H')(h:H' b=none):H b=none:=by
 cases e:H b with
 |none=>rfl
 |some u=>rw[s b u e]at h;cases h
section
variable {F H F1 H1 F2 H2:Hp}{B C:Rg}
theorem Ext.refl(s:AL F H):Ext F H F H R0:=⟨.refl _,.refl _,s,λ_ z=>z.elim,λ_ _ e=>.inl e⟩
theorem Ext.trans(a:Ext F H F1 H1 B)(b:Ext F1 H1 F2 H2 C):Ext F H F2 H2 (λx=>B x\/C x) where
 hh:=a.hh.trans b.hh
 ff:=a.ff.trans b.ff
 fh:=b.fh
 nb:=λx z=>z.elim (a.nb x) λz=>El a.hh (b.nb x z)
 nf:=λx u e=>(b.nf x u e).elim (a.nf x u) λz=>.inr (El a.hh z)
theorem Ext.mono(a:Ext F H F1 H1 B)(h:∀x,C x->B x):Ext F H F1 H1 C:=⟨a.hh,a.ff,a.fh,λx z=>a.nb x (h x z),a.nf⟩
theorem Ext.trans0(a:Ext F H F1 H1 R0)(b:Ext F1 H1 F2 H2 C):Ext F H F2 H2 C:=(a.trans b).mono λx z=>.inr z
open Classical in
def frz(F H:Hp)(A:Rg):Hp:=λb=>if A b then H b else F b
theorem Cz{A:Rg}{b:Addr}(h:A b):frz F H A b=H b:=by unfold frz;rw[if_pos h]
theorem DZ{A:Rg}{b:Addr}(h:¬ A b):frz F H A b=F b:=by unfold frz;rw[if_neg h]
theorem D0(n:∀a,A a->F a=none):AL F (frz F H A):=λb u e=>by
 by_cases h:A b
 .grind
 .rw[DZ h];exact e
theorem GV(s:AL F H):AL (frz F H A) H:=λb u e=>by
 by_cases h:A b
 .rw[Cz h]at e;exact e
 .rw[DZ h]at e;exact s b u e
theorem Ext.frz(a:Ext F H F1 H1 B)(n:∀b,B b->F1 b=none):Ext F H (frz F1 H1 B) H1 R0 where
 hh:=a.hh
 ff:=a.ff.trans (D0 n)
 fh:=GV a.fh
 nb:=λ_ z=>z.elim
 nf:=λb u e=>by
  by_cases h:B b
  .exact .inr (a.nb b h)
  .rw[DZ h]at e;exact a.nf b u e
theorem Rp.ext{K }    (h:Rp K F H t x A)(a:Ext F H F1 H1 B):Rp K F1 H1 t x A:=h.frame a.ff λb z=>by
 obtain⟨f,u,e⟩:=h.dom z;refine⟨(a.hh b u e).trans e.symm,?_⟩;cases q:F1 b with
 |none=>rfl
 |some u' =>
  rcases a.nf b u' q with z|z
  .grind
  grind
theorem Rp.apart{K}(h:Rp K F H t x A)(a:Ext F H F1 H1 B)(hb:B b):¬ A b:=λz=>by
 obtain⟨f,u,e⟩:=h.dom z;rw[a.nb b hb]at e;cases e
theorem Ext.new   (s:AL F H)(h:H p=none):Ext F H (upd F p o) (upd H p o) R0 where
 hh:=Ip h o
 ff:=Ip (El s h) o
 fh:=λb u e=>by
  by_cases hb:b=p
  .subst hb;rw[Be]at e ⊢;exact e
  .rw[AZ hb]at e ⊢;exact s b u e
 nb:=λ_ z=>z.elim
 nf:=λb u e=>by
  by_cases hb:b=p
  .grind
  .rw[AZ hb]at e;exact .inl e
theorem Ext.newO   (s:AL F H)(h:H p=none):Ext F H F (upd H p o) (λa=>a=p) where
 hh:=Ip h o
 ff:=.refl _
 fh:=λb u e=>Ip h o b u (s b u e)
 nb:=λb z=>by grind
 nf:=λb u e=>.inl e
end
abbrev AI:=List (Option T)
structure StR(K:k7)(F H:Hp)(σ:L2.St)(τ:AI)(R:Nat->Rg):Prop where
 fh:AL F H
 len:σ.length=τ.length
 rep:∀i t,τ[i]?=some (some t)->∃x,σ[i]?=some (some x)/\Rp K F H t x (R i)
 out:∀i a,R i a->∃t,τ[i]?=some (some t)
 dis:∀i j a,i≠j->R i a->¬ R j a
section
variable {K:k7}{F H F1 H1:Hp}{σ:L2.St}{τ:AI}{R:Nat->Rg}{B:Rg}
theorem StR.dom(h:StR K F H σ τ R)(ha:R i a):F a=none/\∃u,H a=some u:=by
 obtain⟨t,e⟩:=h.out i a ha;obtain⟨x,_,r⟩:=h.rep i t e;exact r.dom ha
theorem StR.ext(h:StR K F H σ τ R)(a:Ext F H F1 H1 B):StR K F1 H1 σ τ R where
 fh:=a.fh
 len:=h.len
 rep:=λi t e=>by
  obtain⟨x,e1,r⟩:=h.rep i t e;exact⟨x,e1,r.ext a⟩
 out:=h.out
 dis:=h.dis
theorem StR.apart(h:StR K F H σ τ R)(a:Ext F H F1 H1 B)(hb:B b)(i):¬ R i b:=λz=>by
 obtain⟨f,u,e⟩:=h.dom z;rw[a.nb b hb]at e;cases e
end
def RM:Key->PyData
 |.inl i=>.int i
 |.inr x=>.str x
mutual
def T.data:T->PyData
 |.non=>.none
 |.bl b=>.bool b
 |.int i=>.int i
 |.str x=>.str x
 |.nd _ .lst l=>.list (Az l)
 |.nd _ .rl l=>.list (Az l)
 |.nd _ .tup l=>.tuple (Az l)
 |.nd _ .rt l=>.tuple (Az l)
 |.nd _ (.pin _) l=>.list (Az l)
 |.dic ks l=>.dict ((ks.map PyData.int).zip (Az l))
 |.pdc ks l=>.dict ((ks.map PyData.int).zip (Az l))
 |.odc ks l=>.dict ((ks.map PyData.int).zip (Az l))
 |.obj _ _=>.none
 |.oob _ _ _ _=>.none
 |.osd _ _=>.none
def Az:List T->List PyData
 |[]=>[]
 |t::r=>t.data::Az r
end
mutual
def T.pln:T->Bool
 |.nd _ _ l=>DT l
 |.dic _ l=>DT l
 |.pdc _ l=>DT l
 |.odc _ l=>DT l
 |.obj _ _=>false
 |.oob _ _ _ _=>false
 |.osd _ _=>false
 |.non=>true
 |.bl _=>true
 |.int _=>true
 |.str _=>true
def DT:List T->Bool
 |[]=>true
 |t::r=>t.pln && DT r
end
theorem DS:∀{l},DT l=true->∀{i:Nat} {t},l[i]?=some t->t.pln=true
 |[],_,i,t,e=>by simp at e
 |a::r,h,i,t,e=>by
  rw[DT,ya1]at h;cases i with
  |zero =>
   simp at e;subst e;exact h.1
  |succ i=>exact DS h.2 (by simpa using e)
theorem Ox:∀{l} {us},l.length=us.length->(∀(i:Nat) (t) (u),l[i]?=some t->us[i]?=some u->∃as,Reads h u t.data as)->∃as,ReadsAll h us (Az l) as
 |[],[],_,_=>⟨_,.nil⟩
 |[],_::_,e,_=>by simp at e
 |_::_,[],e,_=>by simp at e
 |t::l,u::us,e,f=>by
  obtain⟨a1,r1⟩:=f 0 t u rfl rfl;obtain⟨a2,r2⟩:=Ox (l:=l) (us:=us) (by simpa using e) λi t' u' h1 h2=>f (i+1) t' u' (by simpa using h1) (by simpa using h2)
  exact⟨_,.cons r1 r2⟩
theorem Lo(e:(CV P w).is k v=true):Reads h v (RM k) []:=by
 rcases Dn (e) with ⟨i,t,rfl,rfl⟩|⟨x,t,rfl,rfl⟩
 .exact .int i t
 .exact .str x t
theorem JB:∀(ks) (xs) (l) (vs),KV (JQ ks xs) vs->l.length=xs.length->ks.length=xs.length->(∀(i:Nat) (t) (x),l[i]?=some t->xs[i]?=some x->∀{u},AN x u->∃as,Reads h u t.data as) ->
  ∃bs,PyProof.V.PairsRead h RM vs ((ks.map PyData.int).zip (Az l)) bs
 |[],xs,l,vs,r,_,_,_=>by
  have r' :=(r);cases r';exact⟨_,.nil⟩
 |k::ks,[],l,vs,r,_,ek,_=>by simp at ek
 |k::ks,x::xs,[],vs,r,e,_,_=>by simp at e
 |k::ks,x::xs,t::l,vs,r,e,ek,f=>by
  have r' :=r;cases r' with
  |@cons _ q _ qs hd tl =>
   obtain⟨a1,r1⟩:=f 0 t x rfl rfl hd.2;obtain⟨a2,r2⟩:=JB ks xs l qs tl (by simpa using e) (by grind) λi t' x' h1 h2=>f (i+1) t' x' (by grind) (by grind)
   obtain⟨q1,q2⟩:=q;cases (hd.1);exact⟨_,.cons r1 r2⟩
section
variable {X:Cx}{pins:List (Addr×Obj)}{σ:L2.St}{F H:Hp}{s:Shared}
theorem Eg(I:Inv X pins σ H s)(fh:AL F H)(h:Rp X.K F H t x A)(hpl:t.pln=true):∀{u},AN x u->∃as,Reads s.heap u t.data as:=by
 have kids:∀{l } {xs } {its },AK xs its->l.length=xs.length->(∀(i:Nat) (t ) (x ),l[i]?=some t->xs[i]?=some x->∀{u },AN x u->∃as,Reads s.heap u t.data as)->∃as,ReadsAll s.heap its (Az l) as:=by
  intro l xs its r e ih;refine Ox (e.trans r.length) λi t u h1 h2=>?_
  have hi:i<xs.length:=by
   have:=(ya3.mp h1).1
   omega
  obtain⟨u',e1,r1⟩:=r.get (ya0 hi);rw[h2]at e1;cases e1;exact ih i t _ h1 (ya0 hi) r1
 have lsts:∀{p } {l } {xs },AM X.K H p xs->l.length=xs.length->(∀(i:Nat) (t ) (x ),l[i]?=some t->xs[i]?=some x->∀{u },AN x u->∃as,Reads s.heap u t.data as)->∃as,Reads s.heap (.ref p) (.list (Az l)) as:=by
  intro p l xs hq e ih;obtain⟨its,r,⟨o,n,e1,e2,e3,e4⟩,_⟩:=I.list hq;obtain⟨as,ra⟩:=kids r e ih;exact⟨_,.list e1 e2 e4 (by simpa using ra)⟩
 have tups:∀{p } {l } {xs },BD X.K H p xs->l.length=xs.length->(∀(i:Nat) (t ) (x ),l[i]?=some t->xs[i]?=some x->∀{u },AN x u->∃as,Reads s.heap u t.data as)->∃as,Reads s.heap (.ref p) (.tuple (Az l)) as:=by
  intro p l xs hq e ih;obtain⟨its,r,⟨o,e1,e2,n,e4⟩,_⟩:=I.tuple hq;obtain⟨as,ra⟩:=kids r e ih;exact⟨_,.tuple e1 e2 e4 (by simpa using ra)⟩
 induction h with
 |non=>intro u r;cases r;exact⟨_,.none⟩
 |bl b=>intro u r;cases r;exact⟨_,.bool b⟩
 |int i=>intro u r;obtain⟨t,rfl⟩:=r;exact⟨_,.int i t⟩
 |str y=>intro u r;obtain⟨t,rfl⟩:=r;exact⟨_,.str y t⟩
 |@shr k p xs l h e c ih =>
  intro u r;cases r;cases k with
  |lst=>exact lsts (AM.of (fh _ _ h)) e λi t x h1 h2=>ih i t x h1 h2 (DS hpl h1)
  |rl=>exact lsts (fh.seq h.l) e λi t x h1 h2=>ih i t x h1 h2 (DS hpl h1)
  |tup=>exact tups (BD.of (fh _ _ h)) e λi t x h1 h2=>ih i t x h1 h2 (DS hpl h1)
  |rt=>exact tups (Ec fh h) e λi t x h1 h2=>ih i t x h1 h2 (DS hpl h1)
  |pin q=>exact lsts (AM.of (fh _ _ h)) e λi t x h1 h2=>ih i t x h1 h2 (DS hpl h1)
 |@dic p ob ks xs l h e ek c ih =>
  intro u r;cases r;obtain⟨ho,z,hd,vs,rel,dd⟩:=(I.hok p _ (fh _ _ h));obtain⟨bs,pr⟩:=JB ks xs l vs rel e ek λi t x h1 h2=>ih i t x h1 h2 (DS hpl h1)
  exact⟨_,yck (λk v q=>Lo q) dd pr⟩
 |@pdc p ks xs l h e ek c ih =>
  intro u r;cases r;obtain⟨z,hd,vs,rel,dd⟩:=(I.hok p _ (fh _ _ h));obtain⟨bs,pr⟩:=JB ks xs l vs rel e ek λi t x h1 h2=>ih i t x h1 h2 (DS hpl h1)
  exact⟨_,yck (λk v q=>Lo q) dd pr⟩
 |@odc p ks xs l f h e ek c ih =>
  intro u r;cases r;obtain⟨z,hd,vs,rel,dd⟩:=(I.hok p _ h);obtain⟨bs,pr⟩:=JB ks xs l vs rel e ek λi t x h1 h2=>ih i t x h1 h2 (DS hpl h1)
  exact⟨_,yck (λk v q=>Lo q) dd pr⟩
 |obj h e c ih=>cases hpl
 |oob R f h e c d dp o ih=>cases hpl
 |osd R f h e ek c d dp o ih=>cases hpl
 |@own k0 p xs l hk R f h e c d dp o ih =>
  intro u r;cases r;cases k0 with
  |lst=>exact lsts (AM.of h) e λi t x h1 h2=>ih i t x h1 h2 (DS hpl h1)
  |pin q=>exact lsts (AM.of h) e λi t x h1 h2=>ih i t x h1 h2 (DS hpl h1)
  |tup=>exact tups (BD.of h) e λi t x h1 h2=>ih i t x h1 h2 (DS hpl h1)
  |_=>exact hk.elim
end
noncomputable def DK(t:T):Bool:=t.pln && t.data.canLay0
def He(t u:T):Bool:=PyData.eqv t.data u.data
def Fd(t u:T):Bool:=DK t && DK u && decide (min t.data.depth u.data.depth<=60)
def B5(t u:T):Option T:=if Fd t u then some (.bl (He t u)) else none
def B0(t u:T):Option T:=if Fd t u then some (.bl (!He t u)) else none
def GQ(t:T)(l:List T):Bool:=DK t && (DT l && PyData.canLayAll0 (Az l)) && decide (min (PyData.depthAll (Az l)) t.data.depth<=60)
def Ly(t:T)(l:List T):Bool:=(Az l).any λy=>PyData.eqv y t.data
def RX(t:T)(y:Str):Option T:=match t with
 |.str x=>some (.bl (!(Builtin.Str.occurrences y x 0 y.length 1).isEmpty))
 |_=>none
def Dp(t c:T):Option T:=match c with
 |.nd _ _ l=>if GQ t l then some (.bl (Ly t l)) else none
 |.str y=>RX t y
 |_=>none
def FY(t c:T):Option T:=match c with
 |.nd _ _ l=>if GQ t l then some (.bl (!Ly t l)) else none
 |_=>none
def Bm(K:k7)(F H:Hp)(v:T)(Q:VK):Prop:=∀F' H' z C,Ext F H F' H' C->Rp K F' H' v z C->Q z H'
def BH(K:k7)(g:T->T->Option T):R2:=λx y H Q=>∃F t u v,AL F H/\Rp K F F t x R0/\Rp K F F u y R0/\g t u=some v/\Bm K F H v Q
def Iu(K:k7)(g:T->Option T):V->Hp->VK->Prop:=λx H Q=>∃F t v,AL F H/\Rp K F F t x R0/\g t=some v/\Bm K F H v Q
def DR(K:k7)(g:List T->Option T):List V->Hp->VK->Prop:=λxs H Q=>∃F ts v,AL F H/\A2 K F ts xs/\g ts=some v/\Bm K F H v Q
section
variable {K:k7}{F H:Hp}{Q:VK}
theorem Bm.int(q:Bm K F H (.int i) Q)(s:AL F H):Q (.int i) H:=q F H _ _ (Ext.refl s) (.int i)
theorem Bm.bl(q:Bm K F H (.bl b) Q)(s:AL F H):Q (.bl b) H:=q F H _ _ (Ext.refl s) (.bl b)
theorem Bm.str(q:Bm K F H (.str x) Q)(s:AL F H):Q (.str x) H:=q F H _ _ (Ext.refl s) (.str x)
theorem Bm.non(q:Bm K F H .non Q)(s:AL F H):Q .non H:=q F H _ _ (Ext.refl s) .non
theorem Bm.list   (q:Bm K F H (.own l) Q)(s:AL F H)(r:A2 K F l xs)  (hp:H p=none):Q (.ref p) (upd H p (.lst xs)):=by
 refine q F (upd H p (.lst xs)) (.ref p) _ ((Ext.newO s hp).mono ?_) (.own (k:=.lst) trivial (λ_=>R0) (El s hp) Be r.1 (λi t x h1 h2=>?_) (λ_ _ _ _ z=>z.elim) (λ_ z=>z) (λ_ _ z=>z.elim))
 .rintro a (z|⟨i,z⟩)
  .exact z
  .exact z.elim
 .exact(r.2 i t x h1 h2).any
theorem Bm.tuple(q:Bm K F H (.tup l) Q)(s:AL F H)(r:A2 K F l xs)(hp:H p=none):Q (.ref p) (upd H p (.tup xs)):=by
 have e:=Ext.new (o:=.tup xs) s hp;exact q _ _ _ _ e (A2.of_node Be (r.same e.ff))
theorem Bm.same(q:Bm K F H t Q)(s:AL F H)(r:Rp K F F t x R0):Q x H:=q F H x _ (Ext.refl s) r.any
end
def ED(i:Int):Bool:=@decide (-(2 ^ 64)<i/\i<2 ^ 64) (Classical.propDecidable _)
def Bf(i:Int):Bool:=@decide (-(10 ^ 70)<i/\i<10 ^ 70) (Classical.propDecidable _)
def RO(k:Int):Bool:=@decide (k<2 ^ 63/\-(2 ^ 63)<=k) (Classical.propDecidable _)
def Cu(i j:Int):Bool:=ED i || ED j || (Bf i && Bf j)
noncomputable def AW:Nat:=16777216
def BA:T->T->Option T
 |.int i,.int j=>some (.int (i+j))
 |.str x,.str y=>if x.length+y.length<=AW then some (.str (x++y)) else none
 |.nd _ .lst l,.nd _ .lst m=>if l.length+m.length<=AW then some (.own (l++m)) else none
 |_,_=>none
def Gj:T->T->Option T
 |.int i,.int j=>some (.int (i - j))
 |_,_=>none
def C9:T->T->Option T
 |.int i,.int j=>if Cu i j then some (.int (i * j)) else none
 |.nd _ .lst l,.int k=>if RO k=true/\l.length * k.toNat<=AW then some (.own (List.replicate k.toNat l).flatten) else none
 |.str x,.int k=>if 0<=k/\k<=1000000/\x.length<=16 then some (.str (Txt.mul x k)) else none
 |_,_=>none
def Am:T->T->Option T
 |.int i,.int j=>if j≠0 then some (.int (i.fmod j)) else none
 |_,_=>none
def CD:T->T->Option T
 |.int i,.int j=>if j≠0/\Bf j then some (.int (i.fdiv j)) else none
 |_,_=>none
def Ei:T->T->Option T
 |.int i,.int j=>if 0<=j/\j<=1000000/\ED i then some (.int (i ^ j.toNat)) else none
 |_,_=>none
def DA(f:Int->Int->Bool):T->T->Option T
 |.int i,.int j=>some (.bl (f i j))
 |_,_=>none
def Em:T->Option T
 |.int i=>some (.int (-i))
 |_=>none
theorem Kf(h:ED i=true):-(2 ^ 64)<i/\i<2 ^ 64:=@of_decide_eq_true _ (Classical.propDecidable _) h
theorem Ke(h:Bf i=true):Sm i:=@of_decide_eq_true _ (Classical.propDecidable _) h
theorem RN(h:RO k=true):k<2 ^ 63/\-(2 ^ 63)<=k:=@of_decide_eq_true _ (Classical.propDecidable _) h
theorem Dm:AW=sizeLine:=by rw[ydi];rfl
theorem Ir{K}{F}:∀{l m} {xs ys},A2 K F l xs->A2 K F m ys->A2 K F (l++m) (xs++ys)
 |[],m,xs,ys,r,q=>by rw[r.inv0];exact q
 |t::l,m,xs,ys,r,q=>by
  obtain⟨x,xs',rfl,r1,r2⟩:=r.inv;exact .cons r1 (Ir r2 q)
theorem Oo{K}(r:A2 K F l xs):∀n ,A2 K F (List.replicate n l).flatten (List.replicate n xs).flatten
 |0=>.nil
 |n+1=>by
  exact Ir r (Oo r n)
section
variable {X:Cx}
theorem DF{K}(h:Rp K F H (.nd o k l) x R0):∃p xs,x=.ref p/\o=false/\EK K F k p xs/\A2 K F l xs:=by
 generalize hA:R0=A at h;cases h with
 |shr h e c=>exact⟨_,_,rfl,rfl,h,e,λi t x h1 h2=>(hA▸c i t x h1 h2).any⟩
 |@own k0 p xs l hk R f h e c d dp o =>
  exfalso
  have:R0 p:=by grind
  exact this
theorem zhd:AX X (binaryOp .Add) (BH X.K BA):=by
 intro pins s σ H x y v u Q I rx ry h;obtain⟨F,t1,t2,r,fh,r1,r2,e,q⟩:=h;unfold BA at e;split at e
 .cases e;rw[r1.int_inv]at rx;rw[r2.int_inv]at ry;exact zkb pins s σ H _ _ v u Q I rx ry ⟨_,_,rfl,rfl,q.int fh⟩
 .split at e
  .cases e;rename_i hz;rw[r1.str_inv]at rx;rw[r2.str_inv]at ry;exact zcd pins s σ H _ _ v u Q I rx ry ⟨_,_,rfl,rfl,by rw[<- Dm];exact hz,q.str fh⟩
  .cases e
 .split at e
  .cases e;rename_i hz;obtain⟨p,xs,rfl,rfl,n1,k1⟩:=DF r1;obtain⟨p2,ys,rfl,rfl,n2,k2⟩:=DF r2;refine zka pins s σ H _ _ v u Q I rx ry ⟨p,p2,xs,ys,rfl,rfl,fh _ _ n1,fh _ _ n2,?_,λa ha=>q.list fh (Ir k1 k2) ha⟩
   rw[<- k1.1,<- k2.1,<- Dm];exact hz
  .cases e
 .cases e
theorem HB(ho:AX X f (rI C g))(hg:∀t u v,gT t u=some v->∃i j,t=.int i/\u=.int j/\C i j/\((∃k,v=.int k/\g i j=.int k)\/∃k,v=.bl k/\g i j=.bl k)):AX X f (BH X.K gT):=by
 intro pins s σ H x y v u Q I rx ry h;obtain⟨F,t1,t2,r,fh,r1,r2,e,q⟩:=h;obtain⟨i,j,rfl,rfl,hc,hv⟩:=hg _ _ _ e;rw[r1.int_inv]at rx;rw[r2.int_inv]at ry;refine ho pins s σ H _ _ v u Q I rx ry ⟨i,j,rfl,rfl,hc,?_⟩
 rcases hv with ⟨k,rfl,ek⟩|⟨k,rfl,ek⟩
 .rw[ek];exact q.int fh
 .rw[ek];exact q.bl fh
theorem AX.weak(h:AX X f r)(w:∀x y H Q,r' x y H Q->r x y H Q):AX X f r':=λpins s σ H x y v u Q I rx ry q=>h pins s σ H x y v u Q I rx ry (w x y H Q q)
theorem Ou(h:AX X f (EF g)):AX X f (rI (λ_ _=>True) g):=AX.weak h λx y H Q ⟨i,j,a,b,_,q⟩=>⟨i,j,a,b,q⟩
theorem zh8:AX X (binaryOp .Sub) (BH X.K Gj):=HB (Ou zk5) λt u v h=>by
 unfold Gj at h
 grind
theorem zhb:AX X (binaryOp .Mod) (BH X.K Am):=HB zh7 λt u v h=>by
 unfold Am at h
 grind
theorem zf4:AX X (binaryOp .FloorDiv) (BH X.K CD):=HB zf3 λt u v h=>by
 unfold CD at h;split at h
 .split at h
  .cases h;rename_i hc;exact⟨_,_,rfl,rfl,⟨hc.1,Ke hc.2⟩,.inl ⟨_,rfl,rfl⟩⟩
  .cases h
 .cases h
theorem zh9:AX X (binaryOp .Pow) (BH X.K Ei):=HB zk7 λt u v h=>by
 unfold Ei at h;split at h
 .split at h
  .cases h;rename_i hc;have q:=Kf hc.2.2;exact⟨_,_,rfl,rfl,⟨hc.1,hc.2.1,by omega⟩,.inl ⟨_,rfl,rfl⟩⟩
  .cases h
 .cases h
theorem JC(ho:AX X (compareOp op) (EF λi j=>.bl (g i j))):AX X (compareOp op) (BH X.K (DA g)):=HB (Ou ho) λt u v h=>by
 unfold DA at h
 grind
theorem zha:AX X (binaryOp .Mult) (BH X.K C9):=by
 intro pins s σ H x y v u Q I rx ry h;obtain⟨F,t1,t2,r,fh,r1,r2,e,q⟩:=h;unfold C9 at e;split at e
 .rename_i i j;split at e
  .cases e;rename_i hc;rw[r1.int_inv]at rx;rw[r2.int_inv]at ry;unfold Cu at hc;rw[ybx,ybx,ya1]at hc
   rcases hc with (hc|hc)|hc
   .exact Pe pins s σ H _ _ v u Q I rx ry ⟨i,j,rfl,rfl,.inl (Kf hc),q.int fh⟩
   .exact Pe pins s σ H _ _ v u Q I rx ry ⟨i,j,rfl,rfl,.inr (Kf hc),q.int fh⟩
   .exact zh6 pins s σ H _ _ v u Q I rx ry ⟨i,j,rfl,rfl,⟨Ke hc.1,Ke hc.2⟩,q.int fh⟩
  .cases e
 .split at e
  .cases e;rename_i hc;obtain⟨p,xs,rfl,rfl,n1,k1⟩:=DF r1;rw[r2.int_inv]at ry;refine zk6 pins s σ H _ _ v u Q I rx ry ⟨p,_,xs,rfl,rfl,fh _ _ n1,(RN hc.1).2,(RN hc.1).1,?_,λa ha=>q.list fh (Oo k1 _) ha⟩
   rw[<- k1.1,<- Dm];exact hc.2
  .cases e
 .split at e
  .cases e;rename_i hc;rw[r1.str_inv]at rx;rw[r2.int_inv]at ry;obtain⟨t1,rfl⟩:=rx;obtain⟨t2,rfl⟩:=ry;exact SB.mul (mulOk_of 16 1048576 hc.2.2 (by omega) (by omega) (by decide) (by decide)) λt' k=>⟨.str _,H,I.tok _,⟨_,rfl⟩,q.str fh⟩
  .cases e
 .cases e
theorem zg1:Hm X (unaryOp .USub) (Iu X.K Em):=by
 intro pins s σ H x v Q I rx h;obtain⟨F,t,r,fh,r1,e,q⟩:=h;unfold Em at e;split at e
 .cases e;rw[r1.int_inv]at rx;exact zij pins s σ H _ v Q I rx ⟨_,rfl,q.int fh⟩
 .cases e
theorem Se{A:Around}(hu:A.units+64<cLine)(h:n<=60):A.units+n<cLine:=by omega
theorem zkf(hu:X.A.units+64<cLine):AX X (compareOp .Eq) (BH X.K B5):=by
 intro pins s σ H x y v u Q I rx ry h;obtain⟨F,t1,t2,r,fh,r1,r2,e,q⟩:=h;unfold B5 at e;split at e
 .cases e;rename_i hc;unfold Fd DK at hc;rw[ya1,ya1,ya1,ya1,yds]at hc;obtain⟨a1,q1⟩:=Eg I fh (r1.any) hc.1.1.1 rx;obtain⟨a2,q2⟩:=Eg I fh (r2.any) hc.1.2.1 ry;exact SeqAt.compareEq_reads q1 q2 hc.1.1.2 hc.1.2.2 (Se hu hc.2) ⟨.bl _,H,I,rfl,q.bl fh⟩
 .cases e
theorem zke(hu:X.A.units+64<cLine):AX X (compareOp .In) (BH X.K Dp):=by
 intro pins s σ H x y v u Q I rx ry h;obtain⟨F,t1,t2,r,fh,r1,r2,e,q⟩:=h;unfold Dp at e;split at e
 .rename_i o k l;split at e
  .cases e;rename_i hc;unfold GQ DK at hc;rw[ya1,ya1,ya1,ya1,yds]at hc;obtain⟨a1,q1⟩:=Eg I fh (r1.any) hc.1.1.1 rx;obtain⟨a2,q2⟩:=Eg I fh (r2.any) (hc.1.2.1) ry;have hd:X.A.units+1+min (PyData.depthAll (Az l)) t1.data.depth<cLine:=by omega
   cases k with
   |lst=>exact ycx q2 q1 hc.1.2.2 hc.1.1.2 hd ⟨.bl _,H,I,rfl,q.bl fh⟩
   |rl=>exact ycx q2 q1 hc.1.2.2 hc.1.1.2 hd ⟨.bl _,H,I,rfl,q.bl fh⟩
   |tup=>exact SeqAt.in_tuple_reads q2 q1 hc.1.2.2 hc.1.1.2 hd ⟨.bl _,H,I,rfl,q.bl fh⟩
   |rt=>exact SeqAt.in_tuple_reads q2 q1 hc.1.2.2 hc.1.1.2 hd ⟨.bl _,H,I,rfl,q.bl fh⟩
   |pin _=>exact ycx q2 q1 hc.1.2.2 hc.1.1.2 hd ⟨.bl _,H,I,rfl,q.bl fh⟩
  .cases e
 .unfold RX at e;split at e
  .cases e;rw[r1.str_inv]at rx;rw[r2.str_inv]at ry;exact zd2 pins s σ H _ _ v u Q I rx ry ⟨_,_,rfl,rfl,q.bl fh⟩
  .cases e
 .cases e
theorem zd3(hu:X.A.units+64<cLine):AX X (compareOp .NotIn) (BH X.K FY):=by
 intro pins s σ H x y v u Q I rx ry h;obtain⟨F,t1,t2,r,fh,r1,r2,e,q⟩:=h;unfold FY at e;split at e
 .rename_i o k l;split at e
  .cases e;rename_i hc;unfold GQ DK at hc;rw[ya1,ya1,ya1,ya1,yds]at hc;obtain⟨a1,q1⟩:=Eg I fh (r1.any) hc.1.1.1 rx;obtain⟨a2,q2⟩:=Eg I fh (r2.any) (hc.1.2.1) ry;have hd:X.A.units+1+min (PyData.depthAll (Az l)) t1.data.depth<cLine:=by omega
   cases k with
   |lst=>exact ycl q2 q1 hc.1.2.2 hc.1.1.2 hd ⟨.bl _,H,I,rfl,q.bl fh⟩
   |rl=>exact ycl q2 q1 hc.1.2.2 hc.1.1.2 hd ⟨.bl _,H,I,rfl,q.bl fh⟩
   |tup=>exact SeqAt.notIn_tuple_reads q2 q1 hc.1.2.2 hc.1.1.2 hd ⟨.bl _,H,I,rfl,q.bl fh⟩
   |rt=>exact SeqAt.notIn_tuple_reads q2 q1 hc.1.2.2 hc.1.1.2 hd ⟨.bl _,H,I,rfl,q.bl fh⟩
   |pin _=>exact ycl q2 q1 hc.1.2.2 hc.1.1.2 hd ⟨.bl _,H,I,rfl,q.bl fh⟩
  .cases e
 .cases e
def isT(b:T)(neg:Bool)(t _u:T):Option T:=some (.bl (if neg then !(decide (t.data.depth=0) && eqIs t b) else eqIs t b))
where eqIs:T->T->Bool
  |.non,.non=>true
  |.bl x,.bl y=>x == y
  |_,_=>false
end
set_option genInjectivity true in
inductive Rs where
 |v (t:T) (b:Bool)|x (c:Str)
abbrev AD:=AI->Option Rs
set_option genInjectivity true in
inductive RsL where
 |v (ts:List T) (b:Bool)|x (c:Str)
abbrev Ad:=AI->Option RsL
def tot(R:Nat->Rg):Rg:=λa=>∃i,R i a
def Cp(K:k7)(F H:Hp)(R:Nat->Rg)(v:T)(b:Bool)(x:V)(B:Rg):Prop:=match b with
 |true=>B=R0/\∃A,(∀a,A a->tot R a)/\Rp K F H v x A
 |false=>Rp K F H v x B
def Gz(b:Bool)(F H:Hp)(R:Nat->Rg):Hp:=match b with
 |true=>frz F H (tot R)
 |false=>F
section
variable {K:k7}{F H F1 H1:Hp}{σ:L2.St}{τ:AI}{R:Nat->Rg}{B:Rg}{b c:Bool}{v:T}{x:V}
theorem StR.tot(S:StR K F H σ τ R)(h:tot R a):F a=none/\∃u,H a=some u:=by
 obtain⟨i,z⟩:=h;exact S.dom z
theorem J1(S:StR K F H σ τ R):AL F (Gz b F H R):=by
 cases b with
 |true=>exact D0 λa z=>(S.tot z).1
 |false=>exact .refl _
theorem Lz(S:StR K F H σ τ R):AL (Gz b F H R) H:=by
 cases b with
 |true=>exact GV S.fh
 |false=>exact S.fh
theorem zhy(S:StR K F H σ τ R)(e:Ext F H F1 H1 B)(h:b=true->c=true):AL (Gz b F H R) (Gz c F1 H1 R):=by
 have S1:=S.ext e;cases b with
 |false=>exact e.ff.trans (J1 S1)
 |true =>
  rw[h rfl];intro a u q;show frz F1 H1 (Pu.tot R) a=some u
  by_cases z:Pu.tot R a
  .rw[Cz z];have q':frz F H (Pu.tot R) a=some u:=q;rw[Cz z]at q';exact e.hh _ _ q'
  .rw[DZ z];have q':frz F H (Pu.tot R) a=some u:=q;rw[DZ z]at q';exact e.ff _ _ q'
theorem Cp.frz(S:StR K F H σ τ R)(e:Ext F H F1 H1 B)(g:Cp K F1 H1 R v b x B):∃F2,Ext F H F2 H1 R0/\AL F1 F2/\Rp K (Gz b F2 H1 R) (Gz b F2 H1 R) v.share x R0:=by
 have S1:=S.ext e;cases b with
 |true =>
  obtain⟨rfl,A,hA,r⟩:=g
  exact⟨F1,e,.refl _,r.share (J1 S1) λa u z q=>by
   show Pu.frz F1 H1 (Pu.tot R) a=some u;rw[Cz (hA a z)];exact q⟩
 |false =>
  have g' :=g;have n:∀a,B a->F1 a=none:=λa z=>(g'.dom z).1
  exact⟨_,e.frz n,D0 n,g'.share (D0 n) λa u z q=>by
   show Pu.frz F1 H1 B a=some u;rw[Cz z];exact q⟩
theorem Ext.grow(e:Ext F H F1 H1 R0)(s:AL H1 H2):Ext F H F1 H2 R0:=⟨e.hh.trans s,e.ff,e.fh.trans s,λ_ z=>z.elim,e.nf⟩
end
noncomputable def EV(c:Str):Option Nat:=match c.cps.toList with
 |[78,111,82,117,110,n]=>some n
 |_=>none
def Pc(c:Str):Str:=match EV c with
 |some _=>"NoRun"
 |none=>c
def Kz(c:Str):List V:=match EV c with
 |some n=>[.int n]
 |none=>[]
def NC(F:Hp)(c:Str)(dx:Option Addr):Prop:=∀v∈Kz c,Hn F dx v
def XE(E:XK)(ca:Str->Value)(c:Str)(F H:Hp):Prop:=∀dx,NC F c dx->E (ca (Pc c)) dx H
theorem XE.plain(h:XE E ca c F H)(hc:EV c=none):E (ca c) none H:=by
 have:=h none (by unfold NC Kz;grind)
 unfold Pc at this
 grind
theorem XE.any(h:XE E ca c F H)(hc:EV c=none):XE E ca c F' H:=λdx _=>h dx (by unfold NC Kz;grind)
def pM(K:k7)(E:L2.St->XK)(ca:Str->Value)(σ:L2.St)(Q:VK)(F H:Hp)(R:Nat->Rg):Option Rs->Prop
 |some (.v v b)=>∀F' H' x B,Ext F H F' H' B->Cp K F' H' R v b x B->Q x H'
 |some (.x c)=>∀F' H',Ext F H F' H' R0->XE (E σ) ca c F' H'
 |none=>False
def tM(K:k7)(E:L2.St->XK)(ca:Str->Value)(m:AD):TE:=λσ H Q=>∃F τ R,StR K F H σ τ R/\pM K E ca σ Q F H R (m τ)
def pMs(K:k7)(E:L2.St->XK)(ca:Str->Value)(σ:L2.St)(Q:List V->Hp->Prop)(F H:Hp)(R:Nat->Rg):Option RsL->Prop
 |some (.v ts b)=>∀F' H' xs,Ext F H F' H' R0->A2 K (Gz b F' H' R) ts xs->Q xs H'
 |some (.x c)=>∀F' H',Ext F H F' H' R0->XE (E σ) ca c F' H'
 |none=>False
def BX(K:k7)(E:L2.St->XK)(ca:Str->Value)(m:Ad):TA:=λσ H Q=>∃F τ R,StR K F H σ τ R/\pMs K E ca σ Q F H R (m τ)
def pMB(K:k7)(E:L2.St->XK)(ca:Str->Value)(σ:L2.St)(Q:Bool->Hp->Prop)(F H:Hp):Option Rs->Prop
 |some (.v (.bl c) _)=>∀F' H',Ext F H F' H' R0->Q c H'
 |some (.v _ _)=>False
 |some (.x c)=>∀F' H',Ext F H F' H' R0->XE (E σ) ca c F' H'
 |none=>False
def Ak(K:k7)(E:L2.St->XK)(ca:Str->Value)(m:AD):TT:=λσ H Q=>∃F τ R,StR K F H σ τ R/\pMB K E ca σ Q F H (m τ)
noncomputable def AA(i:Nat):AD:=λτ=>match τ[i]? with
 |some (some t)=>some (.v t (!t.sh))
 |_=>none
noncomputable def mC(t:T):AD:=λ_=>some (.v t false)
def AE:Ad:=λ_=>some (.v [] false)
noncomputable def AB(m:AD)(ms:Ad):Ad:=λτ=>match m τ with
 |some (.v t b)=>(match ms τ with
  |some (.v ts b')=>some (.v (t.share::ts) (b || b'))
  |r=>r)
 |some (.x c)=>some (.x c)
 |none=>none
def Ah(b:Bool)(v:T):Option Rs:=if b && !v.flat then none else some (.v v false)
def BG(g:List T->Option T)(ms:Ad):AD:=λτ=>match ms τ with
 |some (.v ts b)=>(match g ts with
  |some v=>Ah b v
  |none=>none)
 |some (.x c)=>some (.x c)
 |none=>none
def g2(g:T->T->Option T):List T->Option T
 |[t,u]=>g t u
 |_=>none
def g1(g:T->Option T):List T->Option T
 |[t]=>g t
 |_=>none
abbrev m1(g:T->Option T)(a:AD):AD:=BG (g1 g) (AB a AE)
abbrev m2(g:T->T->Option T)(a b:AD):AD:=BG (g2 g) (AB a (AB b AE))
def Dl(c:AD)(a b:AD):AD:=λτ=>match c τ with
 |some (.v (.bl true) _)=>a τ
 |some (.v (.bl false) _)=>b τ
 |some (.x c)=>some (.x c)
 |_=>none
def Ay(c:AD):AD:=λτ=>match c τ with
 |some (.v (.bl b) _)=>some (.v (.bl (!b)) false)
 |some (.x c)=>some (.x c)
 |_=>none
def Ci(a b:AD):AD:=Dl a b (mC (.bl false))
def BK(a b:AD):AD:=Dl a (mC (.bl true)) b
section
variable {X:Cx}{E:L2.St->XK}{ca:Str->Value}{σ:L2.St}{H:Hp}{m ma mb mc:AD}{ms:Ad}{K:k7}{a b c e:Expr}{es:List Expr}{pos:Pos}
theorem PE.weak(h:PE X e t)(w:∀σ H Q,t' σ H Q->t σ H Q):PE X e t':=λpins s σ H Q I q=>h pins s σ H Q I (w σ H Q q)
theorem PT.weak(h:PT X e t)(w:∀σ H Q,t' σ H Q->t σ H Q):PT X e t':=λpins s σ H Q I q=>h pins s σ H Q I (w σ H Q q)
theorem PA.weak(h:PA X es t)(w:∀σ H Q,t' σ H Q->t σ H Q):PA X es t':=λpos pins s σ H Q I q=>h pos pins s σ H Q I (w σ H Q q)
theorem tM.mono(h:tM K E ca m σ H Q)(w:∀x H',Q x H'->Q' x H'):tM K E ca m σ H Q':=by
 obtain⟨F,τ,R,S,q⟩:=h;refine⟨F,τ,R,S,?_⟩;cases hm:m τ with
 |none=>rw[hm]at q;exact q
 |some r =>
  rw[hm]at q;cases r with
  |v v b=>exact λF' H' x B e g=>w _ _ (q F' H' x B e g)
  |x c=>exact q
theorem BX.mono(h:BX K E ca ms σ H Q)(w:∀x H',Q x H'->Q' x H'):BX K E ca ms σ H Q':=by
 obtain⟨F,τ,R,S,q⟩:=h;refine⟨F,τ,R,S,?_⟩;cases hm:ms τ with
 |none=>rw[hm]at q;exact q
 |some r =>
  rw[hm]at q;cases r with
  |v v b=>exact λF' H' x e g=>w _ _ (q F' H' x e g)
  |x c=>exact q
theorem FK(h:BX K E ca AE σ H Q):Q [] H:=by
 obtain⟨F,τ,R,S,q⟩:=h;exact q F H [] (Ext.refl S.fh) .nil
theorem FL(h:BX K E ca (AB m ms) σ H Q):tM K E ca m σ H λx H1=>BX K E ca ms σ H1 λxs H2=>Q (x::xs) H2:=by
 obtain⟨F,τ,R,S,q⟩:=h;refine⟨F,τ,R,S,?_⟩;unfold AB at q;cases hm:m τ with
 |none=>rw[hm]at q;exact q
 |some r =>
  rw[hm]at q;cases r with
  |x c=>exact q
  |v t b =>
   intro F' H' x B e g;obtain⟨F2,e2,_,r2⟩:=Cp.frz S e g;have S2:=S.ext e2;refine⟨F2,τ,R,S2,?_⟩;cases hs:ms τ with
   |none=>rw[hs]at q;exact q.elim
   |some r =>
    simp only[hs]at q;cases r with
    |x c=>exact λF3 H3 e3=>q F3 H3 (e2.trans0 e3)
    |v ts b' =>
     intro F3 H3 xs e3 rs;refine q F3 H3 (x::xs) (e2.trans0 e3) ?_;refine .cons (H:=H3) ((r2.frame (zhy S2 e3 (by grind)) λa z=>z.elim)) ?_
     cases b' with
     |true=>grind
     |false =>
      cases b with
      |false=>exact rs
      |true=>exact rs.same (J1 (S2.ext e3))
theorem FN(h:tM K E ca (BG g ms) σ H Q):BX K E ca ms σ H λxs H1=>DR K g xs H1 Q:=by
 obtain⟨F,τ,R,S,q⟩:=h;refine⟨F,τ,R,S,?_⟩;unfold BG at q;cases hs:ms τ with
 |none=>rw[hs]at q;exact q.elim
 |some r =>
  simp only[hs]at q;cases r with
  |x c=>exact q
  |v ts b =>
   intro F1 H1 xs e1 rs;have S1:=S.ext e1;cases hg:g ts with
   |none=>simp only[hg]at q;exact q.elim
   |some v =>
    simp only[hg]at q;refine⟨Gz b F1 H1 R,ts,v,Lz S1,rs,hg,λF2 H2 z C e2 r2=>?_⟩
    unfold Ah at q;cases b with
    |false=>exact q F2 H2 z C (e1.trans0 e2) r2
    |true =>
     cases hf:v.flat with
     |false =>
      rw[hf]at q;exact False.elim q
     |true =>
      rw[hf]at q;exact q F1 H2 z R0 (e1.grow e2.hh) (r2.flat_any hf)
theorem rTn2(h:DR K (g2 g) [x,y] H Q):BH K g x y H Q:=by
 obtain⟨F,ts,v,fh,rs,e,q⟩:=h;unfold g2 at e;split at e
 .obtain⟨x1,xs1,e1,r1,rs1⟩:=rs.inv;obtain⟨x2,xs2,e2,r2,rs2⟩:=rs1.inv;cases e1;cases e2;exact⟨F,_,_,v,fh,r1,r2,e,q⟩
 .cases e
theorem rTn1(h:DR K (g1 g) [x] H Q):Iu K g x H Q:=by
 obtain⟨F,ts,v,fh,rs,e,q⟩:=h;unfold g1 at e;split at e
 .obtain⟨x1,xs1,e1,r1,rs1⟩:=rs.inv;cases e1;exact⟨F,_,v,fh,r1,e,q⟩
 .cases e
theorem K0(h:tM K E ca (BG (g2 g) (AB ma (AB mb AE))) σ H Q):Fu (BH K g) (tM K E ca ma) (tM K E ca mb) σ H Q :=
 (FL (FN h)).mono λx H1 h1=>(FL h1).mono λy H2 h2=>rTn2 (FK h2)
theorem zio(h:tM K E ca (BG (g1 g) (AB ma AE)) σ H Q):N5 (Iu K g) (tM K E ca ma) σ H Q :=
 (FL (FN h)).mono λx H1 h1=>rTn1 (FK h1)
theorem zih(h:tM K E ca (AA i) σ H Q):KW i σ H Q:=by
 obtain⟨F,τ,R,S,q⟩:=h;unfold AA at q;split at q
 .rename_i t ht;obtain⟨x,e,r⟩:=S.rep i t ht;refine⟨x,e,q F H x R0 (Ext.refl S.fh) ?_⟩;cases hs:t.sh with
  |true=>exact r.move hs (.refl _)
  |false=>exact⟨rfl,R i,λa z=>⟨i,z⟩,r⟩
 .exact False.elim q
theorem r_var(hN:X.N[i]?=some x)(hv:Bs X.env.scope x)(hd:(x == "__debug__")=false)(hcd:(x == "__classdict__")=false):PE X (.Name x pos) (tM X.K E ca (AA i)):=PE.weak (DD hN hv hd hcd) λ_ _ _ h=>zih h
theorem FW(h:PE X e (tC v))(r:∀F H,Rp X.K F H t v R0):PE X e (tM X.K E ca (mC t)):=PE.weak h λσ H Q h=>by
 obtain⟨F,τ,R,S,q⟩:=h;exact q F H v R0 (Ext.refl S.fh) (r _ _)
theorem Kn:PA X [] (BX X.K E ca AE):=PA.weak Ct λσ H Q h=>FK h
theorem Gv(ha:PE X e (tM X.K E ca m))(hr:PA X es (BX X.K E ca ms))(hs:starEach (e::es) X.env=(false,eval e X.env)::starEach es X.env):PA X (e::es) (BX X.K E ca (AB m ms)) :=
 PA.weak (CI ha hr hs) λσ H Q h=>FL h
theorem r_bin(ho:AX X (binaryOp op) (BH X.K g))(ha:PE X a (tM X.K E ca ma))(hb:PE X b (tM X.K E ca mb)):PE X (.BinOp a op b pos) (tM X.K E ca (BG (g2 g) (AB ma (AB mb AE)))) :=
 PE.weak (pe_op ho ha hb) λσ H Q h=>K0 h
theorem r_un(ho:Hm X (unaryOp op) (Iu X.K g))(ha:PE X a (tM X.K E ca ma)):PE X (.UnaryOp op a pos) (tM X.K E ca (BG (g1 g) (AB ma AE))) :=
 PE.weak (pe_un ho ha) λσ H Q h=>zio h
theorem r_cmp(ho:AX X (compareOp op) (BH X.K g))(ha:PE X a (tM X.K E ca ma))(hb:PE X b (tM X.K E ca mb))(hm:behindInMarks op b=false):PE X (.Compare a [op] [b] pos) (tM X.K E ca (BG (g2 g) (AB ma (AB mb AE)))) :=
 PE.weak (zh0 ho ha hb hm) λσ H Q h=>K0 h
theorem IU  (h:Ak K E ca m σ H Q):tM K E ca m σ H λx H1=>∃k,x=.bl k/\Q k H1:=by
 obtain⟨F,τ,R,S,q⟩:=h;refine⟨F,τ,R,S,?_⟩;cases hm:m τ with
 |none=>rw[hm]at q;exact q
 |some r =>
  rw[hm]at q;cases r with
  |x c=>exact q
  |v v b =>
   cases v with
   |bl k =>
    intro F' H' x B e g
    have hx:x=.bl k:=by
     cases b with
     |true=>obtain⟨_,A,_,r⟩:=g;exact r.bl_inv
     |false=>exact(g).bl_inv
    exact⟨k,hx,q F' H' (e.mono λ_ z=>z.elim)⟩
   |_=>exact q.elim
theorem zjc(ho:AX X (compareOp op) (BH X.K g))(ha:PE X a (tM X.K E ca ma))(hb:PE X b (tM X.K E ca mb))(hm:behindInMarks op b=false):PT X (.Compare a [op] [b] pos) (Ak X.K E ca (BG (g2 g) (AB ma (AB mb AE)))) :=
 PT.weak (zgt ho ha hb hm) λσ H Q h=>K0 (IU h)
theorem Oz(h:PE X e (tM X.K E ca m))(he:∀whole,isTrue e X.env whole=(do let v <- whole;standAt e.pos;holding [v] (truthy v))):PT X e (Ak X.K E ca m):=PT.weak (zjp h he) λσ H Q h=>IU h
theorem Nk  (h:Ak K E ca (Dl mc ma mb) σ H Q):Ak K E ca mc σ H λk H1=>if k=true then Ak K E ca ma σ H1 Q else Ak K E ca mb σ H1 Q:=by
 obtain⟨F,τ,R,S,q⟩:=h;refine⟨F,τ,R,S,?_⟩;unfold Dl at q;cases hm:mc τ with
 |none=>rw[hm]at q;exact q.elim
 |some r =>
  simp only[hm]at q;cases r with
  |x c=>exact q
  |v v b =>
   cases v with
   |bl k =>
    intro F1 H1 e1;have S1:=S.ext e1
    have key:∀{mm },(match mm τ with
      |some (.v (.bl c) _)=>∀F' H',Ext F H F' H' R0->Q c H'
      |some (.v _ _)=>False
      |some (.x c)=>∀F' H',Ext F H F' H' R0->XE (E σ) ca c F' H'
      |none=>False)->Ak K E ca mm σ H1 Q:=λ{mm} q=>by
     refine⟨F1,τ,R,S1,?_⟩;cases hr:mm τ with
     |none=>grind
     |some r =>
      simp only[hr]at q;cases r with
      |x c=>exact λF' H' e=>q F' H' (e1.trans0 e)
      |v v b =>
       cases v with
       |bl k=>exact λF' H' e=>q F' H' (e1.trans0 e)
       |_=>exact q.elim
    cases k with
    |true=>exact JW (key q)
    |false=>exact JX (key q)
   |_=>exact q.elim
theorem Nh(h:tM K E ca (Dl mc ma mb) σ H Q):Ak K E ca mc σ H λk H1=>if k=true then tM K E ca ma σ H1 Q else tM K E ca mb σ H1 Q:=by
 obtain⟨F,τ,R,S,q⟩:=h;refine⟨F,τ,R,S,?_⟩;unfold Dl at q;cases hm:mc τ with
 |none=>rw[hm]at q;exact q.elim
 |some r =>
  simp only[hm]at q;cases r with
  |x c=>exact q
  |v v b =>
   cases v with
   |bl k =>
    intro F1 H1 e1;have S1:=S.ext e1
    have key:∀{mm },(match mm τ with
      |some (.v v b)=>∀F' H' x B,Ext F H F' H' B->Cp K F' H' R v b x B->Q x H'
      |some (.x c)=>∀F' H',Ext F H F' H' R0->XE (E σ) ca c F' H'
      |none=>False)->tM K E ca mm σ H1 Q:=λ{mm} q=>by
     refine⟨F1,τ,R,S1,?_⟩;cases hr:mm τ with
     |none=>grind
     |some r =>
      simp only[hr]at q;cases r with
      |x c=>exact λF' H' e=>q F' H' (e1.trans0 e)
      |v v b=>exact λF' H' x B e g=>q F' H' x B (e1.trans0 e) g
    cases k with
    |true=>exact JW (key q)
    |false=>exact JX (key q)
   |_=>exact q.elim
theorem r_ife(hc:PT X c (Ak X.K E ca mc))(ha:PE X a (tM X.K E ca ma))(hb:PE X b (tM X.K E ca mb)):PE X (.IfExp c a b pos) (tM X.K E ca (Dl mc ma mb)):=PE.weak (zf0 hc ha hb) λσ H Q h=>Nh h
theorem zg5(h:Ak K E ca (Ay mc) σ H Q):Na (Ak K E ca mc) σ H Q:=by
 obtain⟨F,τ,R,S,q⟩:=h;refine⟨F,τ,R,S,?_⟩;unfold Ay at q;cases hm:mc τ with
 |none=>rw[hm]at q;exact q.elim
 |some r =>
  simp only[hm]at q;cases r with
  |x c=>exact q
  |v v b =>
   cases v with
   |bl k=>exact q
   |_=>exact q.elim
theorem zjb(hc:PT X c (Ak X.K E ca mc)):PT X (.UnaryOp .Not c pos) (Ak X.K E ca (Ay mc)):=PT.weak (zjq hc) λσ H Q h=>zg5 h
theorem ziq(h:tM K E ca (Ay mc) σ H Q):N9 (tM K E ca mc) σ H Q:=by
 obtain⟨F,τ,R,S,q⟩:=h;refine⟨F,τ,R,S,?_⟩;unfold Ay at q;cases hm:mc τ with
 |none=>rw[hm]at q;exact q.elim
 |some r =>
  simp only[hm]at q;cases r with
  |x c=>exact q
  |v v b =>
   cases v with
   |bl k =>
    intro F' H' x B e g
    have hx:x=.bl k:=by
     cases b with
     |true=>obtain⟨_,A,_,r⟩:=g;exact r.bl_inv
     |false=>exact(g).bl_inv
    exact⟨k,hx,q F' H' _ R0 (e.mono λ_ z=>z.elim) (.bl _)⟩
   |_=>exact q.elim
theorem r_not(ha:PE X a (tM X.K E ca ma)):PE X (.UnaryOp .Not a pos) (tM X.K E ca (Ay ma)):=PE.weak (zk0 ha) λσ H Q h=>ziq h
theorem Ng(h:tM K E ca (Dl mc ma mb) σ H Q):tM K E ca mc σ H λx H1=>∃k,x=.bl k/\if k=true then tM K E ca ma σ H1 Q else tM K E ca mb σ H1 Q:=IU (Nh h)
theorem Nj(r:∀F H,Rp K F H t v R0)(h:tM K E ca (mC t) σ H Q):Q v H:=by
 obtain⟨F,τ,R,S,q⟩:=h;exact q F H v R0 (Ext.refl S.fh) (r _ _)
theorem r_and{Al}(ha:PE X a (tM X.K E ca ma))(hb:PE X (.BoolOp .And (b::Al) pos) (tM X.K E ca mb)):PE X (.BoolOp .And (a::b::Al) pos) (tM X.K E ca (Ci ma mb)) :=
 PE.weak (zk3 ha hb) λσ H Q h=>(Ng h).mono λx H1 ⟨k,e,q⟩=>⟨k,e,by
  cases k with
  |true=>exact q
  |false=>exact Nj (λ_ _=>.bl _) q⟩
theorem r_or{Al}(ha:PE X a (tM X.K E ca ma))(hb:PE X (.BoolOp .Or (b::Al) pos) (tM X.K E ca mb)):PE X (.BoolOp .Or (a::b::Al) pos) (tM X.K E ca (BK ma mb)) :=
 PE.weak (pe_or ha hb) λσ H Q h=>(Ng h).mono λx H1 ⟨k,e,q⟩=>⟨k,e,by
  cases k with
  |true=>exact Nj (λ_ _=>.bl _) q
  |false=>exact q⟩
theorem r_one(ha:PE X a (tM X.K E ca ma)):PE X (.BoolOp op [a] pos) (tM X.K E ca ma):=zjz ha
theorem Ak.mono(h:Ak K E ca m σ H Q)(w:∀x H',Q x H'->Q' x H'):Ak K E ca m σ H Q':=by
 obtain⟨F,τ,R,S,q⟩:=h;refine⟨F,τ,R,S,?_⟩;cases hm:m τ with
 |none=>rw[hm]at q;exact q
 |some r =>
  rw[hm]at q;cases r with
  |v v b =>
   cases v with
   |bl k=>exact λF' H' e=>w _ _ (q F' H' e)
   |_=>exact q.elim
  |x c=>exact q
theorem K1(h:Ak K E ca (mC (.bl k)) σ H Q):Q k H:=by
 obtain⟨F,τ,R,S,q⟩:=h;exact q F H (Ext.refl S.fh)
theorem PW.weak(h:PW X e t)(w:∀σ H Q,t' σ H Q->t σ H Q):PW X e t':=λwh pins s σ H Q I q=>h wh pins s σ H Q I (w σ H Q q)
theorem zj9{Al}(ha:PT X a (Ak X.K E ca ma))(hb:PW X (.BoolOp .And (b::Al) pos) (Ak X.K E ca mb)):PW X (.BoolOp .And (a::b::Al) pos) (Ak X.K E ca (Ci ma mb)) :=
 PW.weak (zjo ha hb) λσ H Q h=>(Nk h).mono λk H1 q=>by
  cases k with
  |true=>exact q
  |false=>exact K1 q
theorem r_wor{Al}(ha:PT X a (Ak X.K E ca ma))(hb:PW X (.BoolOp .Or (b::Al) pos) (Ak X.K E ca mb)):PW X (.BoolOp .Or (a::b::Al) pos) (Ak X.K E ca (BK ma mb)) :=
 PW.weak (pw_or ha hb) λσ H Q h=>(Nk h).mono λk H1 q=>by
  cases k with
  |true=>exact K1 q
  |false=>exact q
theorem zgm(ha:PT X a (Ak X.K E ca ma)):PW X (.BoolOp .And [a] pos) (Ak X.K E ca ma):=zgq ha
theorem zgl(ha:PT X a (Ak X.K E ca ma)):PW X (.BoolOp .Or [a] pos) (Ak X.K E ca ma):=zjn ha
end
section
variable {X:Cx}{pins:List (Addr×Obj)}{σ:L2.St}{H:Hp}{s:Shared}{h':Heap}
theorem Gg{ch:List Addr}(I:Inv X pins σ H s)(k:∀b o,b∉ch->s.heap.get? b=some o->h'.get? b=some o)(f:∀b∈ch,Bz X pins H b):Inv X pins σ H { s with heap:=h',toks:=t'}:=by
 have nit:∀b u,H b=some u->b∉ch:=λb u e z=>by rw[(f b z).1]at e;cases e
 refine I.step (λb hb=>?_) (λb o _ _ hc e _=>k b o hc e) (λb o _ _ hc e _=>⟨o.slots,k b o hc e⟩) (λ_ _ _ _ n=>n)
  (λb o hc e=>⟨o,k b o hc e⟩) (λ_ _ e=>e) (λ_ _ _ e=>e) (λb ps e=>⟨#[],by rw[e];simp⟩) (λm hm=>?_) (λb u e=>?_) I.bare
 .obtain⟨_,f1,f2,f3,f4,f5⟩:=f b hb
  grind
 .obtain⟨o,es,ep,ho,r⟩:=hm;exact⟨o,es,ep,k _ o (λz=>(f _ z).2.1 rfl) ho,r⟩
 .refine(I.hok b u e).stay (λc v hc q=>k c v ?_ q) (λ_ q=>q) λ_ _ q=>q
  grind
theorem zc8{ch:List Addr}{p:Addr}(I:Inv X pins σ H s)(k:∀b o,b∉ch->s.heap.get? b=some o->h'.get? b=some o)(f:∀b∈ch,Bz X pins H b)(hp:s.heap.objs.size<=p)(new:Bl X.prog X.w (upd H p o) h' p o) :
  Inv X pins σ (upd H p o) { s with heap:=h',toks:=t' }:=by
 have hn :=I.hok.fresh hp;have nit:∀b u,H b=some u->b∉ch:=λb u e z=>by rw[(f b z).1]at e;cases e
 have old:∀b ob,s.heap.get? b=some ob->b≠p:=λb ob e z=>by
  subst z;exact absurd (ya8 e) (Nat.not_lt.mpr hp)
 refine I.step (λb hb=>?_) (λb o _ _ hc e _=>k b o hc e) (λb o _ _ hc e _=>⟨o.slots,k b o hc e⟩) (λb ob hc e n=>by rw[AZ (old b ob e)];exact n)
  (λb o hc e=>⟨o,k b o hc e⟩) (λb xs e=>by rw[AZ (Bt e hn)];exact e) (λb o u e=>by rw[AZ (Bt e hn)];exact e) (λb ps e=>⟨#[],by rw[AZ (Bt e hn),e];simp⟩) (λm hm=>?_) (λb u e=>?_) I.bare
 .obtain⟨_,f1,f2,f3,f4,f5⟩:=f b hb;exact⟨f3,f1,f4,f5⟩
 .obtain⟨o,es,ep,ho,r⟩:=hm;exact⟨o,es,ep,k _ o (λz=>(f _ z).2.1 rfl) ho,r⟩
 .by_cases hb:b=p
  .subst hb;rw[Be]at e;cases e;exact new
  .rw[AZ hb]at e;refine(I.hok b u e).stay (λc v hc q=>k c v ?_ q) (λc q=>by rw[AZ (Bt q hn)];exact q) λc xs q=>by rw[AZ (Bt q hn)];exact q
   grind
theorem zlb(f:Bz X pins H b)(h:b≠p):Bz X pins (upd H p o) b:=⟨by rw[AZ h];exact f.1,f.2⟩
end
def NH(K:k7)(l1 l2:Addr):It :=
  ⟨λi H=>∃xs x ys y,AM K H l1 xs/\xs[i]?=some x/\AM K H l2 ys/\ys[i]?=some y,
   λi H x H'=>∃p y z,x=.ref p/\H p=none/\H'=upd H p (.tup [y,z])/\(∀xs,AM K H l1 xs->xs[i]?=some y)/\∀xs,AM K H l2 xs->xs[i]?=some z,
   λi H=>∃xs ys,AM K H l1 xs/\AM K H l2 ys/\(xs.length<=i\/ys.length<=i)⟩
theorem zec{K}(z TI TO i1 i2 l1 l2)(D:ZipApart z TI TO i1 i2 l1 l2) :
  Turn P w K (.Tuple elts kk tpos) (NH K l1 l2) [z,TI,TO,i1,i2] z (λi h=>IsZip h z TI TO .none/\IsPair h TI (.ref i1) (.ref i2)/\(∃a b,IsPair h TO a b)/\h.IsListIter i1 l1 i/\h.IsListIter i2 l2 i) where
 mem:=by simp
 obj:=λi h st b hb=>by
  obtain⟨hz,hTI,⟨a,c,hTO⟩,⟨o1,e1,_,d1⟩,⟨o2,e2,_,d2⟩⟩:=st;simp only[yak,yb8,ydt]at hb;rcases hb with rfl|rfl|rfl|rfl|rfl
  .exact⟨_,hz,λv z=>by
    have z' :=z;cases z'⟩
  .exact⟨_,hTI,λv z=>by
    have z' :=z;cases z'⟩
  .exact⟨_,hTO,λv z=>by
    have z' :=z;cases z'⟩
  .exact⟨o1,e1,λv z=>by rw[d1]at z;cases z⟩
  .exact⟨o2,e2,λv z=>by rw[d2]at z;cases z⟩
 keep:=λi h h' st k=>by
  obtain⟨hz,hTI,⟨a,c,hTO⟩,h1,h2⟩:=st;exact⟨k z (by simp) _ hz,k TI (by simp) _ hTI,⟨a,c,k TO (by simp) _ hTO⟩,h1.at λo q=>k i1 (by simp) o q,h2.at λo q=>k i2 (by simp) o q⟩
 item:=by
  intro X hP hw hK hc i pins s σ H E I hf st hg;subst hP hw hK;obtain⟨hz,hTI,⟨a,c,hTO⟩,h1,h2⟩:=st;obtain⟨xs,x,ys,y,hq,hx,hq2,hy⟩:=hg;obtain⟨its,rv,p,hzz⟩:=I.list hq;obtain⟨its2,rv2,p2,hzz2⟩:=I.list hq2;obtain⟨u,hu,ru⟩:=rv.get hx;obtain⟨u2,hu2,ru2⟩:=rv2.get hy;have hn :=I.hok.fresh (ya6 _)
  have lt:∀b∈[z,TI,TO,i1,i2],b≠s.heap.objs.size:=λb hb=>by
   simp only[yak,yb8,ydt]at hb;rcases hb with rfl|rfl|rfl|rfl|rfl
   .exact yaj (ya8 hz)
   .exact yaj (ya8 hTI)
   .exact yaj (ya8 hTO)
   .obtain⟨o,q,_⟩:=h1;exact yaj (ya8 q)
   .obtain⟨o,q,_⟩:=h2;exact yaj (ya8 q)
  refine wpAny_pyNext_zip_item D hz hTI hTO h1 h2 p.isList p2.isList (by simpa using hu) (by simpa using hu2) λh' a1 a2 a3 a4 a5 a6 hk=>?_
  have I1:Inv X pins σ (upd H s.heap.objs.size (.tup [x,y])) { s with heap:=h',toks:=s.toks }:=by
   refine zc8 I (λb o hb q=>hk b o (λz=>hb (by simp[z])) (λz=>hb (by simp[z])) (λz=>hb (by simp[z])) (λz=>hb (by simp[z])) q) hf (ya6 _) ?_
   exact⟨by simp only[yax,ycv];rw[ydi];decide,[u,u2],.cons ru (.cons ru2 .nil),_,a5,rfl,0,rfl⟩
  have f1:∀b∈[z,TI,TO,i1,i2],Bz X pins (upd H s.heap.objs.size (.tup [x,y])) b:=λb hb=>zlb (hf b hb) (lt b hb)
  refine⟨.ref s.heap.objs.size,rfl,wpAny_letOwnedTupleGo_zip a1 λh3 hz3 hs3=>?_⟩
  refine⟨.ref s.heap.objs.size,_,Gg (ch:=[z]) I1 (λb o hb q=>hs3.extBut b o (λz=>hb (by simp[z])) q) (λb hb=>f1 b (by simp at hb;simp[hb])),rfl,⟨_,x,y,rfl,hn,rfl,(λzs hy'=>by rw[I.list_inj hy' hq];exact hx),λzs hy'=>by rw[I.list_inj hy' hq2];exact hy⟩,?_,λb hb=>(f1 b hb).1⟩
  exact⟨hz3,hs3.extBut _ _ D.TIz (hk _ _ D.TIz D.TITO D.TIi1 D.TIi2 hTI),⟨_,_,hs3.extBut _ _ D.TOz a2⟩,a3.extBut hs3.extBut D.i1z,a4.extBut hs3.extBut D.i2z⟩
 done:=by
  intro X hP hw hK hc i pins s σ H E I hf st hg;subst hP hw hK;obtain⟨hz,hTI,⟨a,c,hTO⟩,h1,h2⟩:=st;obtain⟨xs,ys,hq,hq2,hx⟩:=hg;obtain⟨its,rv,p,hzz⟩:=I.list hq;obtain⟨its2,rv2,p2,hzz2⟩:=I.list hq2;have hl:=rv.length;have hl2:=rv2.length;refine wpAny_pyNext_zip_end (I.ok.hd hc) D hz hTI hTO h1 h2 p.isList p2.isList ?_ λh' hk=>⟨rfl,Gg I (λb o hb q=>hk b o (λz=>hb (by simp[z])) (λz=>hb (by simp[z])) (λz=>hb (by simp[z])) (λz=>hb (by simp[z])) q) hf⟩
  rcases hx with hx|hx
  .exact .inl (by simp;omega)
  .exact .inr (by simp;omega)
 self:=λ_ _ _ _ _ st h=>wpAny_pyIter_zip st.1 h
section
variable {X:Cx}{elts:List Expr}{kk:Nat}{tpos:Pos}
def iZip(K:k7)(ta:TA):TI:=λσ H R=>ta σ H λvs H1=>∃a b,vs=[.ref a,.ref b]/\(∃xs,AM K H1 a xs)/\(∃xs,AM K H1 b xs)/\R (NH K a b) H1
theorem zju(hg:Gl X "zip")(hm:X.mg "zip"=none)(ha:PA X [a,b] ta)(hs:starEach [a,b] X.env=[(false,eval a X.env),(false,eval b X.env)])(hs2:starEach [b] X.env=[(false,eval b X.env)]):PI X (.Tuple elts kk tpos) (.Call (.Name "zip" p) [a,b] [] pos) (iZip X.K ta):=by
 intro pins s σ H R I h;refine Call_ (GL I hg hm boot_zip (ybh (AJ (ha pos pins s σ H _ I h) λus s1 ⟨vs,H1,I1,r1,q1⟩=>?_) (by rw[hs,hs2]) (by rw[hs2];rfl)))
 obtain⟨l1,l2,e,⟨xs,hq⟩,⟨ys,hq2⟩,q⟩:=q1;subst e;obtain⟨u,u2,rfl,ru,ru2⟩:=Fp r1;cases ru;cases ru2;obtain⟨its,rv,pl,hz⟩:=I1.list hq;obtain⟨its2,rv2,pl2,hz2⟩:=I1.list hq2;have llt:l1<s1.heap.objs.size:=by obtain⟨o,n,e,_⟩:=pl;exact ya8 e
 have llt2:l2<s1.heap.objs.size:=by obtain⟨o,n,e,_⟩:=pl2;exact ya8 e
 refine call_zip_2 pl.isList pl2.isList λh' a1 a2 a3 a4 a5 a6 hk=>?_
 have I2:Inv X pins σ H1 { s1 with heap:=h',toks:=s1.toks }:=I1.kept hk
 have D:ZipApart (s1.heap.objs.size+4) (s1.heap.objs.size+2) (s1.heap.objs.size+3) s1.heap.objs.size (s1.heap.objs.size+1) l1 l2:=by
  have n1:∀k ,l1≠s1.heap.objs.size+k:=λk z=>yav _ (yab llt (z▸Nat.le_add_right _ _))
  have n2:∀k ,l2≠s1.heap.objs.size+k:=λk z=>yav _ (yab llt2 (z▸Nat.le_add_right _ _))
  refine⟨?_,?_,?_,?_,?_,?_,?_,?_,?_,?_,n1 4,n1 3,n1 0,n1 1,n2 4,n2 3,n2 0,n2 1⟩<;>intro z<;>simp at z
 refine wpAny_pyIter_zip a1 ⟨_,[s1.heap.objs.size+4,s1.heap.objs.size+2,s1.heap.objs.size+3,s1.heap.objs.size,s1.heap.objs.size+1],_,_,H1,rfl,I2,zec _ _ _ _ _ l1 l2 D,⟨a1,a2,⟨_,_,a3⟩,a4,a5⟩,λb hb=>?_,q⟩
 have hb':s1.heap.objs.size<=b:=by
  grind
 exact I1.fpOk hb' (I1.hok.fresh hb')
end
section
variable {X:Cx}{pins:List (Addr×Obj)}{σ:L2.St}{H:Hp}{s:Shared}{a:Addr}{o:Obj}{kvs:List (Key×V)}
theorem zkv(r:KV kvs vs):kvs.length=vs.length:=yd1 (r)
end
section
variable {X:Cx}{o:Expr}{to:TE}{ap cp:Pos}{elts:List Expr}{kk:Nat}{tpos:Pos}
end
def Gi(ifs:List Expr)(env:Env):Sem Bool:=forIn ifs true λc r=>if r=true then do let ok <- isTrue c env (eval c env);pure (ForInStep.yield ok) else pure (ForInStep.yield r)
def FH(X:Cx)(ifs:List Expr)(t:TT):Prop :=
 ∀(pins:List (Addr×Obj)) (s:Shared) (σ:L2.St) (H:Hp) (Q:Bool->Hp->Prop),Inv X pins σ H s->t σ H Q->wpAny (model X.prog X.w) X.A (Gi ifs X.env) (TP X pins σ Q) X.xe s
theorem zgs:FH X [] (λ_ H Q=>Q true H):=λpins s σ H Q I h=>ydf ⟨H,I,h⟩
theorem zgr(h:PT X c t):FH X [c] t:=λpins s σ H Q I q=>by
 have e:Gi [c] X.env=(isTrue c X.env (eval c X.env) >>= λok=>pure ok):=by
  unfold Gi;simp
 rw[e];exact ydc (yda (h pins s σ H Q I q) (λb s1 h1=>ydf h1) λ_ _ z=>z)
theorem zcl:compTurn (.ListComp elt [⟨target,iter,ifs,0⟩] scope pos) 0 it acc env=(standAt iter.pos >>= λ_=>pyNext it >>= λr=>match r with
  |none=>pure (.done .next)
  |some u=>letOwnedTupleGo target it u >>= λ_=>assign target env u >>= λ_=>Gi ifs env >>= λok =>
   if ok=true then ((eval elt env >>= λx=>call (.builtin "list.append") [acc,x] >>= λ_=>pure ()) >>= λ_=>again (.compLoop (.ListComp elt [⟨target,iter,ifs,0⟩] scope pos) 0 it acc env))
   else again (.compLoop (.ListComp elt [⟨target,iter,ifs,0⟩] scope pos) 0 it acc env)):=by rfl
theorem zcm(hN:NE=notedBy (model prog w) A env λe s'=>R (.error e) s')(I:Nat->Shared->Prop)
  (hturn : ∀ n s, I n s -> wpAny (model prog w) A (pyNext it) (fun r s₁ => match r with
   |none=>R (.ok .next) s₁
   |some v=>wpAny (model prog w) A (letOwnedTupleGo target it v) (λ_ s₁'=>wpAny (model prog w) A (assign target env v) (λ_ s₂=>wpAny (model prog w) A (Gi ifs env) (λok s₂'=>if ok=true then wpAny (model prog w) A (eval elt env) (λx s₃ =>
     wpAny (model prog w) A (call (.builtin "list.append") [acc,x]) (λ_ s₄=>∃m,m<n/\I m s₄) NE s₃)
     NE s₂' else ∃m,m<n/\I m s₂') NE s₂) NE s₁') NE s₁) NE s)
  (k ) (hk:I k s):codeAny (model prog w) A (.compLoop (.ListComp elt [⟨target,iter,ifs,0⟩] scope pos) 0 it acc env) R s:=by
 subst hN;refine codeAny_loop rfl I (λn s hI=>?_) k hk
 refine wpAny_noted ?_;rw[zcl];refine ydc (yde (ydc (yda (hturn n s hI) (λr s₁ h₁=>?_) λ_ _ z=>z)))
 cases r with
 |none=>exact ydf h₁
 |some v =>
  refine ydc (yda h₁ (λ_ s₁' h₁'=>?_) λ_ _ z=>z)
  refine ydc (yda h₁' (λ_ s₂ h₂=>ydc (yda h₂ (λok s₂' h₂'=>?_) λ_ _ z=>z)) λ_ _ z=>z)
  cases ok with
  |false =>
   rw[if_neg (by decide)]at h₂' ⊢
   exact ydf ⟨rfl,h₂'⟩
  |true =>
   rw[if_pos rfl]at h₂' ⊢;exact ydc (ydc (yda h₂' (λx s₃ h₃=>ydc (yda h₃ (λ_ s₄ h₄=>ydf (ydf ⟨rfl,h₄⟩)) λ_ _ z=>z)) λ_ _ z=>z))
theorem MZ(env ):∀(names:List (Str×NameKind)),(∀y∈names,y.2=.free->∃c,env.cells.lookup y.1=some c)->∀acc ,∃cl ,
  (forIn names acc λ(x:Str×NameKind) r=>if (x.2 == NameKind.free)=true then do let a <- cellOf env x.1;pure (ForInStep.yield ((x.1,a)::r)) else pure (ForInStep.yield r))=pure cl /\
  (∀y c,cl.lookup y=some c->acc.lookup y=some c\/env.cells.lookup y=some c)/\(∀y∈names,y.2=.free->∃c,cl.lookup y.1=some c)/\∀y c,acc.lookup y=some c->∃c',cl.lookup y=some c'
 |[],_,acc=>⟨acc,rfl,λ_ _ e=>.inl e,(λ_ z=>by cases z),λ_ c e=>⟨c,e⟩⟩
 |(n,k)::r,h,acc=>by
  rw[List.forIn_cons]
  by_cases hk:k=.free
  .subst hk;obtain⟨c,hc⟩:=h (n,.free) (yac ..) rfl;have e1:cellOf env n=pure c:=by unfold cellOf;rw[hc]
   obtain⟨cl,e,h1,h2,h3⟩:=MZ env r (λy hy=>h y (ya7 _ hy)) ((n,c)::acc)
   grind
  .have hk' :=beq_eq_false_iff_ne.mpr hk;obtain⟨cl,e,h1,h2,h3⟩:=MZ env r (λy hy=>h y (ya7 _ hy)) acc
   grind
theorem zc3(scope)(env)(h:∀y∈scope.names,y.2=.free->∃c,env.cells.lookup y.1=some c):∃cl,closureFor scope env=pure cl/\(∀y c,cl.lookup y=some c->env.cells.lookup y=some c)/\∀y∈scope.names,y.2=.free->∃c,cl.lookup y.1=some c:=by
 obtain⟨cl,e,h1,h2,_⟩:=MZ env scope.names h [];refine⟨cl,?_,λy c q=>?_,h2⟩
 .have e2:closureFor scope env=(forIn scope.names [] λx r=>if (x.2 == NameKind.free)=true then do let a <- cellOf env x.1;pure (ForInStep.yield ((x.1,a)::r)) else pure (ForInStep.yield r)) >>= pure:=rfl
  grind
 grind
theorem M1:∀(names ) (h:Heap) (acc ) (y ) (c ),(cellsFrom h.objs.size names acc).lookup y=some c->acc.lookup y=some c\/(h.objs.size<=c/\(pushCells h names).IsCell c none/\(y,NameKind.cell)∈names)
 |[],h,acc,y,c,e=>.inl e
 |(n,k)::r,h,acc,y,c,e=>by
  unfold cellsFrom at e;unfold pushCells;split at e
  .rename_i hk;rw[if_pos hk];have ez:(h.push { cls:=.type "cell",data:=.cell none }).objs.size=h.objs.size+1:=ybq ..;rw[<- ez]at e
   rcases M1 r _ _ y c e with q|⟨q1,q2,q3⟩
   .rw[yb5]at q;cases hy:y == n with
    |true =>
     rw[hy]at q;cases q;have e1:y=n:=eq_of_beq hy;subst e1;exact .inr ⟨ya6 _,⟨_,ydu _ _ _ _ (yai _ rfl),rfl⟩,by rw[eq_of_beq hk];exact yac ..⟩
    |false=>rw[hy]at q;exact .inl q
   .exact .inr ⟨by rw[ez]at q1;exact yaf (yc5 _) q1,q2,ya7 _ q3⟩
  .rename_i hk;rw[if_neg hk]
   rcases M1 r h acc y c e with q|⟨q1,q2,q3⟩
   .exact .inl q
   .exact .inr ⟨q1,q2,ya7 _ q3⟩
theorem M3:∀(names) (h:Heap) (acc:List (Str×Addr)),(∀y z c,acc.lookup y=some c->acc.lookup z=some c->y=z)->(∀y c,acc.lookup y=some c->c<h.objs.size) ->
  ∀y z c,(cellsFrom h.objs.size names acc).lookup y=some c->(cellsFrom h.objs.size names acc).lookup z=some c->y=z
 |[],h,acc,hi,_=>hi
 |(n,k)::r,h,acc,hi,hl=>by
  unfold cellsFrom;split
  .have ez:(h.push { cls:=.type "cell",data:=.cell none }).objs.size=h.objs.size+1:=ybq ..;rw[<- ez];refine M3 r _ _ (λy z c h1 h2=>?_) (λy c h1=>?_)
   .grind
   grind
  .exact M3 r h acc hi hl
theorem M0:∀(names) (n lo:Nat) (acc:List (Str×Addr)) (y) (c),lo<=n->((y,NameKind.cell)∈names\/∃c0,acc.lookup y=some c0/\lo<=c0)->(cellsFrom n names acc).lookup y=some c->lo<=c
 |[],n,lo,acc,y,c,hn,h,e=>by
  rcases h with h|⟨c0,h1,h2⟩
  .cases h
  .have e':acc.lookup y=some c:=e
   grind
 |(m,k)::r,n,lo,acc,y,c,hn,h,e=>by
  unfold cellsFrom at e;split at e
  .refine M0 r (n+1) lo _ y c (Nat.le_succ_of_le hn) ?_ e
   grind
  .rename_i hk;refine M0 r n lo acc y c hn ?_ e
   grind
theorem zbe{code}
  (hQ:Q (newEnv scope s.heap.objs.size globals (cellsFrom (s.heap.objs.size+1) scope.names cl) qual func code (some outer) builtins) { s with heap:=pushCells (s.heap.push { cls:=.type "dict",data:=.dict #[] }) scope.names }) :
  wpAny M A (newFunctionEnv scope globals cl [] qual func code (some outer) builtins) Q E s:=by
 simp only[newFunctionEnv,Option.isSome_some,ydn];refine ydc (wpAny_alloc ?_);refine ydc (wpAny_layCells _ (λname kind cells=>by rfl) _ _ _ _ ?_);rw[ybq ..]
 exact ydc (ydf (ydf hQ))
abbrev A9(X:Cx)(scope:Scope)(cl:List (Str×Addr))(N':List Str)(C:Addr)(s₀:Shared)(H₀:Hp)(ex:List Addr)(xb:Value->Shared->Prop):Cx:={ zli X scope cl N' C s₀ H₀ ex with fn:=λx=>decide (scope.names.lookup x=some .cell),xe:=xb }
theorem SM{h h' B B':Heap}(k:∀b o,B.get? b=none->h.get? b=some o->(∀us,o.data≠.fields us)->B'.get? b=none/\∃o',h'.get? b=some o'/\∀us,o'.data≠.fields us):∀{l},h.FunFrames B l->h'.FunFrames B' l
 |[],_=>trivial
 |_::_,⟨x,⟨L,o,y1,y2,y3,y4⟩,r⟩=>by
  obtain⟨z1,o',z2,z3⟩:=k L o y2 y3 y4;exact⟨x,⟨L,o',y1,z1,z2,z3⟩,SM k r⟩
def Fk(X:Cx):Prop:=∃v l,X.stack=v::l/\X.env.frame=v.frame
theorem zdw{X:Cx}   {σ:L2.St}{H:Hp}        (hx:Aw X E)(hst:Fk X)(I:Inv X pins σ H s)(fC:Bz X pins H C)(hC:∃m,s.heap.Ns C m)(nC:C∉Ax X.stack)
  (hb:benv.frame=X.env.frame) (h:CO X.prog X.w X.stack H s (E σ) e s'):wpAny (model X.prog X.w) X.A (noteFrame e benv) (λ_ s2=>compPost (model X.prog X.w) X.A X.xe use QQ acc C (.error e) s2) EE s':=by
 obtain⟨v,l,st,hv⟩:=hst;obtain⟨a,cls,H',B,rfl,os,bare,un,hok,kB,tB,fl0,he⟩:=h;have fl1 :=st▸fl0
 obtain⟨L,hL⟩:∃L,v.frame=some L:=by
  obtain⟨_,_,_,⟨_,⟨L,_,y,_⟩,_⟩,_⟩:=fl1;exact⟨L,y⟩
 refine Q8 (st▸I.ok.frames) (hb.trans hv) hL fl1 λh4 held sm=>?_
 obtain⟨m,oC,es,ep,hCo,dC,rC⟩:=hC;have bC :=kB C oC hCo fC.1 nC;obtain⟨f1,f2,f3,oe,ws,Tb,oT,ts,ha,hcl,hd,g1,nT,Tne,hT,dT,g3⟩:=held
 have hne:∀{b },B.get? b=none->b≠C:=λz w=>by
  rw[w,bC]at z;cases z
 have key:∃m,h4.Ns C m/\∀h',Heap.SameBut C h4 h'->∀cenv ,cenv.locals=C->wpAny (model X.prog X.w) X.A (PySem.passOn "comprehension.variables-let-go" (.ref a) cenv:Sem Value) (λ_ _=>False) X.xe { s' with heap:=h' }:=by
  refine⟨m,⟨oC,es,ep,f1 C oC bC,dC,rC⟩,λh5 sb cenv _=>?_⟩
  have ha5 :=(sb.2 a (hne f2)).trans ha;have hT5 :=(sb.2 Tb (hne nT)).trans hT;unfold PySem.passOn;refine ydc (ydr ha5 hd g1 ?_);rw[if_neg (by simp)]
  refine ydc ?_;unfold setFlight;refine ydc (ydr ha5 hd g1 ?_);rw[if_pos (by simp)]
  refine ydq hT5 dT (yb7.mp g3).1 (wpAny_throw ?_);generalize hfl:(cenv.frame.elim Value.none λf=>rawInt f)=fl
  have dT6:=ycc dT (·.setIfInBounds 3 fl);have hT6:=ycq (Obj.mapFields (·.setIfInBounds 3 fl)) hT5 (ycr dT6);generalize hh6:h5.update Tb (Obj.mapFields (·.setIfInBounds 3 fl))=h6 at hT6 ⊢
  have to6:∀b o,b≠C->b≠Tb->h4.get? b=some o->h6.get? b=some o:=λb o n1 n2 e=>by
   rw[<- hh6,yb1 _ _ (yah n2)];exact(sb.2 b n1).trans e
  have B6 :=λb o n e=>to6 b o n (λz=>by rw[z,nT]at e;cases e) (f1 b o e)
  have hid:∀{b } {o },(PySem.W.hideAll s.heap [C]).get? b=some o->s.heap.get? b=some o/\b≠C:=λ{b o} e=>⟨ybu _ e,λz=>by
   rw[z,yct [C] (yae.mpr rfl)]at e;cases e⟩
  have hidB:∀{b } {o },b≠C->B.get? b=some o->(PySem.W.hideAll B [C]).get? b=some o:=λ{b o} n e=>ybe _ e (λz=>n (yae.mp z))
  have hidN:∀{b },B.get? b=none->(PySem.W.hideAll B [C]).get? b=none:=λ{b} e=>by
   cases q:(PySem.W.hideAll B [C]).get? b with
   |none=>rfl
   |some o =>
    rw[ybu _ q]at e;cases e
  have IX :=Gg (t':=s.toks) I (λb o n e=>ybe _ e n) λb z=>by
   rw[yae.mp z];exact fC
  have slot:∀b o,s.heap.get? b=some o->H b=none->b∈Ax X.stack->∃z,h6.get? b=some { o with slots:=z }:=λb o e n z=>by
   obtain⟨_,o2,ho2,d2⟩:=I.stack.mem z;rw[e]at ho2;cases ho2;obtain⟨z2,e2⟩:=un.slot b o e n z (by simp)
   obtain⟨z3,e3⟩:=sm b _ e2 d2;refine⟨z3,to6 b _ (λw=>nC (w▸z)) (λw=>?_) e3⟩
   rw[w,hT]at e3;cases e3;exact d2 _ dT
  have HC :=un.free C oC hCo fC.1 (by simp)
  refine hx pins σ H _ _ _ IX ⟨a,cls,H',PySem.W.hideAll B [C],rfl,os,bare,⟨λb o e n z _=>?_,λb o e n z _=>slot b o (hid e).1 n z,λb o e n z=>un.free b o (hid e).1 n z,λb o e _=>?_,un.tups,un.frzs,un.tbls⟩,?_,λb o e n z=>hidB (hid e).2 (kB b o (hid e).1 n z),λb o e z=>?_,⟨fl,λb o e=>?_,hidN f2,?_,?_⟩,he⟩
  .exact B6 b o (hid e).2 (kB b o (hid e).1 n z)
  .by_cases z:b∈Ax X.stack
   .obtain⟨w,q⟩:=slot b o (hid e).1 (I.stkFree b z) z;exact⟨_,q⟩
   .obtain⟨o',q⟩:=tB b o (hid e).1 z;exact⟨o',B6 b o' (hid e).2 q⟩
  .intro b u e;refine(hok b u e).stay (λc x hc q=>hidB (λw=>?_) q) (λ_ q=>q) λ_ _ q=>q
   rcases hc with y|y
   .rw[<- y,w,HC]at e;cases e
   .rw[w,HC]at y;cases y
  .obtain⟨o',q⟩:=tB b o (hid e).1 z;exact⟨o',hidB (hid e).2 q⟩
  .have e':=ybu _ e;refine B6 b o (λw=>?_) e'
   rw[w,yct [C] (yae.mpr rfl)]at e;cases e
  .rw[st];refine SM (λb o n e d=>⟨hidN n,o,to6 b o (hne n) (λw=>?_) e,d⟩) f3
   rw[w,hT]at e;cases e;exact d _ dT
  .refine⟨oe,ws,Tb,_,_,?_,hcl,hd,g1,hidN nT,Tne,hT6,dT6,?_⟩
   .rw[<- hh6,yb1 _ _ Tne];exact ha5
   .simp[Array.getElem?_setIfInBounds,(yb7.mp g3).1]
 cases use<;>exact key
structure TurnG(cq:Cx->Prop)(P:Program)(w:World)(K:k7)(tg:Expr)(J:It)(fp:List Addr)(it:Addr)(tn:Nat->Heap->Prop):Prop where
 obj:∀i h,tn i h->∀b∈fp,∃o,h.get? b=some o/\∀v,o.data≠.cell v
 keep:∀i h h',tn i h->(∀b∈fp,∀o,h.get? b=some o->h'.get? b=some o)->tn i h'
 item:∀(X:Cx),X.prog=P->X.w=w->X.K=K->cq X->∀(i:Nat) (pins:List (Addr×Obj)) (s:Shared) (σ:L2.St) (H:Hp) (E:Value->Shared->Prop),Inv X pins σ H s->(∀b∈fp,Bz X pins H b)->tn i s.heap->J.go i H ->
  wpAny (model P w) X.A (pyNext (.ref it)) (λr s1=>∃u,r=some u/\wpAny (model P w) X.A (letOwnedTupleGo tg (.ref it) u) (λ_ s2=>∃x H',Inv X pins σ H' s2/\AN x u/\J.yld i H x H'/\tn (i+1) s2.heap/\∀b∈fp,H' b=none) E s1) E s
 done:∀(X:Cx),X.prog=P->X.w=w->X.K=K->cq X->∀(i:Nat) (pins:List (Addr×Obj)) (s:Shared) (σ:L2.St) (H:Hp) (E:Value->Shared->Prop),Inv X pins σ H s->(∀b∈fp,Bz X pins H b)->tn i s.heap->J.stop i H ->
  wpAny (model P w) X.A (pyNext (.ref it)) (λr s1=>r=none/\Inv X pins σ H s1) E s
 self:∀(A:Around) (i:Nat) (s:Shared) (Q:Value->Shared->Prop) (E:Value->Shared->Prop),tn i s.heap->Q (.ref it) s->wpAny (model P w) A (pyIter (.ref it)) Q E s
def PJ(cq:Cx->Prop)(X:Cx)(tg iter:Expr)(wi:TI):Prop :=
 ∀(pins:List (Addr×Obj)) (s:Shared) (σ:L2.St) (H:Hp) (R:It->Hp->Prop),Inv X pins σ H s->wi σ H R ->
  wpAny (model X.prog X.w) X.A (eval iter X.env) (λv s1=>wpAny (model X.prog X.w) X.A (pyIter v) (λitv s2=>∃(it:Addr) (fp:List Addr) (tn:Nat->Heap->Prop) (J:It) (H':Hp),itv=.ref it/\Inv X pins σ H' s2/\TurnG cq X.prog X.w X.K tg J fp it tn/\tn 0 s2.heap/\(∀b∈fp,Bz X pins H' b)/\R J H') X.xe s1) X.xe s
theorem P0(h:PI X tg iter wi):PJ (λX=>X.calm=true) X tg iter wi:=λpins s σ H R I q =>
 AJ (h pins s σ H R I q) λ_ _ h1=>AJ h1 λ_ _ ⟨it,fp,tn,J,H',e,I2,T,r⟩=>⟨it,fp,tn,J,H',e,I2,⟨T.obj,T.keep,T.item,T.done,T.self⟩,r⟩
section
variable {X:Cx}{elt iter tg:Expr}{ifs:List Expr}{scope:Scope}{pos pos2:Pos}{cl:List (Str×Addr)}{N':List Str}{wi:TI}{g:TG}{tt:TT}{te:TE}
def IV(σ':L2.St->L2.St)(wi:TI)(g:TG)(tt:TT)(te:TE):TE:=λσ H Q=>wi σ H λJ H1=>∃(W:Nat->List V->L2.St->Hp->Prop) (n:Nat),n<=sizeLine/\W 0 [] (σ' σ) H1/\∀i ys τ H,W i ys τ H->ys.length<=i/\i<=n /\
 ((J.stop i H/\∀p,H p=none->Q (.ref p) (upd H p (.lst ys)))\/(i<n/\J.go i H/\∀x H',J.yld i H x H'->g x τ H' λτ2 H2=>tt τ2 H2 λk H3=>if k=true then te τ2 H3 λy H4=>W (i+1) (ys++[y]) τ2 H4 else W (i+1) ys τ2 H3))
theorem RG(σ':L2.St->L2.St)(hclos:closureFor scope X.env=pure cl)(hkind:scope.kind=.function)(hnames:∀y∈scope.names,y.2=.local->scope.names.lookup y.1=some .local)
  (hcl:∀y c,cl.lookup y=some c->X.env.cells.lookup y=some c) (hhas:∀y,(relabel scope X.env).names.lookup y=some .cell\/(relabel scope X.env).names.lookup y=some .free->(y,NameKind.cell)∈scope.names\/∃c,cl.lookup y=some c) (hcap:∀(σ:L2.St) (i:Nat) (y:Str) (v:V),N'[i]?=some y->(σ' σ)[i]?=some (some v)->(y,NameKind.cell)∉scope.names)
  (hσ:∀σ:L2.St,σ.length=X.N.length->(σ' σ).length=N'.length)
  (hvis:∀(σ:L2.St) (i:Nat) (y:Str) (v:V),N'[i]?=some y->(σ' σ)[i]?=some (some v)->((relabel scope X.env).names.lookup y=some .cell\/(relabel scope X.env).names.lookup y=some .free)/\∃j:Nat,X.N[j]?=some y/\σ[j]?=some (some v)/\Bs X.env.scope y/\X.env.kindOf y≠some .local)
  {cq:Cx->Prop} (hc:∀pins σ H s cl C ex xb,Inv X pins σ H s->cq (A9 X scope cl N' C s H ex xb)) (hi:PJ cq X tg iter wi) {E:L2.St->XK} (hps:Aw X E) (hst:Fk X) {σ:L2.St} (hg:∀cl C s₀ H₀ ex xb,Aw (A9 X scope cl N' C s₀ H₀ ex xb) (λ_=>E σ)->PG (A9 X scope cl N' C s₀ H₀ ex xb) tg g) (ht:∀cl C s₀ H₀ ex xb,Aw (A9 X scope cl N' C s₀ H₀ ex xb) (λ_=>E σ)->FH (A9 X scope cl N' C s₀ H₀ ex xb) ifs tt) (he:∀cl C s₀ H₀ ex xb,Aw (A9 X scope cl N' C s₀ H₀ ex xb) (λ_=>E σ)->PE (A9 X scope cl N' C s₀ H₀ ex xb) elt te)
  (hs:∀x,foldedSetIterable iter X.env x=pure x) {use:Option (Value->Sem Unit)} {pins:List (Addr×Obj)} {s:Shared} {H:Hp} {Q:VK} {QQ:Value->Shared->Prop} (I:Inv X pins σ H s) (h:IV σ' wi g tt te σ H Q)
  (hend:∀(D C:Addr) (s5:Shared) (H5:Hp),Inv X pins σ H5 s5->Q (.ref D) H5->(∃m,s5.heap.Ns C m)->Bz X pins H5 C->compPost (model X.prog X.w) X.A X.xe use QQ (.ref D) C (.ok .next) s5) :
  wpAny (model X.prog X.w) X.A (comprehension (.ListComp elt [⟨tg,iter,ifs,0⟩] scope pos) scope X.env pos2 (newList []) false (eval iter X.env) use) QQ X.xe s:=by
 refine wpAny_comprehension_free (use:=use) rfl hs hclos hkind hnames (AJ (hi pins s σ H _ I h) λv s1 h1=>AJ h1 λitv s2 h2=>?_)
 obtain⟨it,fp,tn,J,H2,e,I2,T,st2,f2,W,n,hn,w0,turn⟩:=h2;subst e;refine wpAny_newObj_type (zbe ?_);dsimp only;generalize hHp:s2.heap.push { cls:=.type "list",dict:=none,data:=.seq ([]:List Value).toArray }=P2;generalize hcl':cellsFrom (P2.objs.size+1) scope.names cl=cl';generalize hh1:pushCells (P2.push { cls:=.type "dict",data:=.dict #[] }) scope.names=h₁;have hC:P2.objs.size=s2.heap.objs.size+1:=by rw[<- hHp,ybq]
 have hP3:(P2.push { cls:=.type "dict",data:=.dict #[] }).objs.size=P2.objs.size+1:=ybq ..;have hDC:s2.heap.objs.size≠P2.objs.size:=by rw[hC];exact yaj (ycn _)
 have below:∀b,b<s2.heap.objs.size->b≠P2.objs.size/\b≠s2.heap.objs.size:=λb hb=>⟨by rw[hC];exact yaj (yc1 hb),yaj hb⟩
 have old:∀b o,s2.heap.get? b=some o->h₁.get? b=some o:=λb o e=>by
  rw[<- hh1];exact ydu _ _ _ _ (ya4 _ (hHp▸ya4 _ e))
 have hacc:h₁.PlainList s2.heap.objs.size #[]:=⟨_,by
  rw[<- hh1];exact ydu _ _ _ _ (ya4 _ (hHp▸yai _ rfl))⟩
 have hns₁:h₁.Ns P2.objs.size (λ_=>none):=by
  rw[<- hh1];exact(Heap.Ns.new P2 (.type "dict")).keeps (ydu _ _)
 have cells:∀y c,cl'.lookup y=some c->X.env.cells.lookup y=some c\/(P2.objs.size<c/\h₁.IsCell c none/\(y,NameKind.cell)∈scope.names):=λy c e=>by
  rw[<- hcl',<- hP3]at e
  rcases M1 _ _ _ y c e with q|⟨q1,q2,q3⟩
  .exact .inl (hcl y c q)
  .rw[hP3]at q1;rw[hh1]at q2;exact .inr ⟨q1,q2,q3⟩
 have has':∀y,(y,NameKind.cell)∈scope.names\/(∃c,cl.lookup y=some c)->∃c,cl'.lookup y=some c:=λy hy=>by
  rw[<- hcl']
  have go:∀(names:List (Str×NameKind)) (n:Nat) (acc:List (Str×Addr)),((y,NameKind.cell)∈names\/∃c,acc.lookup y=some c)->∃c,(cellsFrom n names acc).lookup y=some c:=by
   intro names
   induction names with
   |nil =>
    intro n acc h
    rcases h with h|h
    .cases h
    .exact h
   |cons x r ih =>
    obtain⟨m,k⟩:=x;intro n acc h;unfold cellsFrom;split
    .refine ih _ _ ?_
     by_cases hm:y=m
     .subst hm;exact .inr ⟨n,by simp⟩
     .rcases h with h|⟨c,h⟩
      .rcases yak.mp h with z|z
       .cases z;exact absurd rfl hm
       .exact .inl z
      .exact .inr ⟨c,by rw[yb5,beq_eq_false_iff_ne.mpr hm];exact h⟩
    .rename_i hk;refine ih _ _ ?_
     rcases h with h|h
     .rcases yak.mp h with z|z
      .cases z;exact absurd rfl hk
      .exact .inl z
     .exact .inr h
  exact go _ _ _ hy
 have fsub:∀b∈Ax X.stack,b∈X.env.locals::X.fs:=I2.stkSub
 have fpfs:∀b∈fp,b∉Ax X.stack:=λb hb z=>by
  obtain⟨_,h2,h3,_⟩:=f2 b hb
  rcases yak.mp (fsub b z) with q|q
  .exact h2 q
  .exact h3 q
 have fpold:∀b∈fp,b<s2.heap.objs.size:=λb hb=>by
  obtain⟨o,e,_⟩:=T.obj 0 _ st2 b hb;exact ya8 e
 have cold:∀y c,cl'.lookup y=some c->c<s2.heap.objs.size\/P2.objs.size<c:=λy c e=>by
  rcases cells y c e with q|q
  .obtain⟨v,z⟩:=I2.cell y c q;exact .inl z.lt
  .exact .inr q.1
 have cneD:∀y c,cl'.lookup y=some c->c≠s2.heap.objs.size:=λy c e z=>by
  rcases cold y c e with q|q
  .rw[z]at q;exact yav _ q
  .rw[z,hC]at q;exact absurd q (Nat.not_lt.mpr (yc5 _))
 have cneF:∀b,b<s2.heap.objs.size->(∀y c,X.env.cells.lookup y=some c->c≠b)->∀y c,cl'.lookup y=some c->c≠b:=λb hb hx y c e z=>by
  rcases cells y c e with q|q
  .exact hx y c q z
  .have:=q.1;rw[z,hC]at this;exact absurd (ycs hb (Nat.lt_of_succ_lt this)) (yav _)
 have fresh2:∀b,s2.heap.objs.size<=b->H2 b=none:=λb hb=>I2.hok.fresh hb
 have CS:s2.heap.objs.size<=P2.objs.size:=by rw[hC];exact yc5 _
 obtain⟨xb,hxb⟩:∃xb,xb=notedBy (model X.prog X.w) X.A (compEnvC scope cl' P2.objs.size X.env) λe s'=>compPost (model X.prog X.w) X.A X.xe use QQ (.ref s2.heap.objs.size) P2.objs.size (.error e) s':=⟨_,rfl⟩
 have hpb:Aw (A9 X scope cl' N' P2.objs.size s2 H2 fp xb) (λ_=>E σ):=by
  subst hxb;intro pins4 σ4 H4 s4 e s' I4 hcx
  have IX:Inv X pins σ H4 s4:=I2.call' (s':=s4) (ch:=fp) I4.os I4.base I4.hok I4.bare λb hb=>by
   obtain⟨g1,g2,g3,g4,g5,g6⟩:=f2 b hb;exact⟨g4,g2,g5,g6⟩
  obtain⟨m4,hm4,_⟩:=I4.loc
  exact zdw hps hst IX ⟨I4.free,(I2.fpOk (H':=H2) CS (fresh2 _ CS)).2⟩ ⟨m4,hm4⟩ (λz=>by
   obtain⟨o,ho,_⟩:=(I2.stack.mem z).2;exact absurd (ya8 ho) (Nat.not_lt.mpr CS)) rfl hcx
 have ok':(A9 X scope cl' N' P2.objs.size s2 H2 fp xb).Ok:=by
  refine⟨I2.ok.mod,hkind,I2.ok.glob,I2.ok.blt,CS,?inj,λy hy=>has' y (hhas y hy),?cab,I2.ok.hd,I2.ok.frames,.inl rfl,λb hb=>⟨(below b (fpold b hb)).1,cneF b (fpold b hb) λy c e=>(f2 b hb).2.2.2.2.1 y c e⟩,
   λb o e=>I2.bs b o e,yaf I2.ok.bsz I2.sz,λb o e hb=>?_,λb hb=>fpfs b hb,I2.stack,I2.stkFree⟩
  case inj =>
   intro y z c h1 h2;have h1':(cellsFrom (P2.push { cls:=.type "dict",data:=.dict #[] }).objs.size scope.names cl).lookup y=some c:=by rw[hP3,hcl'];exact h1
   have h2':(cellsFrom (P2.push { cls:=.type "dict",data:=.dict #[] }).objs.size scope.names cl).lookup z=some c:=by rw[hP3,hcl'];exact h2
   refine M3 scope.names _ cl (λy z c g1 g2=>I2.ok.inj y z c (hcl y c g1) (hcl z c g2)) (λy c g=>?_) y z c h1' h2'
   obtain⟨v,q⟩:=I2.cell y c (hcl y c g);rw[hP3,hC];exact yc1 (yc1 q.lt)
  case cab =>
   intro y c hy e;have hy':scope.names.lookup y=some .cell:=ydv hy;have e':(cellsFrom (P2.objs.size+1) scope.names cl).lookup y=some c:=by rw[hcl'];exact e
   exact yaf CS (yaf (yc5 _) (M0 scope.names _ (P2.objs.size+1) cl y c (ya6 _) (.inl (yb6 hy')) e'))
  .obtain⟨_,_,_,q,_⟩:=f2 b hb
   rcases q with q|q
   .exact I2.ok.noex b o e q
   .exact absurd (yab (ya8 e) (yaf I2.ok.bsz q)) (yav _)
 have I':Inv (A9 X scope cl' N' P2.objs.size s2 H2 fp xb) pins (σ' σ) H2 { s2 with heap:=h₁ }:=by
  refine⟨ok',rfl,I2.bare,Un.kept old,⟨_,hns₁,λi y v h1 h2 h3=>?_⟩,λy c e=>?_,fresh2 _ CS,?fc,λp hp=>?_,I2.hok.kept old,hσ σ I2.len⟩
  case fc =>
   intro y c e
   rcases cells y c e with q|q
   .exact I2.freeC y c q
   .exact fresh2 c (yaf CS (ycu q.1))
  .obtain⟨hk,j,h4,h5,h6,h7⟩:=hvis σ i y v h1 h2;have hno:=hcap σ i y v h1 h2;obtain⟨m,hn',hl⟩:=I2.loc;obtain⟨u,r,l⟩:=hl j y v h4 h5 h6;obtain⟨c,hcc⟩:=has' y (hhas y hk);refine⟨u,r,.inr ⟨hk,c,hcc,?_⟩⟩
   rcases l with ⟨k1,_⟩|⟨_,c',e',z⟩
   .exact absurd k1 h7
   .rcases cells y c hcc with w|w
    .rw[w]at e';cases e';obtain⟨o,ho,hd⟩:=z;exact⟨o,old _ _ ho,hd⟩
    .exact absurd w.2.2 hno
  .rcases cells y c e with w|w
   .obtain⟨v,o,ho,hd⟩:=I2.cell y c w;exact⟨v,o,old _ _ ho,hd⟩
   .exact⟨none,w.2.1⟩
  .obtain⟨e1,e2,e3,e4,e5⟩:=I2.pin p hp;refine⟨old _ _ e1,e2,(below _ (ya8 e1)).1,λz=>?_,e5⟩
   rcases yak.mp (fsub _ z) with q|q
   .exact e3 q
   .exact e4 q
 have stat:∀{H':Hp},(∀b∈fp,H' b=none)->∀b∈fp,Bz (A9 X scope cl' N' P2.objs.size s2 H2 fp xb) pins H' b:=λhn' b hb =>
  ⟨hn' b hb,(below b (fpold b hb)).1,fpfs b hb,.inl hb,cneF b (fpold b hb) λy c e=>(f2 b hb).2.2.2.2.1 y c e,(f2 b hb).2.2.2.2.2⟩
 have Dok:∀{H':Hp},H' s2.heap.objs.size=none->Bz (A9 X scope cl' N' P2.objs.size s2 H2 fp xb) pins H' s2.heap.objs.size:=λhn' =>
  ⟨hn',hDC,(λz=>by
   obtain⟨o,ho,_⟩:=(I2.stack.mem z).2;exact absurd (ya8 ho) (yav _)),.inr (ya6 _),cneD,λp hp z=>absurd (ya8 (I2.pin p hp).1) (by rw[z];exact yav _)⟩
 have loop:∀s3:Shared,s3={ s2 with heap:=h₁ } ->
   codeAny (model X.prog X.w) X.A (.compLoop (.ListComp elt [⟨tg,iter,ifs,0⟩] scope pos) 0 (.ref it) (.ref s2.heap.objs.size) (compEnvC scope cl' P2.objs.size X.env))
    (compPost (model X.prog X.w) X.A X.xe use QQ (.ref s2.heap.objs.size) P2.objs.size) s3:=by
  rintro s3 rfl
  refine zcm hxb (λm s'=>∃i ys τ H',m=n - i/\Inv (A9 X scope cl' N' P2.objs.size s2 H2 fp xb) pins τ H' s'/\tn i s'.heap/\(∀b∈fp,H' b=none)/\H' s2.heap.objs.size=none/\(∃its:List Value,AK ys its/\s'.heap.PlainList s2.heap.objs.size its.toArray)/\W i ys τ H')
   ?_ n ⟨0,[],σ' σ,H2,rfl,I',T.keep _ _ _ st2 λb _ o e=>old b o e,λb hb=>(f2 b hb).1,fresh2 _ (ya6 _),⟨[],.nil,hacc⟩,w0⟩
  rintro m s4 ⟨i,ys,τ,H4,rfl,I4,st4,fr4,hD4,⟨its,rv,hpl⟩,w4⟩;obtain⟨hly,hin,c⟩:=turn i ys τ H4 w4
  have statp:∀{H':Hp},(∀b∈fp,H' b=none)->∀b∈fp,Bz (A9 X scope cl' N' P2.objs.size s2 H2 fp xb) (pins++FX [s2.heap.objs.size] s4.heap) H' b:=λ{H'} fr' b hb=>by
    obtain⟨g1,g2,g3,g4,g5,g6⟩:=stat fr' b hb;refine⟨g1,g2,g3,g4,g5,λp hp z=>?_⟩
    rcases yb3.mp hp with y|y
    .exact g6 p (ybo _ y) z
    .rcases yb3.mp y with y|y
     .exact g6 p (yag _ y) z
     .obtain⟨hb',_⟩:=Pm y;rw[z,yae]at hb';exact absurd (fpold b hb) (by rw[hb'];exact yav _)
  rcases c with ⟨stop,q⟩|⟨hlt,go,step⟩
  .obtain⟨k,hDo⟩:=hpl;have I4p:=I4.pinned (fp:=[s2.heap.objs.size]) (λb hb=>by rw[yae.mp hb];exact Dok hD4) (λb hb=>by rw[yae.mp hb];exact⟨_,hDo,λv z=>(by cases z)⟩)
   refine AJ (T.done (A9 X scope cl' N' P2.objs.size s2 H2 fp xb) rfl rfl rfl (hc _ _ _ _ _ _ _ _ I2) i _ s4 τ H4 _ I4p (statp fr4) st4 stop) λr s5 ⟨hr,I5⟩=>?_
   subst hr;have hD5 :=(I5.pin (s2.heap.objs.size,_) (yag _ (yag _ (FZ (yae.mpr rfl) hDo)))).1;obtain⟨m5,hn5,_⟩:=I5.loc;have fC:H4 P2.objs.size=none:=I5.free
   have U5:Un (Ax X.stack) fp H2 (upd H4 s2.heap.objs.size (.lst ys)) s2.heap s5.heap:=by
    have B:=I5.base;refine⟨λb o e1 e2 e3 e4=>B.keep b o e1 e2 e3 e4,λb o e1 e2 e3 e4=>B.slot b o e1 e2 e3 e4,λb o e1 e2 e4=>?_,λb o e1 e4=>B.there b o e1 e4,λb xs e1=>?_,λb o u e1=>?_,λb ps e1=>?_⟩
    .rw[AZ (below b (ya8 e1)).2];exact B.free b o e1 e2 e4
    .have q':=B.tups b xs e1;rw[AZ (Bt q' hD4)];exact q'
    .have q':=B.frzs b o u e1;rw[AZ (Bt q' hD4)];exact q'
    .obtain⟨more,q'⟩:=B.tbls b ps e1;exact⟨more,by rw[AZ (Bt q' hD4)];exact q'⟩
   have hzy:ys.length<=sizeLine:=yaf hly (yaf hin hn);have HK:HOk X.prog X.w (upd H4 s2.heap.objs.size (.lst ys)) s5.heap:=Zw.HOk.adopt I5.hok hD4 ⟨hzy,its,k,rv,hD5⟩;have os5:s5.os=s2.os:=I5.os
   have IX:Inv X pins σ (upd H4 s2.heap.objs.size (.lst ys)) s5:=I2.call' (s':=s5) (ch:=fp) os5 U5 HK I5.bare (λb hb=>by
    obtain⟨g1,g2,g3,g4,g5,g6⟩:=f2 b hb;exact⟨g4,g2,g5,g6⟩)
   refine hend s2.heap.objs.size P2.objs.size s5 _ IX (q _ hD4) ⟨m5,hn5⟩ ?_;have CL:s2.heap.objs.size<=P2.objs.size:=CS;have fp0:Bz X pins H2 P2.objs.size:=I2.fpOk CS (fresh2 _ CS);exact⟨by rw[AZ (yah hDC)];exact fC,fp0.2⟩
  .obtain⟨k,hDo⟩:=hpl;have I4p:=I4.pinned (fp:=[s2.heap.objs.size]) (λb hb=>by rw[yae.mp hb];exact Dok hD4) (λb hb=>by rw[yae.mp hb];exact⟨_,hDo,λv z=>(by cases z)⟩)
   refine AJ (T.item (A9 X scope cl' N' P2.objs.size s2 H2 fp xb) rfl rfl rfl (hc _ _ _ _ _ _ _ _ I2) i _ s4 τ H4 _ I4p (statp fr4) st4 go) λr s5 ⟨u,hr,h5⟩=>?_
   subst hr;refine AJ h5 λ_ s6 ⟨x,H6,I6,r6,y6,st6,fr6⟩=>?_
   have I6':=I6.pinned (statp fr6) (T.obj _ _ st6);refine AJ (hg _ _ _ _ _ _ hpb _ s6 τ H6 x u _ I6' r6 (step x H6 y6)) λ_ s7 ⟨τ7,H7,I7,q7⟩=>?_
   refine AJ (ht _ _ _ _ _ _ hpb _ s7 τ7 H7 _ I7 q7) λok s7b ⟨H7b,I7b,q7b⟩=>?_
   have Ah:∀{H8:Hp} {s8:Shared} {τ8:L2.St},Inv (A9 X scope cl' N' P2.objs.size s2 H2 fp xb) (pins++FX [s2.heap.objs.size] s4.heap++FX fp s6.heap) τ8 H8 s8->∀h9:Heap,(∀b o,b≠s2.heap.objs.size->s8.heap.get? b=some o->h9.get? b=some o)->tn (i+1) h9/\∀b∈fp,H8 b=none:=λ{H8 s8 τ8} I8 h9 sb=>by
    refine⟨T.keep _ _ _ st6 λb hb o e=>?_,λb hb=>?_⟩
    .exact sb b o (below b (fpold b hb)).2 (I8.pin (b,o) (yag _ (yag _ (FZ hb e)))).1
    .obtain⟨o,e,d⟩:=T.obj _ _ st6 b hb;exact(I8.pin (b,o) (yag _ (yag _ (FZ hb e)))).2.1
   cases ok with
   |false =>
    rw[if_neg (by decide)]at q7b ⊢
    have hD8:=I7b.pin (s2.heap.objs.size,_) (yag _ (ybo _ (yag _ (FZ (yae.mpr rfl) hDo))));obtain⟨t9,f9⟩:=Ah I7b s7b.heap λb o _ e=>e
    exact⟨n - (i+1),by omega,i+1,ys,τ7,H7b,rfl,I7b.unpinned.unpinned,t9,f9,hD8.2.1,⟨its,rv,k,hD8.1⟩,q7b⟩
   |true =>
    rw[if_pos rfl]at q7b ⊢;refine AJ (he _ _ _ _ _ _ hpb _ s7b τ7 H7b _ I7b q7b) λuy s8 ⟨y,H8,I8,ry,w8⟩=>?_
    have hD8:=I8.pin (s2.heap.objs.size,_) (yag _ (ybo _ (yag _ (FZ (yae.mpr rfl) hDo))));have P8:s8.heap.PlainList s2.heap.objs.size its.toArray:=⟨k,hD8.1⟩;have hlen:=rv.length;refine wpAny_list_append_plain P8 (λh' pl' sb=>?_) (by rw[yay,<- hlen];omega)
    have I8u :=I8.unpinned.unpinned;obtain⟨d1,d2,d3,d4,d5,d6⟩:=Dok hD8.2.1;have I9 :=I8u.turned (t':=s8.toks) (λb o hb e=>(sb.2 b hb).trans e) d1 d2 d4 d5 d6
    obtain⟨t9,f9⟩:=Ah I8 h' λb o hb e=>(sb.2 b hb).trans e
    exact⟨n - (i+1),by omega,i+1,ys++[y],τ7,H8,rfl,I9,t9,f9,hD8.2.1,⟨its++[uy],rv.append (.cons ry .nil),by simpa using pl'⟩,w8⟩
 refine codeAny_compStart_list (loop _ rfl) (T.self _ 0 _ _ _ (T.keep _ _ _ st2 λb _ o e=>old b o e) (loop _ rfl))
theorem zks(σ' )(hclos:closureFor scope X.env=pure cl)(hkind:scope.kind=.function)(hnames:∀y∈scope.names,y.2=.local->scope.names.lookup y.1=some .local)
    (hcl:∀y c,cl.lookup y=some c->X.env.cells.lookup y=some c) (hhas:∀y,(relabel scope X.env).names.lookup y=some .cell\/(relabel scope X.env).names.lookup y=some .free->(y,NameKind.cell)∈scope.names\/∃c,cl.lookup y=some c) (hcap:∀(σ:L2.St) (i:Nat) (y:Str) (v:V),N'[i]?=some y->(σ' σ)[i]?=some (some v)->(y,NameKind.cell)∉scope.names)
    (hσ:∀σ:L2.St,σ.length=X.N.length->(σ' σ).length=N'.length)
    (hvis:∀(σ:L2.St) (i:Nat) (y:Str) (v:V),N'[i]?=some y->(σ' σ)[i]?=some (some v)->((relabel scope X.env).names.lookup y=some .cell\/(relabel scope X.env).names.lookup y=some .free)/\∃j:Nat,X.N[j]?=some y/\σ[j]?=some (some v)/\Bs X.env.scope y/\X.env.kindOf y≠some .local)
     (hc:∀pins σ H s cl C ex xb,Inv X pins σ H s->cq (A9 X scope cl N' C s H ex xb)) (hi:PJ cq X tg iter wi)  (hps:Aw X E) (hst:Fk X) {σ:L2.St} (hg:∀cl C s₀ H₀ ex xb,Aw (A9 X scope cl N' C s₀ H₀ ex xb) (λ_=>E σ)->PG (A9 X scope cl N' C s₀ H₀ ex xb) tg g) (ht:∀cl C s₀ H₀ ex xb,Aw (A9 X scope cl N' C s₀ H₀ ex xb) (λ_=>E σ)->FH (A9 X scope cl N' C s₀ H₀ ex xb) ifs tt) (he:∀cl C s₀ H₀ ex xb,Aw (A9 X scope cl N' C s₀ H₀ ex xb) (λ_=>E σ)->PE (A9 X scope cl N' C s₀ H₀ ex xb) elt te)
    (hs:∀x,foldedSetIterable iter X.env x=pure x)   {H:Hp} {Q:VK} (I:Inv X pins σ H s) (h:IV σ' wi g tt te σ H Q) :
    wpAny (model X.prog X.w) X.A (eval (.ListComp elt [⟨tg,iter,ifs,0⟩] scope pos) X.env) (EP X pins σ Q) X.xe s:=by
  refine RG σ' hclos hkind hnames hcl hhas hcap hσ hvis hc hi hps hst hg ht he hs I h λD C s5 H5 I5 q5 ⟨m,hm⟩ f=>⟨m,hm,λh' sb=>?_⟩
  exact⟨.ref D,H5,Gg (ch:=[C]) I5 (λb o hb e=>(sb.2 b (λz=>hb (by simp[z]))).trans e) (λb hb=>by grind),rfl,q5⟩
theorem zkt(σ' )(hclos:closureFor scope X.env=pure cl)(hkind:scope.kind=.function)(hnames:∀y∈scope.names,y.2=.local->scope.names.lookup y.1=some .local)
  (hcl:∀y c,cl.lookup y=some c->X.env.cells.lookup y=some c) (hhas:∀y,(relabel scope X.env).names.lookup y=some .cell\/(relabel scope X.env).names.lookup y=some .free->(y,NameKind.cell)∈scope.names\/∃c,cl.lookup y=some c) (hcap:∀(σ:L2.St) (i:Nat) (y:Str) (v:V),N'[i]?=some y->(σ' σ)[i]?=some (some v)->(y,NameKind.cell)∉scope.names)
  (hσ:∀σ:L2.St,σ.length=X.N.length->(σ' σ).length=N'.length)
  (hvis:∀(σ:L2.St) (i:Nat) (y:Str) (v:V),N'[i]?=some y->(σ' σ)[i]?=some (some v)->((relabel scope X.env).names.lookup y=some .cell\/(relabel scope X.env).names.lookup y=some .free)/\∃j:Nat,X.N[j]?=some y/\σ[j]?=some (some v)/\Bs X.env.scope y/\X.env.kindOf y≠some .local)
  (hc:X.calm=true) (hi:PI X tg iter wi)  (hps:Aw X E) (hst:Fk X)  (hg:∀cl C s₀ H₀ ex xb,Aw (A9 X scope cl N' C s₀ H₀ ex xb) (λ_=>E σ)->PG (A9 X scope cl N' C s₀ H₀ ex xb) tg g) (ht:∀cl C s₀ H₀ ex xb,Aw (A9 X scope cl N' C s₀ H₀ ex xb) (λ_=>E σ)->FH (A9 X scope cl N' C s₀ H₀ ex xb) ifs tt) (he:∀cl C s₀ H₀ ex xb,Aw (A9 X scope cl N' C s₀ H₀ ex xb) (λ_=>E σ)->PE (A9 X scope cl N' C s₀ H₀ ex xb) elt te)
  (hs:∀x,foldedSetIterable iter X.env x=pure x)   {H:Hp} {D:Ends} {i:Nat} {x:Str}  (hN:X.N.Nodup) (hix:X.N[i]?=some x) (hx:X.env.scope.names.lookup x=some .local)
  (hsw:swapsWith (.ListComp elt [⟨tg,iter,ifs,0⟩] scope pos) (some (.Name x pos')) pos2.line X.env=pure true)
  (I:Inv X pins σ H s) (h:IV σ' wi g tt te σ H λv H1=>D.nx (σ.set i (some v)) H1) :
  wpAny (model X.prog X.w) X.A (exec (.Assign [.Name x pos'] (.ListComp elt [⟨tg,iter,ifs,0⟩] scope pos) pos2) X.env) (SP X pins D) X.xe s:=by
 rw[exec_Assign_Name_used _ _ _ _ hsw];refine ydc (yde (ydc ?_));refine ydc (yda (RG σ' hclos hkind hnames hcl hhas hcap hσ hvis (λ_ _ _ _ _ _ _ _ _=>hc) (P0 hi) hps hst hg ht he hs I h λA C s5 H5 I5 q5 ⟨m,hm⟩ f=>?_) (λ_ s' hq=>ydf (ydf hq)) λ_ _ e=>e)
 show wpAny _ X.A (assign (.Name x pos') X.env (.ref A)) _ _ _;refine wpAny_assign_Name (Nr I5 hN hix (.inl hx) (v:=.ref A) rfl (λs6 I6 ⟨a,sb,ha⟩=>?_) (.inr hx))
 have hCa:C≠a:=by
  rcases ha with rfl|ha
  .exact f.2.1
  .exact λz=>f.2.2.2.2.1 x a ha z.symm
 refine⟨m,hm.sameBut sb hCa,λh' sb2=>⟨_,H5,Gg (ch:=[C]) I6 (λb o hb e=>(sb2.2 b (λz=>hb (by simp[z]))).trans e) (λb hb=>by rw[yae.mp hb];exact f),q5⟩⟩
end
structure RpO(K:k7)(F H:Hp)(l:List T)(xs:List V)(R:Nat->Rg):Prop where
 len:l.length=xs.length
 rep:∀(i:Nat) (t:T) (x:V),l[i]?=some t->xs[i]?=some x->Rp K F H t x (R i)
 dis:∀i j a,i≠j->R i a->¬ R j a
 out:∀i a,R i a->i<l.length
section
variable {K:k7}{F H F1 H1:Hp}{l:List T}{xs:List V}{R:Nat->Rg}{B:Rg}
theorem RpO.nil:RpO K F H [] [] (λ_=>R0):=⟨rfl,λi t x h=>by simp at h,λ_ _ _ _ z=>z.elim,λ_ _ z=>z.elim⟩
theorem RpO.dom(h:RpO K F H l xs R)(z:R i a):F a=none/\∃u,H a=some u:=by
 have hi:=h.out i a z;have hx:i<xs.length:=by have:=h.len;omega
 exact(h.rep i _ _ (ya0 hi) (ya0 hx)).dom z
theorem RpO.ext(h:RpO K F H l xs R)(e:Ext F H F1 H1 B):RpO K F1 H1 l xs R:=⟨h.len,λi t x h1 h2=>(h.rep i t x h1 h2).ext e,h.dis,h.out⟩
theorem RpO.apart(h:RpO K F H l xs R)(e:Ext F H F1 H1 B)(hb:B b)(i):¬ R i b:=λz=>by
 obtain⟨f,u,q⟩:=h.dom z;rw[e.nb b hb]at q;cases q
theorem RpO.snoc(h:RpO K F H l xs R)   (r:Rp K F H t x B)(d:∀i a,R i a->¬ B a):RpO K F H (l++[t]) (xs++[x]) (λj=>if j=l.length then B else R j):=by
 have hl:=h.len;refine⟨by simp[hl],λi t' x' h1 h2=>?_,λi j a hij z1 z2=>?_,λi a z=>?_⟩
 .by_cases hi:i=l.length
  .subst hi;rw[if_pos rfl];have e1:t=t':=by simpa using h1
   have e2:x=x':=by rw[hl]at h2;simpa using h2
   subst e1;subst e2;exact r
  .rw[if_neg hi]
   have hlt:i<l.length:=by
    have:=(ya3.mp h1).1;simp at this
    omega
   rw[yat hlt]at h1;rw[yat (by omega)]at h2
   exact h.rep i t' x' h1 h2
 .by_cases hi:i=l.length
  .simp only[hi,ydn]at z1;have hj:¬ j=l.length:=λz=>hij (hi.trans z.symm)
   simp only[hj,ydw]at z2;exact d j a z2 z1
  .simp only[hi,ydw]at z1
   by_cases hj:j=l.length
   .simp only[hj,ydn]at z2;exact d i a z1 z2
   .simp only[hj,ydw]at z2;exact h.dis i j a hij z1 z2
 .by_cases hi:i=l.length
  .simp[hi]
  .simp only[hi,ydw]at z;have:=h.out i a z;simp
   omega
theorem RpO.cons(h:RpO K F H l xs R)   (r:Rp K F H t x B)(d:∀i a,R i a->¬ B a):RpO K F H (t::l) (x::xs) (λj=>match j with|0=>B|j+1=>R j):=by
 refine⟨by simp[h.len],λi t' x' h1 h2=>?_,λi j a hij z1 z2=>?_,λi a z=>?_⟩
 .cases i with
  |zero =>
   simp at h1 h2;subst h1;subst h2;exact r
  |succ i=>exact h.rep i t' x' (by simpa using h1) (by simpa using h2)
 .cases i with
  |zero =>
   cases j with
   |zero=>exact hij rfl
   |succ j=>exact d j a z2 z1
  |succ i =>
   cases j with
   |zero=>exact d i a z1 z2
   |succ j=>exact h.dis i j a (λz=>hij (by rw[z])) z1 z2
 .cases i with
  |zero=>simp
  |succ i=>have:=h.out i a z;simp;omega
theorem RpO.r0(h:RpO K F H l xs R)(s:A6 l=true):A2 K F l xs:=⟨h.len,λi t x h1 h2=>(h.rep i t x h1 h2).move (zgc s h1) (.refl _)⟩
theorem RpO.list(h:RpO K F H l xs R)(s:AL F H)  (hp:H p=none):Rp K F (upd H p (.lst xs)) (.own l) (.ref p) (λa=>a=p\/∃i,R i a)/\Ext F H F (upd H p (.lst xs)) (λa=>a=p):=by
 have e:=Ext.newO (o:=.lst xs) s hp;have h':=h.ext e;exact⟨.own (k:=.lst) trivial R (El s hp) Be h.len h'.rep h.dis (λi z=>h.apart e rfl i z) h.out,e⟩
theorem RpO.tupl(h:RpO K F H l xs R)(s:AL F H)(hp:H p=none):Rp K F (upd H p (.tup xs)) (.nd true .tup l) (.ref p) (λa=>a=p\/∃i,R i a)/\Ext F H F (upd H p (.tup xs)) (λa=>a=p):=by
 have e:=Ext.newO (o:=.tup xs) s hp;have h':=h.ext e;exact⟨.own (k:=.tup) trivial R (El s hp) Be h.len h'.rep h.dis (λi z=>h.apart e rfl i z) h.out,e⟩
end
def AU(ma mk:AD):AD:=λτ=>match ma τ with
 |some (.v t b)=>(match mk τ with
  |some (.v (.int i) _)=>(match t with
   |.nd _ _ l=>(match AV l i with
    |some c=>some (.v c (b && !c.sh))
    |none=>none)
   |.str z=>if z.length<=AW then (match AV z.cps.toList i with
    |some c=>some (.v (.str ⟨#[c]⟩) false)
    |none=>none) else none
   |_=>none)
  |some (.v _ _)=>none
  |r=>r)
 |r=>r
theorem TK{c:α}(e:l.length=m.length)(h:AV l i=some c):∃(j:Nat) (d:β),l[j]?=some c/\m[j]?=some d/\AV m i=some d:=by
 unfold AV at h ⊢;rw[<- e];cases q:CZ l.length i with
 |none=>grind
 |some j =>
  rw[q]at h;have h' :=h
  have hj:j<m.length:=by
   grind
  exact⟨j,m[j],h',ya0 hj,ya0 hj⟩
section
variable {K:k7}{F H:Hp}
theorem Rp.seq      (s:AL F H)(h:Rp K F H (.nd o k l) x A):∃p xs,x=.ref p/\(AM K H p xs\/BD K H p xs)/\l.length=xs.length/\∀(i:Nat) (t ) (x ),l[i]?=some t->xs[i]?=some x->∃B,(∀a,B a->A a)/\Rp K F H t x B:=by
 cases h with
 |@shr k p xs l h e c =>
  refine⟨p,xs,rfl,?_,e,λi t x h1 h2=>⟨R0,λ_ z=>z.elim,c i t x h1 h2⟩⟩
  cases k with
  |lst=>exact .inl (AM.of (s _ _ h))
  |rl=>exact .inl (s.seq h.l)
  |tup=>exact .inr (BD.of (s _ _ h))
  |rt=>exact .inr (Ec s h)
  |pin q=>exact .inl (AM.of (s _ _ h))
 |@own k0 p xs l hk R f h e c d dp o =>
  refine⟨p,xs,rfl,?_,e,λi t x h1 h2=>⟨R i,λa z=>.inr ⟨i,z⟩,c i t x h1 h2⟩⟩
  cases k with
  |tup=>exact .inr (BD.of h)
  |_=>exact .inl (AM.of h)
end
section
variable {X:Cx}{E:L2.St->XK}{ca:Str->Value}{σ:L2.St}{H:Hp}{m ma mb mc:AD}{ms:Ad}{K:k7}{a b c e:Expr}{es:List Expr}{pos:Pos}
theorem tM_ix(h:tM K E ca (AU ma mb) σ H Q):Fu (PQ K) (tM K E ca ma) (tM K E ca mb) σ H Q:=by
 obtain⟨F,τ,R,S,q⟩:=h;refine⟨F,τ,R,S,?_⟩;unfold AU at q;cases hm:ma τ with
 |none=>simp only[hm]at q<;>exact q.elim
 |some r =>
  simp only[hm]at q;cases r with
  |x c=>exact q
  |v t bb =>
   intro F1 H1 x B e1 g1;have S1:=S.ext e1;refine⟨F1,τ,R,S1,?_⟩;cases hk:mb τ with
   |none=>simp only[hk]at q<;>exact q.elim
   |some r =>
    simp only[hk]at q;cases r with
    |x c=>exact λF' H' e=>q F' H' ((e1.trans e).mono λ_ z=>z.elim)
    |v tk bk =>
     cases tk with
     |int i =>
      intro F2 H2 y C e2 g2
      have hy:y=.int i:=by
       cases bk with
       |true=>obtain⟨_,A,_,r⟩:=g2;exact r.int_inv
       |false=>exact(g2).int_inv
      subst hy;have e02 :=(e1.trans e2).mono λ_ z=>.inl z
      have S2:=S1.ext e2;cases t with
      |nd o k l =>
       simp only at q;cases hc:AV l i with
       |none=>simp only[hc]at q<;>exact q.elim
       |some cc =>
        simp only[hc]at q
        have node:∃A0,(bb=true->∀a,A0 a->tot R a)/\(bb=false->∀a,A0 a->B a)/\Rp K F2 H2 (.nd o k l) x A0:=by
         cases bb with
         |true =>
          obtain⟨_,A,hA,r⟩:=g1;exact⟨A,λ_=>hA,(λz=>by cases z),r.ext e2⟩
         |false=>exact⟨B,(λz=>by cases z),λ_ _ z=>z,(g1).ext e2⟩
        obtain⟨A0,hA1,hA2,rn⟩:=node;obtain⟨p,xs,rfl,hq,hl,kids⟩:=Rp.seq S2.fh rn;obtain⟨j,d,h1,h2,h3⟩:=TK hl hc;obtain⟨A1,hA,rk⟩:=kids j cc d h1 h2
        have qq :=by
         cases bb with
         |false=>exact q F2 H2 d A1 (e02.mono λa z=>hA2 rfl a (hA a z)) rk
         |true =>
          cases hs:cc.sh with
          |true =>
           rw[hs]at q;exact q F2 H2 d R0 (e02.mono λ_ z=>z.elim) (rk.move hs (.refl _))
          |false =>
           rw[hs]at q;exact q F2 H2 d R0 (e02.mono λ_ z=>z.elim) ⟨rfl,A1,λa z=>hA1 rfl a (hA a z),rk⟩
        rcases hq with hq|hq
        .exact .inl ⟨p,xs,i,d,rfl,rfl,hq,h3,qq⟩
        .exact .inr (.inl ⟨p,xs,i,d,rfl,rfl,hq,h3,qq⟩)
      |str z =>
       by_cases hz:z.length<=AW
       .simp only[hz,ydn]at q;cases hc:AV z.cps.toList i with
        |none=>simp only[hc]at q<;>exact q.elim
        |some cc =>
         simp only[hc]at q
         have hx:x=.str z:=by
          cases bb with
          |true=>obtain⟨_,A,_,r⟩:=g1;exact r.str_inv
          |false=>exact(g1).str_inv
         subst hx;exact .inr (.inr ⟨z,i,cc,rfl,rfl,by rw[<- Dm];exact hz,hc,q F2 H2 _ R0 (e02.mono λ_ z=>z.elim) (.str _)⟩)
       .simp only[hz,ydw]at q<;>exact q.elim
      |_=>exact q.elim
     |_=>exact q.elim
theorem r_ix(ha:PE X a (tM X.K E ca ma))(hb:PE X b (tM X.K E ca mb))(hs:Fj b):PE X (.Subscript a b pos) (tM X.K E ca (AU ma mb)):=PE.weak (GD HW ha hb hs) λσ H Q h=>tM_ix h
def B7{α:Type}(l:List α)(lo hi:Option Int):List α:=(l.drop (HT.sIx l.length 0 lo)).take (HT.sIx l.length l.length hi - HT.sIx l.length 0 lo)
noncomputable def DH(m:Option (AD)):AI->Option (Option Int):=λτ=>match m with
 |none=>some none
 |some m=>match m τ with
  |some (.v (.int i) _)=>some (some i)
  |_=>none
def DG(ma:AD)(ml mh:Option (AD)):AD:=λτ=>match ma τ with
 |some (.v t false)=>(match DH ml τ with
  |some lo=>(match DH mh τ with
   |some hi=>(match t with
    |.nd _ .lst l=>some (.v (.own (B7 (Af l) lo hi)) false)
    |.nd _ .rl l=>some (.v (.own (B7 (Af l) lo hi)) false)
    |_=>none)
   |none=>none)
  |none=>none)
 |some (.v _ true)=>none
 |r=>r
def E9(K:k7)(m:Option (AD)):TO:=λσ H Q=>∃F τ R o,StR K F H σ τ R/\DH m τ=some o/\∀F' H',Ext F H F' H' R0->Q o H'
theorem r_po0:PO X none (E9 X.K none):=λpins s σ H Q I h=>by
 obtain⟨F,τ,R,o,S,e,q⟩:=h;cases e;exact zgy pins s σ H Q I (q F H (Ext.refl S.fh))
theorem PD(ha:PE X e (tM X.K E ca m)):PO X (some e) (E9 X.K (some m)):=λpins s σ H Q I h=>by
 obtain⟨F,τ,R,o,S,e',q⟩:=h;refine zgx ha pins s σ H Q I ⟨F,τ,R,S,?_⟩;unfold DH at e';simp only at e';cases hm:m τ with
 |none=>grind
 |some r =>
  rw[hm]at e';cases r with
  |x c=>cases e'
  |v v b =>
   cases v with
   |int i =>
    cases e';intro F' H' x B e g
    have hx:x=.int i:=by
     cases b with
     |true=>obtain⟨_,A,_,r⟩:=g;exact r.int_inv
     |false=>exact(g).int_inv
    exact⟨i,hx,q F' H' (e.mono λ_ z=>z.elim)⟩
   |_=>cases e'
theorem zfs(r:A2 K F l xs)(lo hi):A2 K F (B7 l lo hi) (Hi xs lo hi):=by
 have hl:=r.1;unfold B7 Hi;rw[hl];refine⟨by simp[hl],λi t x h1 h2=>?_⟩
 rw[List.getElem?_take]at h1 h2;split at h1
 .rename_i hi';rw[if_pos hi',yby]at h2;rw[yby]at h1;exact r.2 _ t x h1 h2
 .cases h1
theorem PC{lo hi}(ha:PE X a (tM X.K E ca ma))(hl:PO X lo (E9 X.K ml))(hh:PO X hi (E9 X.K mh)):PE X (.Subscript a (.Slice lo hi none p2) pos) (tM X.K E ca (DG ma ml mh)):=by
 refine PE.weak (P6 zg9 ha hl hh) λσ H Q h=>?_
 obtain⟨F,τ,R,S,q⟩:=h;refine⟨F,τ,R,S,?_⟩;unfold DG at q;cases hm:ma τ with
 |none=>simp only[hm]at q<;>exact q.elim
 |some r =>
  simp only[hm]at q;cases r with
  |x c=>exact q
  |v t bb =>
   cases bb with
   |true=>exact q.elim
   |false =>
    intro F1 H1 x B e1 g1;obtain⟨F1',e1',_,r1⟩:=Cp.frz S e1 g1;have S1:=S.ext e1';simp only at q;cases h1:DH ml τ with
    |none=>simp only[h1]at q<;>exact q.elim
    |some lo' =>
     simp only[h1]at q;refine⟨F1',τ,R,lo',S1,h1,λF2 H2 e2=>?_⟩
     have S2:=S1.ext e2;cases h2:DH mh τ with
     |none=>simp only[h2]at q<;>exact q.elim
     |some hi' =>
      simp only[h2]at q;refine⟨F2,τ,R,hi',S2,h2,λF3 H3 e3=>?_⟩
      have S3:=S2.ext e3;have e03:=e1'.trans0 (e2.trans0 e3);have r3:Rp X.K F3 F3 t.share x R0:=(r1).frame (e2.ff.trans e3.ff) λ_ z=>z.elim
      have key:∀{o } {k } {l },t=.nd o k l->(k=.lst\/k=.rl)->(∀F' H' x B,Ext F H F' H' B->Rp X.K F' H' (.own (B7 (Af l) lo' hi')) x B->Q x H')->PK X.K x lo' hi' H3 Q:=by
       intro o k l et hk qq;subst et;rw[T.share]at r3;obtain⟨p,xs,rfl,_,n3,k3⟩:=DF r3
       have sq:AM X.K H3 p xs:=by
        rcases hk with rfl|rfl
        .exact AM.of (S3.fh _ _ n3)
        .exact S3.fh.seq n3.l
       refine⟨p,xs,rfl,sq,λp' hp'=>?_⟩
       have gg:Bm X.K F3 H3 (.own (B7 (Af l) lo' hi')) Q:=λF' H' z C e g=>qq F' H' z C (e03.trans0 e) g
       exact gg.list S3.fh (zfs k3 lo' hi') hp'
      cases t with
      |nd o k l =>
       cases k with
       |lst=>exact key rfl (.inl rfl) q
       |rl=>exact key rfl (.inr rfl) q
       |tup=>exact q.elim
       |rt=>exact q.elim
       |pin _=>exact q.elim
      |_=>exact q.elim
def pMo(K:k7)(E:L2.St->XK)(ca:Str->Value)(σ:L2.St)(Q:List V->Hp->Prop)(F H:Hp):Option RsL->Prop
 |some (.v ts _)=>∀F' H' xs (Rr:Nat->Rg),Ext F H F' H' (tot Rr)->RpO K F' H' ts xs Rr->Q xs H'
 |some (.x c)=>∀F' H',Ext F H F' H' R0->XE (E σ) ca c F' H'
 |none=>False
def Fv(K:k7)(E:L2.St->XK)(ca:Str->Value)(m:Ad):TA:=λσ H Q=>∃F τ R,StR K F H σ τ R/\pMo K E ca σ Q F H (m τ)
noncomputable def Bj(m:AD)(ms:Ad):Ad:=λτ=>match m τ with
 |some (.v t false)=>(match ms τ with
  |some (.v ts _)=>some (.v (t::ts) false)
  |r=>r)
 |some (.v _ true)=>none
 |some (.x c)=>some (.x c)
 |none=>none
theorem zje:PA X [] (Fv X.K E ca AE):=PA.weak Ct λσ H Q h=>by
 obtain⟨F,τ,R,S,q⟩:=h;exact q F H [] (λ_=>R0) ((Ext.refl S.fh).mono λa ⟨i,z⟩=>z.elim) .nil
theorem zgo(ha:PE X e (tM X.K E ca m))(hr:PA X es (Fv X.K E ca ms))(hs:starEach (e::es) X.env=(false,eval e X.env)::starEach es X.env):PA X (e::es) (Fv X.K E ca (Bj m ms)):=by
 refine PA.weak (CI ha hr hs) λσ H Q h=>?_
 obtain⟨F,τ,R,S,q⟩:=h;refine⟨F,τ,R,S,?_⟩;unfold Bj at q;cases hm:m τ with
 |none=>simp only[hm]at q<;>exact q.elim
 |some r =>
  simp only[hm]at q;cases r with
  |x c=>exact q
  |v t bb =>
   cases bb with
   |true=>exact q.elim
   |false =>
    intro F1 H1 x B e1 g1;have S1:=S.ext e1;refine⟨F1,τ,R,S1,?_⟩;cases hs:ms τ with
    |none=>simp only[hs]at q<;>exact q.elim
    |some r =>
     simp only[hs]at q;cases r with
     |x c=>exact λF' H' e=>q F' H' ((e1.trans e).mono λ_ z=>z.elim)
     |v ts b' =>
      intro F2 H2 xs Rr e2 ro;have g1' :=g1;refine q F2 H2 (x::xs) _ ((e1.trans e2).mono ?_) (ro.cons (g1'.ext e2) λi a z=>?_)
      .rintro a ⟨j,z⟩;cases j with
       |zero=>exact .inl z
       |succ j=>exact .inr ⟨j,z⟩
      .exact g1'.apart e2 ⟨i,z⟩
def Cv(ms:Ad):AD:=λτ=>match ms τ with
 |some (.v ts _)=>if ts.length<=AW then some (.v (.own ts) false) else none
 |some (.x c)=>some (.x c)
 |none=>none
theorem r_lst(h:PA X es (Fv X.K E ca ms)):PE X (.List es pos) (tM X.K E ca (Cv ms)):=by
 refine PE.weak (P7 h) λσ H Q h=>?_
 obtain⟨F,τ,R,S,q⟩:=h;refine⟨F,τ,R,S,?_⟩;unfold Cv at q;cases hm:ms τ with
 |none=>simp only[hm]at q<;>exact q.elim
 |some r =>
  simp only[hm]at q;cases r with
  |x c=>exact q
  |v ts b =>
   intro F1 H1 xs Rr e1 ro
   by_cases hz:ts.length<=AW
   .simp only[hz]at q;refine⟨by rw[<- ro.len];exact hz,λp hp=>?_⟩
    obtain⟨r,e2⟩:=ro.list e1.fh hp;refine q F1 _ _ _ ((e1.trans e2).mono ?_) r;rintro a (z|⟨i,z⟩)
    .exact .inr z
    .exact .inl ⟨i,z⟩
   .simp only[hz]at q<;>exact q.elim
def Dk(ms:Ad):AD:=λτ=>match ms τ with
 |some (.v ts false)=>if ts.length<=AW then some (.v (.tup ts) false) else none
 |some (.v _ true)=>none
 |some (.x c)=>some (.x c)
 |none=>none
theorem PB(h:PA X es (BX X.K E ca ms)):PE X (.Tuple es k pos) (tM X.K E ca (Dk ms)):=by
 refine PE.weak (P5 h) λσ H Q h=>?_
 obtain⟨F,τ,R,S,q⟩:=h;refine⟨F,τ,R,S,?_⟩;unfold Dk at q;cases hm:ms τ with
 |none=>simp only[hm]at q<;>exact q.elim
 |some r =>
  simp only[hm]at q;cases r with
  |x c=>exact q
  |v ts b =>
   cases b with
   |true=>exact q.elim
   |false =>
    intro F1 H1 xs e1 rs
    by_cases hz:ts.length<=AW
    .simp only[hz]at q;refine⟨by rw[<- rs.1];exact hz,λp hp=>?_⟩
     have gg:Bm X.K F1 H1 (.tup ts) Q:=λF' H' z C e g=>q F' H' z C (e1.trans0 e) g
     exact gg.tuple e1.fh rs hp
    .simp only[hz]at q<;>exact q.elim
def HH(ms:Ad):AD:=λτ=>match ms τ with
 |some (.v ts _)=>if ts.length<=AW then some (.v (.nd true .tup ts) false) else none
 |some (.x c)=>some (.x c)
 |none=>none
theorem zja(h:PA X es (Fv X.K E ca ms)):PE X (.Tuple es k pos) (tM X.K E ca (HH ms)):=by
 refine PE.weak (P5 h) λσ H Q h=>?_
 obtain⟨F,τ,R,S,q⟩:=h;refine⟨F,τ,R,S,?_⟩;unfold HH at q;cases hm:ms τ with
 |none=>simp only[hm]at q<;>exact q.elim
 |some r =>
  simp only[hm]at q;cases r with
  |x c=>exact q
  |v ts b =>
   intro F1 H1 xs Rr e1 ro
   by_cases hz:ts.length<=AW
   .simp only[hz]at q;refine⟨by rw[<- ro.len];exact hz,λp hp=>?_⟩
    obtain⟨r,e2⟩:=ro.tupl e1.fh hp;refine q F1 _ _ _ ((e1.trans e2).mono ?_) r;rintro a (z|⟨i,z⟩)
    .exact .inr z
    .exact .inl ⟨i,z⟩
   .simp only[hz]at q<;>exact q.elim
theorem zjk{id}(hc:BW X (.builtin id) (DR X.K g))(hg:Gl X x)(hm:X.mg x=none)(hv:bootBuiltins x=some (.builtin id))(ha:PA X (e::es) (BX X.K E ca ms))(hn:x≠"__name__")(hdb:(x == "__debug__")=false)
  (he:starEach (e::es) X.env=(false,eval e X.env)::starEach es X.env) (hpl:(backTo pos (starEach es X.env)).any (·.1)=false):PE X (.Call (.Name x p) (e::es) [] pos) (tM X.K E ca (BG g ms)) :=
 PE.weak (JA hc hg hm hv ha hn hdb he hpl) λσ H Q h=>FN h
theorem PH(hc:BW X (.type T') (DR X.K g))(hg:Gl X x)(hm:X.mg x=none)(hv:bootBuiltins x=some (.type T'))(ha:PA X (e::es) (BX X.K E ca ms))(hn:x≠"__name__")(hdb:(x == "__debug__")=false)
  (he:starEach (e::es) X.env=(false,eval e X.env)::starEach es X.env) (hpl:(backTo pos (starEach es X.env)).any (·.1)=false):PE X (.Call (.Name x p) (e::es) [] pos) (tM X.K E ca (BG g ms)) :=
 PE.weak (Iz hc hg hm hv ha hn hdb he hpl) λσ H Q h=>FN h
end
def BS:T->Option T
 |.nd _ _ l=>some (.int l.length)
 |.str z=>if z.length<=AW then some (.int z.length) else none
 |_=>none
def CA:T->Option T
 |.nd _ _ l=>some (.own l)
 |_=>none
def Jh:T->Option T
 |.int i=>some (.int (if i<0 then -i else i))
 |_=>none
def maxT:T->T->Option T
 |.int i,.int j=>some (.int (if j > i then j else i))
 |_,_=>none
noncomputable def FD:List T->Option (List Bool)
 |[]=>some []
 |.bl b::r=>(match FD r with
  |some l=>some (b::l)
  |none=>none)
 |_::_=>none
def Du:T->Option T
 |.nd _ .lst l=>(match FD l with
  |some bs=>some (.bl (bs.all id))
  |none=>none)
 |_=>none
def N4:Kd->Option String
 |.lst=>some "list"
 |.tup=>some "tuple"
 |.rl=>some "list"
 |.rt=>none
 |.pin _=>none
noncomputable def IS:T->Option String
 |.non=>some "NoneType"
 |.bl _=>some "bool"
 |.int _=>some "int"
 |.str _=>some "str"
 |.nd _ k _=>N4 k
 |.dic _ _=>some "dict"
 |.pdc _ _=>some "dict"
 |.odc _ _=>none
 |.obj _ _=>none
 |.oob _ _ _ _=>none
 |.osd _ _=>none
def Fs:List String:=["int","bool","str","list","tuple"]
def IZ(a c:String):Bool:=a == c || (a == "bool" && c == "int")
def Bk(c:String)(t:T):Option T:=match IS t with
 |some a=>if c∈Fs then some (.bl (IZ a c)) else none
 |none=>none
theorem zbw:PySem.W.kitMeta "str"=true:=by decide +kernel
theorem zbf:PySem.W.kitMeta "list"=true:=by decide +kernel
theorem RL(K)(ha:a∈["NoneType","bool","int","str","list","tuple","dict"])(hc:c∈Fs):PySem.W.kitOne K (.type a) (.type c)=some (IZ a c):=by
 have km:PySem.W.kitMeta c=true:=by
  simp only[Fs,yak,yb8,ydt]at hc
  rcases hc with rfl|rfl|rfl|rfl|rfl
  .exact zbx
  .exact zbg
  .exact zbw
  .exact zbf
  .exact zb5
 by_cases h:a=c
 .subst h;rw[zfc];simp[IZ]
 .refine zkw K (l:=[]) h km ?_;simp only[Fs,yak,yb8,ydt]at hc ha
  rcases ha with rfl|rfl|rfl|rfl|rfl|rfl|rfl<;>rcases hc with rfl|rfl|rfl|rfl|rfl<;>first|exact absurd rfl h|decide +kernel
section
variable {X:Cx}
theorem ze6:BW X (.builtin "len") (DR X.K (g1 BS)):=by
 intro pins s σ H xs us Q I r h;obtain⟨F,ts,v,fh,rs,e,q⟩:=h;unfold g1 at e;split at e
 .obtain⟨x1,xs1,rfl,r1,rs1⟩:=rs.inv;cases rs1.inv0;unfold BS at e;split at e
  .cases e;obtain⟨p,ys,rfl,hq,hl,_⟩:=Rp.seq fh (r1.any);refine Sr pins s σ H _ us Q I r ⟨_,ys.length,rfl,?_,by rw[<- hl];exact q.int fh⟩
   rcases hq with hq|hq
   .exact .inl ⟨ys,hq,rfl⟩
   .exact .inr ⟨ys,hq,rfl⟩
  .split at e
   .cases e;rename_i hz;rw[r1.str_inv]at r;exact Sr pins s σ H _ us Q I r ⟨_,_,rfl,⟨by exact hz,rfl⟩,q.int fh⟩
   .cases e
  .cases e
 .cases e
theorem zd6{K}(s:AL F H)(h:EK K F k p xs):AM K H p xs\/BD K H p xs:=by
 cases k with
 |lst=>exact .inl (AM.of (s _ _ h))
 |rl=>exact .inl (s.seq h.l)
 |tup=>exact .inr (BD.of (s _ _ h))
 |rt=>exact .inr (Ec s h)
 |pin q=>exact .inl (AM.of (s _ _ h))
theorem Ss:BW X (.type "list") (DR X.K (g1 CA)):=by
 intro pins s σ H xs us Q I r h;obtain⟨F,ts,v,fh,rs,e,q⟩:=h;unfold g1 at e;split at e
 .obtain⟨x1,xs1,rfl,r1,rs1⟩:=rs.inv;cases rs1.inv0;unfold CA at e;split at e
  .cases e;obtain⟨p,ys,rfl,rfl,n1,k1⟩:=DF r1;have hq :=zd6 fh n1;exact zbs pins s σ H _ us Q I r ⟨p,ys,rfl,hq,λl hl=>q.list fh k1 hl⟩
  .cases e
 .cases e
theorem ze9:BW X (.builtin "abs") (DR X.K (g1 Jh)):=by
 intro pins s σ H xs us Q I r h;obtain⟨F,ts,v,fh,rs,e,q⟩:=h;unfold g1 at e;split at e
 .obtain⟨x1,xs1,rfl,r1,rs1⟩:=rs.inv;cases rs1.inv0;unfold Jh at e;split at e
  .cases e;rw[r1.int_inv]at r;exact zfy pins s σ H _ us Q I r ⟨_,rfl,q.int fh⟩
  .cases e
 .cases e
theorem Sw:∀{l} {bs},FD l=some bs->l.length=bs.length/\∀(i:Nat) (t),l[i]?=some t->∃b,bs[i]?=some b/\t=.bl b
 |[],bs,h=>by cases h;exact⟨rfl,λi t e=>by simp at e⟩
 |t::r,bs,h=>by
  unfold FD at h;cases t with
  |bl b =>
   simp only at h;cases hr:FD r with
   |none=>simp only[hr]at h;cases h
   |some l =>
    simp only[hr]at h;cases h;obtain⟨h1,h2⟩:=Sw hr;refine⟨by simp[h1],λi t e=>?_⟩
    cases i with
    |zero=>simp at e;exact⟨b,rfl,e.symm⟩
    |succ i=>exact h2 i t (by simpa using e)
  |_=>cases h
theorem zcz{bs:List Bool}(h:∀(i:Nat) (b:Bool),bs[i]?=some b->tr i=b):(List.range bs.length).all tr=bs.all id/\(List.range bs.length).any tr=bs.any id:=by
 have e:(List.range bs.length).map tr=bs:=by
  apply List.ext_getElem?
  grind
 constructor
 .have:(List.range bs.length).all tr=((List.range bs.length).map tr).all id:=by simp
  rw[this,e]
 .have:(List.range bs.length).any tr=((List.range bs.length).map tr).any id:=by simp
  rw[this,e]
theorem walkB(hc:X.calm=true)   {σ:L2.St}{H:Hp}{F:Hp}       (I:Inv X pins σ H s)(fh:AL F H)(r1:Rp X.K F F (.nd o .lst l) (.ref p) R0)(hb:FD l=some bs)
  (hP : ∀ (I0 : Addr) (wr fp ) (St ) (PP ) (tr ) (s2 : Shared), Walks X.prog X.w X.A.in1 I0 fp wr bs.length PP St -> St 0 s2.heap -> TruthOf X.prog X.w X.A.in1 PP tr -> (∀ (i : Nat) (b : Bool), bs[i]? = some b -> tr i = b) ->
   (∀h' tk,(∀b o,b∉wr->s2.heap.get? b=some o->h'.get? b=some o)->Inv X pins σ H { s2 with heap:=h',toks:=tk })->P (.ref I0) s2):wpAny (model X.prog X.w) X.A.in1 (pyIter (.ref p)) P E' s:=by
 obtain⟨p',ys,e',rfl,n1,k1⟩:=DF r1;cases e';obtain⟨hlen,hget⟩:=Sw hb;obtain⟨its,rv,pl,hz⟩:=I.list (AM.of (fh _ _ n1));have hl:=rv.length
 have hne :=yaj (by
  obtain⟨o,n,e,_⟩:=pl;exact ya8 e)
 have hh:X.A.in1.handled=none:=I.ok.hd hc
 have val:∀(i:Nat) (v ),its[i]?=some v->∃b,bs[i]?=some b/\v=.bool b:=λi v hv=>by
  have hi:i<ys.length:=by
   have:=(ya3.mp hv).1
   omega
  have hi2:i<l.length:=by rw[k1.1];exact hi
  obtain⟨b,h1,h2⟩:=hget i _ (ya0 hi2);have rr:=k1.2 i _ _ (ya0 hi2) (ya0 hi);rw[h2]at rr;obtain⟨u,e1,ru⟩:=rv.get (ya0 hi);rw[hv]at e1;cases e1;rw[rr.bl_inv]at ru;exact⟨b,h1,ru⟩
 have hbl:its.toArray.size=bs.length:=by rw[yay,<- hl,<- k1.1,hlen]
 refine ydg pl.isList ?_;have W:=Walks.list (prog:=X.prog) (w:=X.w) hh s.heap.objs.size p hne its.toArray;rw[hbl]at W;refine hP s.heap.objs.size _ _ _ _ (λi=>bs.getD i false) _ W ⟨⟨_,yai _ rfl,rfl,rfl⟩,?_⟩ ?_ ?_ ?_
 .obtain⟨o,ho,hr⟩:=pl.isList;exact⟨o,ya4 _ ho,hr⟩
 .intro i v s' Q' E'' hv hq';obtain⟨b,h1,h2⟩:=val i v (by simpa using hv)
  subst h2;refine ydb ?_;have e:bs.getD i false=b:=by rw[yaq,h1];rfl
  rw[<- e];exact hq'
 .intro i b hb';show bs.getD i false=b;rw[yaq,hb']
  rfl
 .intro h' tk k
  exact I.kept λb o e=>k b o (λz=>by
   rw[yae]at z;exact absurd (ya8 e) (by rw[z];exact yav _)) (ya4 _ e)
theorem ze8(hc:X.calm=true):BW X (.builtin "all") (DR X.K (g1 Du)):=by
 intro pins s σ H xs us Q I r h;obtain⟨F,ts,v,fh,rs,e,q⟩:=h;unfold g1 at e;split at e
 .obtain⟨x1,xs1,rfl,r1,rs1⟩:=rs.inv;cases rs1.inv0;unfold Du at e;split at e
  .split at e
   .cases e;rename_i bs hbs;obtain⟨p,rfl⟩:=r1.ref_inv;obtain⟨u,rfl,ru⟩:=FJ r;cases ru;refine call_all_walk (walkB hc I fh r1 hbs λI0 wr fp St PP tr s2 W st0 tro htr Ah=>⟨I0,fp,wr,bs.length,PP,St,tr,rfl,W,st0,tro,λh' tk k=>?_⟩)
    rw[(zcz htr).1];exact⟨.bl _,H,Ah h' tk k,rfl,q.bl fh⟩
   .cases e
  .cases e
 .cases e
def Mx(K:k7)(H:Hp)(x:V)(a:String):Prop:=(a="dict"/\∃p ob kvs,x=.ref p/\H p=some (.frz ob (.dK kvs)))\/(a="list"/\∃p xs,x=.ref p/\AM K H p xs)
theorem RT{σ:L2.St}(I:Inv X pins σ H s)(rx:AN x u)(ty:Mx X.K H x a)(e:PySem.W.kitOne X.K (.type a) c=some b)(h:∀tk,Q (.bool b) { s with toks:=tk }) :
  wpAny (model X.prog X.w) A (call (.builtin "isinstance") [u,c]) Q E s:=by
 rcases ty with ⟨rfl,p,ob,kvs,rfl,ea⟩|⟨rfl,p,xs,rfl,hq⟩
 .cases rx;obtain⟨_,_,_,vs,_,q⟩:=(I.hok p _ ea);obtain⟨o,es,ep,h1,h2,_⟩:=q;exact yaw yd3 I.kIn ⟨o,h1,h2.1⟩ e (λz=>nomatch z) h
 .cases rx;obtain⟨its,r,⟨o,n,e1,e2,e3,e4⟩,_⟩:=I.list hq;exact yaw yd2 I.kIn ⟨o,e1,e2⟩ e (λz=>nomatch z) h
theorem N3(fh:AL F H)(r:Rp X.K F F t x R0)(h:IS t=some a):(TyOf X.K H x (.type a)\/Mx X.K H x a)/\a∈["NoneType","bool","int","str","list","tuple","dict"]:=by
 cases t with
 |non=>cases h;rw[r.non_inv];exact⟨.inl .non,by simp⟩
 |bl b=>cases h;rw[r.bl_inv];exact⟨.inl (.bl b),by simp⟩
 |int i=>cases h;rw[r.int_inv];exact⟨.inl (.int i),by simp⟩
 |str y=>cases h;rw[r.str_inv];exact⟨.inl (.str y),by simp⟩
 |nd o k l =>
  obtain⟨p,xs,rfl,_,n,_⟩:=DF r;cases k with
  |lst=>cases h;exact⟨.inl (.lst (fh _ _ n)),by simp⟩
  |tup=>cases h;exact⟨.inl (.tup (fh _ _ n)),by simp⟩
  |rl=>cases h;exact⟨.inr (.inr ⟨rfl,p,xs,rfl,fh.seq (E5.l n)⟩),by simp⟩
  |rt=>cases h
  |pin _=>cases h
 |dic ks l =>
  cases h;cases r with
  |dic h e ek c=>exact⟨.inr (.inl ⟨rfl,_,_,_,rfl,fh _ _ h⟩),by simp⟩
 |pdc ks l =>
  cases h;cases r with
  |pdc h e ek c=>exact⟨.inl (.dK (fh _ _ h)),by simp⟩
 |odc ks l=>cases h
 |obj k l=>cases h
 |oob p C fs l=>cases h
 |osd ks l=>cases h
theorem ze7:BW X (.builtin "isinstance") (λxs H Q=>∃x,xs=[x,.ty c]/\DR X.K (g1 (Bk c)) [x] H Q):=by
 intro pins s σ H xs us Q I r h;obtain⟨x,rfl,F,ts,v,fh,rs,e,q⟩:=h;unfold g1 at e;split at e
 .obtain⟨x1,xs1,e1,r1,rs1⟩:=rs.inv;cases e1;unfold Bk at e;split at e
  .rename_i a ha;split at e
   .cases e;rename_i hc;obtain⟨ty,hm⟩:=N3 fh r1 ha
    rcases ty with ty|hp
    .exact zfw pins s σ H _ us Q I r ⟨x,_,_,rfl,ty,RL X.K hm hc,q.bl fh⟩
    .obtain⟨u,w',rfl,rx,ry⟩:=Fp r;cases ry;exact RT I rx hp (RL X.K hm hc) λtk=>⟨.bl _,H,I.tok _,rfl,q.bl fh⟩
   .cases e
  .cases e
 .cases e
def T.isN:T->Bool
 |.non=>true
 |_=>false
noncomputable def T.isB(b:Bool):T->Bool
 |.bl c=>c == b
 |_=>false
def F7(neg:Bool)(t u:T):Option T:=match u with
 |.non=>some (.bl (neg ^^ t.isN))
 |.bl b=>some (.bl (neg ^^ t.isB b))
 |_=>none
theorem Sf{K}(r:Rp K F H t x A):decide (x=V.non)=t.isN:=by
 cases r<;>simp[T.isN]
theorem Sg{K}(r:Rp K F H t x A):decide (x=V.bl b)=t.isB b:=by
 cases r<;>simp[T.isB]
 rfl
theorem zkd:AX X (compareOp .Is) (BH X.K (F7 false)):=by
 intro pins s σ H x y v u Q I rx ry h;obtain⟨F,t1,t2,r,fh,r1,r2,e,q⟩:=h;unfold F7 at e;split at e
 .cases e;rw[r2.non_inv]at ry;refine zk8 pins s σ H _ _ v u Q I rx ry ⟨rfl,?_⟩;rw[Sf r1];have:=q.bl fh
  simp_all
 .cases e;rw[r2.bl_inv]at ry;refine zk9 pins s σ H _ _ v u Q I rx ry ⟨_,rfl,?_⟩;rw[Sg r1];have:=q.bl fh
  simp_all
 .cases e
theorem zd4:AX X (compareOp .IsNot) (BH X.K (F7 true)):=by
 intro pins s σ H x y v u Q I rx ry h;obtain⟨F,t1,t2,r,fh,r1,r2,e,q⟩:=h;unfold F7 at e;split at e
 .cases e;rw[r2.non_inv]at ry;refine zh4 pins s σ H _ _ v u Q I rx ry ⟨rfl,?_⟩;rw[Sf r1];have:=q.bl fh
  simp_all
 .cases e;rw[r2.bl_inv]at ry;refine zh5 pins s σ H _ _ v u Q I rx ry ⟨_,rfl,?_⟩;rw[Sg r1];have:=q.bl fh
  simp_all
 .cases e
end
section
variable {X:Cx}{E:L2.St->XK}{ca:Str->Value}{σ:L2.St}{H:Hp}{m ma mb mc:AD}{ms:Ad}{K:k7}{a b c e:Expr}{es:List Expr}{pos p p2:Pos}
theorem r_isT{c}(hv:bootBuiltins cn=some (.type c))(hg:Gl X "isinstance")(hm:X.mg "isinstance"=none)(hgc:Gl X cn)(hmc:X.mg cn=none)(hn:cn≠"__name__")(hd:(cn == "__debug__")=false)(ha:PE X e (tM X.K E ca m))(he:starEach [e,.Name cn p2] X.env=(false,eval e X.env)::starEach [.Name cn p2] X.env) :
  PE X (.Call (.Name "isinstance" p) [e,.Name cn p2] [] pos) (tM X.K E ca (BG (g1 (Bk c)) (AB m AE))):=by
 refine PE.weak (JA (ze7 (c:=c)) hg hm PyProof.Rows.boot_isinstance (CI ha (CI (zh2 (v:=.ty c) hgc hmc hv rfl hn hd) Ct) he) (by decide) (by decide) he rfl) λσ H Q h=>?_
 exact(FL (FN h)).mono λx H1 h1=>⟨x,rfl,FK h1⟩
set_option genInjectivity true in
inductive Ru where
 |ok (t:T)|exc (c:Str)
def BC(K:k7)(ca:Str->Value)(g:List T->Option Ru):Sp:=λvs H Q E=>∃F ts,AL F H/\A2 K F ts vs/\match g ts with
 |some (.ok v)=>Bm K F H v Q
 |some (.exc c)=>∀F' H',Ext F H F' H' R0->XE E ca c F' H'
 |none=>False
def Hc:Bool->Str->Option Rs
 |false,c=>some (.x c)
 |true,c=>(match EV c with
  |none=>some (.x c)
  |some _=>none)
def A7(g:List T->Option Ru)(ms:Ad):AD:=λτ=>match ms τ with
 |some (.v ts b)=>(match g ts with
  |some (.ok v)=>Ah b v
  |some (.exc c)=>Hc b c
  |none=>none)
 |some (.x c)=>some (.x c)
 |none=>none
theorem zi7(h:tM K E ca (A7 g ms) σ H Q):Nm (BC K ca g) [] E (BX K E ca ms) σ H Q:=by
 obtain⟨F,τ,R,S,q⟩:=h;refine⟨F,τ,R,S,?_⟩;unfold A7 at q;cases hs:ms τ with
 |none=>simp only[hs]at q<;>exact q.elim
 |some r =>
  simp only[hs]at q;cases r with
  |x c=>exact q
  |v ts b =>
   intro F1 H1 xs e1 rs;have S1:=S.ext e1;rw[yc6];refine⟨Gz b F1 H1 R,ts,Lz S1,rs,?_⟩;cases hg:g ts with
   |none=>simp only[hg]at q<;>exact q.elim
   |some r =>
    simp only[hg]at q;cases r with
    |exc c =>
     cases b with
     |false=>exact λF' H' e2=>q F' H' (e1.trans0 e2)
     |true =>
      simp only[Hc]at q;cases hp:EV c with
      |none=>rw[hp]at q;exact λF' H' e2=>(q F1 H' (e1.grow e2.hh)).any hp
      |some n=>rw[hp]at q;exact q.elim
    |ok v =>
     intro F2 H2 z C e2 r2;simp only at q;unfold Ah at q;cases b with
     |false=>exact q F2 H2 z C (e1.trans0 e2) r2
     |true =>
      cases hf:v.flat with
      |false=>rw[hf]at q;cases q
      |true=>rw[hf]at q;exact q F1 H2 z R0 (e1.grow e2.hh) (r2.flat_any hf)
theorem zjj(D:DefX X.prog X.w X.K X.mg X.base k x ps (BC X.K ca g))(hr:Room j X.A)(hx:Aw X E)(ha:PA X (e::es) (BX X.K E ca ms))(hk:k<=j)(hg:Gl X x)(hdb:(x == "__debug__")=false)
  (he:starEach (e::es) X.env=(false,eval e X.env)::starEach es X.env) (hpl:(backTo pos (starEach es X.env)).any (·.1)=false):PE X (.Call (.Name x p) (e::es) [] pos) (tM X.K E ca (A7 g ms)):=PE.weak (px D hr hx ha hk hg hdb he hpl) λ_ _ _ h=>zi7 h
end
section
variable {X:Cx}{E:L2.St->XK}{ca:Str->Value}{ms:Ad}{e:Expr}{es:List Expr}{p pos:Pos}
end
def FI(K:k7)(J:It)(F:Hp)(ts:List T):Prop:=∀(i:Nat) (F' H':Hp),AL F F'->AL F' H' ->
 (∀t,ts[i]?=some t->J.go i H'/\∀x H'',J.yld i H' x H''->∃F'',Ext F' H' F'' H'' R0/\Rp K F'' H'' t x R0)/\(i=ts.length->J.stop i H')
def pI(K:k7)(E:L2.St->XK)(ca:Str->Value)(σ:L2.St)(P:It->Hp->Prop)(F H:Hp):Option RsL->Prop
 |some (.v ts _)=>∀F' H' J,Ext F H F' H' R0->FI K J F' ts->P J H'
 |some (.x c)=>∀F' H',Ext F H F' H' R0->XE (E σ) ca c F' H'
 |none=>False
def tI(K:k7)(E:L2.St->XK)(ca:Str->Value)(m:Ad):TI:=λσ H P=>∃F τ R,StR K F H σ τ R/\pI K E ca σ P F H (m τ)
noncomputable def GO:T->Bool
 |.nd _ .lst _=>true
 |.nd _ .rl _=>true
 |.nd _ (.pin _) _=>true
 |_=>false
noncomputable def GS(m:AD):Ad:=λτ=>match m τ with
 |some (.v (.nd _ k l) false)=>some (.v (Af l) false)
 |some (.x c)=>some (.x c)
 |_=>none
def Bb(lo:Int)(n:Nat):List T:=(List.range n).map λ(i:Nat)=>.int (lo+(i:Int))
def Bg(j:Int):Bool:=@decide (-(2 ^ 62)<=j/\j<2 ^ 62) (Classical.propDecidable _)
def Jf:List T->Option Int
 |[.int j]=>some j
 |_=>none
noncomputable def as2:List T->Option (Int×Int)
 |[.int i,.int j]=>some (i,j)
 |_=>none
def CB(ms:Ad):Ad:=λτ=>match ms τ with
 |some (.v ts _)=>(match Jf ts with
  |some j=>if Bg j then some (.v (Bb 0 j.toNat) false) else none
  |none=>none)
 |r=>r
def asL:List T->Option (List T)
 |[.nd o k l]=>if GO (.nd o k l) then some l else none
 |_=>none
def Je:List T->Option (List T×List T)
 |[.nd o k l,.nd o' k' m]=>if GO (.nd o k l) && GO (.nd o' k' m) then some (l,m) else none
 |_=>none
def Fl(l m:List T):List T:=List.zipWith (λa b=>T.tup [a,b]) l m
def Fb(ms:Ad):Ad:=λτ=>match ms τ with
 |some (.v ts false)=>(match Je ts with
  |some (l,m)=>some (.v (Fl l m) false)
  |none=>none)
 |some (.v _ true)=>none
 |r=>r
section
variable {X:Cx}{E:L2.St->XK}{ca:Str->Value}{σ:L2.St}{H:Hp}{m ma mb mc:AD}{ms:Ad}{K:k7}{a b c e tg:Expr}{es elts:List Expr}{pos p tpos:Pos}{kk:Nat}
theorem Ls{p}(n:∀F' H' ,AL F F'->AL F' H'->AM K H' p xs)(r:A2 K F l xs):FI K (NJ K p) F l:=by
 intro i F' H' s1 s2;have sq:=n F' H' s1 s2;refine⟨λt ht=>?_,λe=>⟨xs,sq,by rw[e,r.1];simp⟩⟩
 have hi:i<xs.length:=by
  have:=(ya3.mp ht).1;have:=r.1
  omega
 refine⟨⟨xs,xs[i],sq,ya0 hi⟩,λx H'' y=>?_⟩
 obtain⟨rfl,y⟩:=y;have hx:=y xs sq;exact⟨F',Ext.refl s2,((r.same s1).2 i t x ht hx).any⟩
theorem RR{p}(n:∀F' H' ,AL F F'->AL F' H'->BD K H' p xs)(r:A2 K F l xs):FI K (NI K p) F l:=by
 intro i F' H' s1 s2;have sq:=n F' H' s1 s2;refine⟨λt ht=>?_,λe=>⟨xs,sq,by rw[e,r.1];simp⟩⟩
 have hi:i<xs.length:=by
  have:=(ya3.mp ht).1;have:=r.1
  omega
 refine⟨⟨xs,xs[i],sq,ya0 hi⟩,λx H'' y=>?_⟩
 obtain⟨rfl,y⟩:=y;have hx:=y xs sq;exact⟨F',Ext.refl s2,((r.same s1).2 i t x ht hx).any⟩
theorem zde{lo}:FI K (Jx lo n) F (Bb lo n):=by
 intro i F' H' s1 s2;refine⟨λt ht=>?_,λe=>?_⟩
 .unfold Bb at ht;rw[ya9]at ht;obtain⟨j,e1,e2⟩:=yad.mp ht
  have hi:i<n:=by
   have:=(ya3.mp e1).1
   simpa using this
  have hj:i=j:=by rw[ybt hi]at e1;exact yao e1
  subst hj;subst e2;refine⟨hi,λx H'' y=>?_⟩
  obtain⟨rfl,rfl⟩:=y;exact⟨F',Ext.refl s2,.int _⟩
 .have:n<=i:=by rw[e];simp[Bb]
  exact this
theorem zhv{p p2}(n:∀F' H' ,AL F F'->AL F' H'->AM K H' p xs)(n2:∀F' H' ,AL F F'->AL F' H'->AM K H' p2 ys)(r:A2 K F l xs)(r2:A2 K F l2 ys):FI K (NH K p p2) F (Fl l l2):=by
 intro i F' H' s1 s2;have sq:=n F' H' s1 s2;have sq2:=n2 F' H' s1 s2;have l1:=r.1;have l2':=r2.1;refine⟨λt ht=>?_,λe=>⟨xs,ys,sq,sq2,?_⟩⟩
 .unfold Fl at ht;rw[List.getElem?_zipWith]at ht;cases h1:l[i]? with
  |none=>rw[h1]at ht;cases ht
  |some t1 =>
   cases h2:l2[i]? with
   |none=>rw[h1,h2]at ht;cases ht
   |some t2 =>
    rw[h1,h2]at ht;cases ht;have hi:i<xs.length:=by have:=(ya3.mp h1).1;omega
    have hi2:i<ys.length:=by grind
    refine⟨⟨xs,xs[i],ys,ys[i],sq,ya0 hi,sq2,ya0 hi2⟩,λx H'' y=>?_⟩
    obtain⟨q,y0,z0,rfl,hq,rfl,y,z⟩:=y;have hx:=y xs sq;have hy:=z ys sq2;have e:=Ext.new (o:=.tup [y0,z0]) s2 hq;refine⟨_,e,A2.of_node Be ?_⟩;exact .cons (H:=H') (((r.same (s1.trans e.ff)).2 i t1 y0 h1 hx).any) (.cons (H:=H') (((r2.same (s1.trans e.ff)).2 i t2 z0 h2 hy).any) .nil)
 .have:i=min l.length l2.length:=by rw[e];simp[Fl]
  omega
theorem PI.weak(h:PI X tg e t)(w:∀σ H P,t' σ H P->t σ H P):PI X tg e t':=λpins s σ H P I q=>h pins s σ H P I (w σ H P q)
theorem PI.or(h:PI X tg e t)(h':PI X tg e t'):PI X tg e (λσ H P=>t σ H P\/t' σ H P):=λpins s σ H P I q=>q.elim (h pins s σ H P I) (h' pins s σ H P I)
theorem PF(ha:PE X e (tM X.K E ca m)):PI X tg e (tI X.K E ca (GS m)):=by
 refine PI.weak (PI.or (Kv ha) (zjv ha)) λσ H P h=>?_
 obtain⟨F,τ,R,S,q⟩:=h;unfold GS at q
 have key:∀{o } {k } {l },m τ=some (.v (.nd o k l) false)->(∀F' H' J,Ext F H F' H' R0->FI X.K J F' (Af l)->P J H')->∀F1 H1 x B,Ext F H F1 H1 B->Cp X.K F1 H1 R (.nd o k l) false x B->∃(F2:Hp) (p:Addr) (xs:List V),x=.ref p/\Ext F H F2 H1 R0/\EK X.K F2 k p xs/\A2 X.K F2 (Af l) xs:=by
  intro o k l hm q F1 H1 x B e1 g1;obtain⟨F2,e2,_,r2⟩:=Cp.frz S e1 g1;have r2' :=r2;rw[T.share]at r2';obtain⟨p,xs,rfl,_,n,kd⟩:=DF r2';exact⟨F2,p,xs,rfl,e2,n,kd⟩
 cases hm:m τ with
 |none=>simp only[hm]at q<;>exact q.elim
 |some r =>
  simp only[hm]at q;cases r with
  |x c=>exact .inl ⟨F,τ,R,S,by rw[hm];exact q⟩
  |v t bb =>
   cases t with
   |nd o k l =>
    cases bb with
    |true=>exact q.elim
    |false =>
     simp only at q;cases k with
     |lst =>
      refine .inl ⟨F,τ,R,S,?_⟩;rw[hm];intro F1 H1 x B e1 g1;obtain⟨F2,p,xs,rfl,e2,n,kd⟩:=key hm q F1 H1 x B e1 g1;exact⟨p,rfl,⟨xs,AM.of (e2.fh _ _ n)⟩,q F2 H1 _ e2 (Ls (λF' H' s1 s2=>AM.of (s2 _ _ (s1 _ _ n))) kd)⟩
     |pin _ =>
      refine .inl ⟨F,τ,R,S,?_⟩;rw[hm];intro F1 H1 x B e1 g1;obtain⟨F2,p,xs,rfl,e2,n,kd⟩:=key hm q F1 H1 x B e1 g1;exact⟨p,rfl,⟨xs,AM.of (e2.fh _ _ n)⟩,q F2 H1 _ e2 (Ls (λF' H' s1 s2=>AM.of (s2 _ _ (s1 _ _ n))) kd)⟩
     |rl =>
      refine .inl ⟨F,τ,R,S,?_⟩;rw[hm];intro F1 H1 x B e1 g1;obtain⟨F2,p,xs,rfl,e2,n,kd⟩:=key hm q F1 H1 x B e1 g1;exact⟨p,rfl,⟨xs,e2.fh.seq n.l⟩,q F2 H1 _ e2 (Ls (λF' H' s1 s2=>s2.seq (s1.seq n.l)) kd)⟩
     |tup =>
      refine .inr ⟨F,τ,R,S,?_⟩;rw[hm];intro F1 H1 x B e1 g1;obtain⟨F2,p,xs,rfl,e2,n,kd⟩:=key hm q F1 H1 x B e1 g1;exact⟨p,rfl,⟨xs,BD.of (e2.fh _ _ n)⟩,q F2 H1 _ e2 (RR (λF' H' s1 s2=>BD.of (s2 _ _ (s1 _ _ n))) kd)⟩
     |rt =>
      refine .inr ⟨F,τ,R,S,?_⟩;rw[hm];intro F1 H1 x B e1 g1;obtain⟨F2,p,xs,rfl,e2,n,kd⟩:=key hm q F1 H1 x B e1 g1;exact⟨p,rfl,⟨xs,Ec e2.fh n⟩,q F2 H1 _ e2 (RR (λF' H' s1 s2=>Ec s2 (Ec s1 n)) kd)⟩
   |_=>exact q.elim
theorem Nl{f:(Ad)->Ad}   (hx:∀τ c,ms τ=some (.x c)->f ms τ=some (.x c))(hn:∀τ,ms τ=none->f ms τ=none)
  (hv : ∀ F τ R ts b, StR K F H σ τ R -> ms τ = some (.v ts b) -> (match f ms τ with
   |some (.v us _)=>∀F' H' J,Ext F H F' H' R0->FI K J F' us->P J H'
   |some (.x c)=>∀F' H',Ext F H F' H' R0->XE (E σ) ca c F' H'
   |none=>False)->∀F' H' xs,Ext F H F' H' R0->A2 K (Gz b F' H' R) ts xs->W xs H') (h:tI K E ca (f ms) σ H P):BX K E ca ms σ H W:=by
 obtain⟨F,τ,R,S,q⟩:=h;refine⟨F,τ,R,S,?_⟩;cases hm:ms τ with
 |none=>rw[hn τ hm]at q;exact q.elim
 |some r =>
  cases r with
  |x c=>rw[hx τ c hm]at q;exact q
  |v ts b=>exact λF' H' xs e rs=>hv F τ R ts b S hm q F' H' xs e rs
theorem LD(h:Bg j=true):-(2 ^ 62)<=j/\j<2 ^ 62:=@of_decide_eq_true _ (Classical.propDecidable _) h
theorem zew(hg:Gl X "range")(hm:X.mg "range"=none)(ha:PA X [a] (BX X.K E ca ms))(hs:starEach [a] X.env=[(false,eval a X.env)]):PI X tg (.Call (.Name "range" p) [a] [] pos) (tI X.K E ca (CB ms)):=by
 refine PI.weak (zd1 hg hm ha hs) λσ H P h=>?_
 refine Nl (f:=CB) (λτ c e=>by unfold CB;rw[e]) (λτ e=>by unfold CB;rw[e]) (λF τ R ts b S e q F' H' xs e1 rs=>?_) h
 unfold CB at q;rw[e]at q;simp only at q;cases h1:Jf ts with
 |none=>simp only[h1]at q<;>exact q.elim
 |some j =>
  simp only[h1]at q
  by_cases hj:Bg j=true
  .simp only[hj,ydn]at q;obtain⟨g1,g2⟩:=LD hj;unfold Jf at h1;split at h1
   .cases h1;obtain⟨x1,xs1,rfl,r1,rs1⟩:=rs.inv;cases rs1.inv0;rw[r1.int_inv];exact⟨j,rfl,g1,g2,q F' H' _ e1 zde⟩
   .cases h1
  .simp only[hj]at q;exact q.elim
theorem Lv(h:GO (.nd o k l)=true)(r:Rp K F F (.nd o k l) x R0):∃p xs,x=.ref p/\(∀F' H' ,AL F F'->AL F' H'->AM K H' p xs)/\A2 K F l xs:=by
 obtain⟨p,xs,rfl,_,n,kd⟩:=DF r;refine⟨p,xs,rfl,λF' H' s1 s2=>?_,kd⟩
 cases k with
 |lst=>exact AM.of (s2 _ _ (s1 _ _ n))
 |rl=>exact s2.seq (s1.seq n.l)
 |tup=>cases h
 |rt=>cases h
 |pin q=>exact AM.of (s2 _ _ (s1 _ _ n))
theorem r_zip(hg:Gl X "zip")(hm:X.mg "zip"=none)(ha:PA X [a,b] (BX X.K E ca ms))(hs:starEach [a,b] X.env=[(false,eval a X.env),(false,eval b X.env)])(hs2:starEach [b] X.env=[(false,eval b X.env)]):PI X (.Tuple elts kk tpos) (.Call (.Name "zip" p) [a,b] [] pos) (tI X.K E ca (Fb ms)):=by
 refine PI.weak (zju hg hm ha hs hs2) λσ H P h=>?_
 refine Nl (λτ c e=>by unfold Fb;rw[e]) (λτ e=>by unfold Fb;rw[e]) (λF τ R ts b S e q F' H' xs e1 rs=>?_) h
 unfold Fb at q;rw[e]at q;cases b with
 |true=>exact q.elim
 |false =>
  simp only at q;cases h1:Je ts with
  |none=>simp only[h1]at q<;>exact q.elim
  |some lm =>
   obtain⟨l,m'⟩:=lm;simp only[h1]at q;unfold Je at h1;split at h1
   .split at h1
    .cases h1;rename_i hL;rw[ya1]at hL;obtain⟨x1,xs1,rfl,r1,rs1⟩:=rs.inv;obtain⟨x2,xs2,rfl,r2,rs2⟩:=rs1.inv;cases rs2.inv0;obtain⟨p',ys,rfl,sq,kd⟩:=Lv hL.1 r1;obtain⟨p2,zs,rfl,sq2,kd2⟩:=Lv hL.2 r2;exact⟨p',p2,rfl,⟨ys,sq F' H' (.refl _) e1.fh⟩,⟨zs,sq2 F' H' (.refl _) e1.fh⟩,q F' H' _ e1 (zhv sq sq2 kd kd2)⟩
    .cases h1
   .cases h1
end
theorem StR.set{K}(S:StR K F H σ τ R)(r:Rp K F H t x A)(d:∀j a,j≠i->R j a->¬ A a)(hi:i<τ.length) :
  StR K F H (σ.set i (some x)) (τ.set i (some t)) (λj=>if j=i then A else R j):=by
 have hl:=S.len;refine⟨S.fh,by simp[hl],λj t' e=>?_,λj a z=>?_,λj k a hjk z1 z2=>?_⟩
 .by_cases hj:j=i
  .subst hj;rw[yaa hi]at e;cases e;exact⟨x,yaa (by omega),by simpa using r⟩
  .rw[ya5 (yah hj)]at e ⊢;obtain⟨y,e1,r1⟩:=S.rep j t' e;exact⟨y,e1,by simpa[hj] using r1⟩
 .by_cases hj:j=i
  .subst hj;exact⟨t,yaa hi⟩
  .simp only[hj,ydw]at z;obtain⟨t',e⟩:=S.out j a z;exact⟨t',by rw[ya5 (yah hj)];exact e⟩
 .by_cases hj:j=i
  .simp only[hj,ydn]at z1;have hk:¬ k=i:=λz=>hjk (hj.trans z.symm)
   simp only[hk,ydw]at z2;exact d k a hk z2 z1
  .simp only[hj,ydw]at z1
   by_cases hk:k=i
   .simp only[hk,ydn]at z2;exact d j a hj z1 z2
   .simp only[hk,ydw]at z2;exact S.dis j k a hjk z1 z2
def DC(K:k7)(b:T->AI->Option AI):TG:=λv σ H Q=>∃F τ R t τ',StR K F H σ τ R/\Rp K F H t v R0/\b t τ=some τ'/\∀σ' R',StR K F H σ' τ' R'->(∀i a,R' i a->R i a)->Q σ' H
def FO(K:k7)(b:List T->AI->Option AI):G1:=λvs σ H Q=>∃F τ R ts τ',StR K F H σ τ R/\A2 K F ts vs/\b ts τ=some τ'/\∀σ' R',StR K F H σ' τ' R'->(∀i a,R' i a->R i a)->Q σ' H
def AF(i:Nat):T->AI->Option AI:=λt τ=>if i<τ.length then some (τ.set i (some t)) else none
def DM:List T->AI->Option AI
 |[],τ=>some τ
 |_::_,_=>none
def B8(b:T->AI->Option AI)(bs:List T->AI->Option AI):List T->AI->Option AI
 |t::ts,τ=>(match b t τ with
  |some τ'=>bs ts τ'
  |none=>none)
 |[],_=>none
def DB(n:Nat)(bs:List T->AI->Option AI):T->AI->Option AI
 |.nd _ .tup l,τ=>if l.length=n then bs l τ else none
 |.nd _ .rt l,τ=>if l.length=n then bs l τ else none
 |.nd _ .lst l,τ=>if l.length=n then bs l τ else none
 |_,_=>none
theorem zjy       (hc:X.calm=true)(h:Co X es t)(hn:(assignEach es X.env).length=n)(hst:(assignEach es X.env).findIdx? (·.1)=none):PG X (.Tuple es k pos) (λv σ H Q=>MA X.K n t v σ H Q\/∃a xs,v=.ref a/\AM X.K H a xs/\xs.length=n/\t xs σ H Q):=by
 intro pins s σ H v u Q I r hw
 rcases hw with hw|⟨a,xs,e1,hq,hl,hw⟩
 .exact P4 hc h hn hst pins s σ H v u Q I r hw
 .subst e1;cases r;obtain⟨its,rv,⟨o,m,ho,hcl,_,hd⟩,hz⟩:=I.list hq;refine ydc (yde ?_);unfold unpack;rw[hst,hn,show n=its.toArray.size by simp[<- hl,rv.length]]
  refine ydc (ydd (PySem.W.kun_itemsOf (I.ok.hd hc) ⟨o,ho,hcl,m,hd⟩ λh' hx=>?_))
  have I1 :=I.kept (t':=s.toks) λb o e=>hx b o (yaj (ya8 e)) e
  exact h pins _ σ H xs _ Q I1 (by grind) hw
section
variable {X:Cx}{e:Expr}{es:List Expr}{pos:Pos}{b:T->AI->Option AI}{bs:List T->AI->Option AI}
theorem PG.weak(h:PG X e t)(w:∀v σ H Q,t' v σ H Q->t v σ H Q):PG X e t':=λpins s σ H v u Q I r q=>h pins s σ H v u Q I r (w v σ H Q q)
theorem Co.weak(h:Co X es t)(w:∀v σ H Q,t' v σ H Q->t v σ H Q):Co X es t':=λpins s σ H v u Q I r q=>h pins s σ H v u Q I r (w v σ H Q q)
theorem g_nm(hN:X.N.Nodup)(hi:X.N[i]?=some x)(hx:E7 X.env.scope x)(hf:X.fn x=true\/X.env.scope.names.lookup x=some .local):PG X (.Name x pos) (DC X.K (AF i)):=by
 refine PG.weak (Iw hN hi hx hf) λv σ H Q h=>?_
 obtain⟨F,τ,R,t,τ',S,r,e,q⟩:=h;unfold AF at e;split at e
 .cases e;rename_i hl;refine q _ _ (S.set r (λ_ _ _ _ z=>z.elim) hl) λj a z=>?_
  by_cases hj:j=i
  .simp only[hj]at z;exact z.elim
  grind
 .cases e
theorem g_nil:Co X [] (FO X.K DM):=Co.weak P1 λv σ H Q h=>by
 obtain⟨F,τ,R,ts,τ',S,r,e,q⟩:=h;cases ts with
 |nil=>cases e;exact⟨r.inv0,q σ R S λ_ _ z=>z⟩
 |cons _ _=>cases e
theorem zla(h1:PG X e (DC X.K b))(h2:Co X es (FO X.K bs))(hs:(assignEach (e::es) X.env).map (·.2)=assign e X.env::(assignEach es X.env).map (·.2)):Co X (e::es) (FO X.K (B8 b bs)):=by
 refine Co.weak (Kw h1 h2 hs) λv σ H Q h=>?_
 obtain⟨F,τ,R,ts,τ',S,r,e,q⟩:=h;cases ts with
 |nil=>cases e
 |cons t ts =>
  obtain⟨x,xs,rfl,r1,rs⟩:=r.inv;unfold B8 at e;simp only at e;cases hb:b t τ with
  |none=>grind
  |some τ1 =>
   rw[hb]at e;exact⟨x,xs,rfl,F,τ,R,t,τ1,S,r1.any,hb,λσ1 R1 S1 w1=>⟨F,τ1,R1,ts,τ',S1,rs,e,λσ2 R2 S2 w2=>q σ2 R2 S2 λi a z=>w1 i a (w2 i a z)⟩⟩
theorem g_tup(hc:X.calm=true)(h:Co X es (FO X.K bs))(hn:(assignEach es X.env).length=n)(hst:(assignEach es X.env).findIdx? (·.1)=none):PG X (.Tuple es k pos) (DC X.K (DB n bs)):=by
 refine PG.weak (zjy hc h hn hst) λv σ H Q h=>?_
 obtain⟨F,τ,R,t,τ',S,r,e,q⟩:=h
 have key:∀{o:Bool} {kd:Kd} {l:List T},t=.nd o kd l->(kd=.tup\/kd=.rt\/kd=.lst)->(if l.length=n then bs l τ else none)=some τ'->(MA X.K n (FO X.K bs) v σ H Q\/∃a xs,v=.ref a/\AM X.K H a xs/\xs.length=n/\FO X.K bs xs σ H Q):=by
  intro o kd l et hk e';subst et;split at e'
  .rename_i hl;obtain⟨p,xs,rfl,_,nn,kid⟩:=DF (r.any (H':=F));have hx:xs.length=n:=by rw[<- kid.1];exact hl
   rcases hk with rfl|rfl|rfl
   .exact .inl ⟨p,xs,rfl,BD.of (S.fh _ _ nn),hx,F,τ,R,l,τ',S,kid,e',q⟩
   .exact .inl ⟨p,xs,rfl,Ec S.fh nn,hx,F,τ,R,l,τ',S,kid,e',q⟩
   .exact .inr ⟨p,xs,rfl,AM.of (S.fh _ _ nn),hx,F,τ,R,l,τ',S,kid,e',q⟩
  .cases e'
 unfold DB at e;split at e
 .exact key rfl (.inl rfl) e
 .exact key rfl (.inr (.inl rfl)) e
 .exact key rfl (.inr (.inr rfl)) e
 .cases e
end
section
end
section
variable {X:Cx}{a:Expr}{elts:List Expr}{kk ko:Nat}{tpos p pos kp vp:Pos}{E:L2.St->XK}{ca:Str->Value}{ms:Ad}
end
noncomputable def BM(b:T->AI->Option AI)(mt me:AD):List T->AI->Option (List T)
 |[],_=>some []
 |t::ts,τ=>(match b t τ with
  |some τ1=>(match mt τ1 with
   |some (.v (.bl true) _)=>(match me τ1 with
    |some (.v v false)=>(match BM b mt me ts τ1 with
     |some l=>some (v::l)
     |none=>none)
    |_=>none)
   |some (.v (.bl false) _)=>BM b mt me ts τ1
   |_=>none)
  |none=>none)
noncomputable def EZ(b:T->AI->Option AI)(mt me:AD):List T->AI->Option Str
 |[],_=>none
 |t::ts,τ=>(match b t τ with
  |some τ1=>(match mt τ1 with
   |some (.v (.bl true) _)=>(match me τ1 with
    |some (.v _ false)=>EZ b mt me ts τ1
    |some (.x c)=>some c
    |_=>none)
   |some (.v (.bl false) _)=>EZ b mt me ts τ1
   |some (.x c)=>some c
   |_=>none)
  |none=>none)
noncomputable def Ja(τ:AI)(j:Nat):Option T:=match τ[j]? with
 |some (some t)=>if t.sh then some t else none
 |_=>none
def blk(n:Nat)(caps:List Nat)(τ:AI):AI:=List.replicate n none++caps.map (Ja τ)
noncomputable def M5(σ:L2.St)(j:Nat):Option V:=match σ[j]? with
 |some (some v)=>some v
 |_=>none
def Df(n:Nat)(caps:List Nat)(σ:L2.St):L2.St:=List.replicate n none++caps.map (M5 σ)
def BL(n:Nat)(caps:List Nat)(mi:Ad)(b:T->AI->Option AI)(mt me:AD):AD:=λτ=>match mi τ with
 |some (.v ts _)=>if ts.length<=AW then (match BM b mt me ts (blk n caps τ) with
  |some l=>some (.v (.own l) false)
  |none=>(match EZ b mt me ts (blk n caps τ) with
   |some c=>some (.x c)
   |none=>none)) else none
 |some (.x c)=>some (.x c)
 |none=>none
theorem zlo{K}(S:StR K F H σ τ R)(n:Nat)(caps):StR K F H (Df n caps σ) (blk n caps τ) (λ_=>R0):=by
 refine⟨S.fh,by simp[Df,blk],λi t e=>?_,λ_ _ z=>z.elim,λ_ _ _ _ z=>z.elim⟩
 unfold blk at e;unfold Df
 by_cases hi:i<n
 .rw[yat (by simpa using hi),yce,if_pos hi]at e
  cases e
 .rw[yaz (by simp;omega),ya9]at e ⊢
  simp only[ycp]at e ⊢;cases hc:caps[i - n]? with
  |none=>rw[hc]at e;cases e
  |some j =>
   rw[hc]at e;simp only[yc8]at e ⊢;have e':Ja τ j=some t:=yao e;unfold Ja at e';split at e'
   .rename_i t' ht;split at e'
    .cases e';rename_i hs;obtain⟨x,ex,r⟩:=S.rep j _ ht;refine⟨x,?_,r.move hs (.refl _)⟩;unfold M5;rw[ex]
    .cases e'
   .cases e'
theorem Nw{l:List T}(h:tot (λj=>if j=l.length then B else Rr j) a):tot Rr a\/B a:=by
 obtain⟨j,z⟩:=h
 by_cases hj:j=l.length
 .grind
 .simp only[hj]at z;exact .inl ⟨j,z⟩
section
variable {X:Cx}{E:L2.St->XK}{ca:Str->Value}{σ:L2.St}{H:Hp}{K:k7}{n:Nat}{caps:List Nat}{mi:Ad}{b:T->AI->Option AI}{mt me:AD}
theorem zdb(h:BM b mt me (t::us) τ1=some l2):∃τ2,b t τ1=some τ2/\((∃bt,mt τ2=some (.v (.bl false) bt)/\BM b mt me us τ2=some l2)\/∃bt w l3,mt τ2=some (.v (.bl true) bt)/\me τ2=some (.v w false)/\BM b mt me us τ2=some l3/\l2=w::l3):=by
 unfold BM at h
 grind
theorem zfa(h:EZ b mt me (t::us) τ1=some c):∃τ2,b t τ1=some τ2/\((∃bt,mt τ2=some (.v (.bl false) bt)/\EZ b mt me us τ2=some c)\/(∃bt,mt τ2=some (.v (.bl true) bt)/\((∃w,me τ2=some (.v w false)/\EZ b mt me us τ2=some c)\/me τ2=some (.x c)))\/mt τ2=some (.x c)):=by
 unfold EZ at h
 grind
theorem Nf  (h:tM K E ca (BL n caps mi b mt me) σ H Q):IV (Df n caps) (tI K E ca mi) (DC K b) (Ak K (λ_=>E σ) ca mt) (tM K (λ_=>E σ) ca me) σ H Q:=by
 obtain⟨F,τ,R,S,q⟩:=h;refine⟨F,τ,R,S,?_⟩;unfold BL at q;cases hi:mi τ with
 |none=>simp only[hi]at q<;>exact q.elim
 |some r =>
  simp only[hi]at q;cases r with
  |x c=>exact q
  |v ts bb =>
   intro F1 H1 J e1 its
   by_cases hz':¬ ts.length<=AW
   .simp only[hz',ydw]at q<;>exact q.elim
   have hz :=Decidable.not_not.mp hz';simp only[hz,ydn]at q
   obtain⟨G,g1,g0,gs⟩:∃G:List T->AI->List T->Prop,(∀t us τ1 l,G (t::us) τ1 l->∃τ2,b t τ1=some τ2/\((∃bt,mt τ2=some (.v (.bl false) bt)/\G us τ2 l)\/(∃bt,mt τ2=some (.v (.bl true) bt)/\((∃w,me τ2=some (.v w false)/\G us τ2 (l++[w]))\/∃c,me τ2=some (.x c)/\∀F' H',Ext F H F' H' R0->XE (E σ) ca c F' H'))\/∃c,mt τ2=some (.x c)/\∀F' H',Ext F H F' H' R0->XE (E σ) ca c F' H')) /\
     (∀τ1 l,G [] τ1 l->∀F' H' x B,Ext F H F' H' B->Rp K F' H' (.own l) x B->Q x H')/\G ts (blk n caps τ) []:=by
    cases hg:BM b mt me ts (blk n caps τ) with
    |some res =>
     simp only[hg]at q;refine⟨λus τ1 l=>∃l2,BM b mt me us τ1=some l2/\l++l2=res,λt us τ1 l z=>?_,λτ1 l z=>?_,res,hg,rfl⟩
     .obtain⟨l2,z,e⟩:=z;obtain⟨τ2,y,w|⟨bt,w,l3,y1,y2,y3,rfl⟩⟩:=zdb z
      .obtain⟨bt,w1,w2⟩:=w;exact⟨τ2,y,.inl ⟨bt,w1,l2,w2,e⟩⟩
      .exact⟨τ2,y,.inr (.inl ⟨bt,y1,.inl ⟨w,y2,l3,y3,by simpa using e⟩⟩)⟩
     .obtain⟨l2,z,e⟩:=z;cases z;rw[yc6]at e;subst e;exact q
    |none =>
     simp only[hg]at q;cases hx:EZ b mt me ts (blk n caps τ) with
     |none=>simp only[hx]at q<;>exact q.elim
     |some c =>
      simp only[hx]at q;refine⟨λus τ1 l=>EZ b mt me us τ1=some c,λt us τ1 l z=>?_,λτ1 l z=>(by cases z),hx⟩
      obtain⟨τ2,y,w|⟨bt,y1,⟨w,y2,y3⟩|y2⟩|w⟩:=zfa z
      .exact⟨τ2,y,.inl w⟩
      .exact⟨τ2,y,.inr (.inl ⟨bt,y1,.inl ⟨w,y2,y3⟩⟩)⟩
      .exact⟨τ2,y,.inr (.inl ⟨bt,y1,.inr ⟨c,y2,q⟩⟩)⟩
      .exact⟨τ2,y,.inr (.inr ⟨c,w,q⟩)⟩
   have S1:=S.ext e1;refine⟨λi ys st H'=>∃(F':Hp) (τ':AI) (l:List T) (Rr:Nat->Rg),Ext F1 H1 F' H' (tot Rr)/\RpO K F' H' l ys Rr/\StR K F' H' st τ' (λ_=>R0)/\i<=ts.length/\G (ts.drop i) τ' l/\l.length<=i,ts.length,by rw[<- Dm];exact hz,?_,?_⟩
   .exact⟨F1,blk n caps τ,[],λ_=>R0,(Ext.refl S1.fh).mono λa ⟨_,z⟩=>z.elim,.nil,zlo S1 n caps,ybf _,gs,ya6 _⟩
   .rintro i ys st H' ⟨F',τ',l,Rr,e2,ro,S2,hle,hgo,hll⟩;have hly:=ro.len;refine⟨by omega,hle,?_⟩
    obtain⟨i1,i2⟩:=its i F' H' e2.ff e2.fh
    by_cases hlt:i<ts.length
    .refine .inr ⟨hlt,?_⟩;obtain⟨go,yld⟩:=i1 _ (ya0 hlt);refine⟨go,λx H'' y=>?_⟩
     obtain⟨F'',e3,rx⟩:=yld x H'' y;have S3:=S2.ext e3;rw[yb9 hlt]at hgo;obtain⟨τ1,hb,hgo⟩:=g1 _ _ _ _ hgo;refine⟨F'',τ',_,ts[i],τ1,S3,rx,hb,λst1 R1 S4 hR1=>?_⟩
     have R1e :=funext λj=>funext λa=>propext ⟨λz=>hR1 j a z,λz=>z.elim⟩
     subst R1e;refine⟨F'',τ1,_,S4,?_⟩;have eX:∀{c },(∀F' H',Ext F H F' H' R0->XE (E σ) ca c F' H')->∀F' H',Ext F'' H'' F' H' R0->XE (E σ) ca c F' H':=λz F' H' e=>z F' H' (((e1.trans0 e2).trans (e3.trans0 e)).mono λ_ z=>z.elim)
     rcases hgo with ⟨bt,ht,hgo⟩|⟨bt,ht,hgo⟩|⟨c,ht,hX⟩
     .rw[ht];intro F4 H4 e4;exact JX ⟨F4,τ1,l,Rr,(e2.trans ((e3.trans0 e4).mono λ_ z=>z)).mono λa z=>.inl z,(ro.ext e3).ext e4,S4.ext e4,hlt,hgo,by omega⟩
     .rw[ht];intro F4 H4 e4;have S5:=S4.ext e4;have e24:=e2.trans ((e3.trans0 e4).mono λ_ z=>z)
      refine JW ⟨F4,τ1,_,S5,?_⟩
      rcases hgo with ⟨ve,he,hgo⟩|⟨c,he,hX⟩
      .rw[he];intro F5 H5 y B e5 ry;have ry' :=ry;have ro4:=(ro.ext e3).ext e4;have ro5:=ro4.ext e5;refine⟨F5,τ1,l++[ve],_,(e24.trans e5).mono ?_,ro5.snoc ry' (λj a z1 z2=>ro4.apart e5 z2 j z1),S5.ext e5,hlt,hgo,by simp;omega⟩
       intro a z
       rcases Nw z with z|z
       .exact .inl (.inl z)
       .exact .inr z
      .rw[he];exact λF' H' e=>eX hX F' H' (e4.trans0 e)
     .rw[ht];exact eX hX
    .have hi':i=ts.length:=by omega
     subst hi';refine .inl ⟨i2 rfl,λp hp=>?_⟩
     rw[yd6]at hgo;obtain⟨rl,e3⟩:=ro.list e2.fh hp;refine g0 _ _ hgo F' _ _ _ (((e1.trans0 e2).trans e3).mono ?_) rl;rintro a (z|⟨j,z⟩)
     .exact .inr z
     .exact .inl ⟨j,z⟩
structure BlkOk(X:Cx)(scope:Scope)(N':List Str)(n:Nat)(caps:List Nat):Prop where
 kind:scope.kind=.function
 names:∀y∈scope.names,y.2=.local->scope.names.lookup y.1=some .local
 len:N'.length=n+caps.length
 cap:∀(k j:Nat),caps[k]?=some j->∃y,X.N[j]?=some y/\N'[n+k]?=some y/\scope.names.lookup y=some .free/\(y,NameKind.cell)∉scope.names
 free:∀y∈scope.names,y.2=.free->scope.names.lookup y.1=some .free/\(X.env.scope.names.lookup y.1=some .cell\/X.env.scope.names.lookup y.1=some .free)
theorem Li{env:Env}(y:Str):∀(names:List (Str×NameKind)),(names.map λ(n,k)=>if (k == NameKind.free && env.scope.kind == .function && env.kindOf n == some .cell) then (n,NameKind.cell) else (n,k)).lookup y =
  (names.lookup y).map λk=>if (k == NameKind.free && env.scope.kind == .function && env.kindOf y == some .cell) then .cell else k
 |[]=>rfl
 |(n,k)::r=>by
  rw[yal];cases hy:y == n with
  |true =>
   grind
  |false =>
   by_cases hc:(k == .free && env.scope.kind == .function && env.kindOf n == some .cell)=true
   .simp only[hc,ydn,yb5,hy];exact Li y r
   .simp only[hc,hy];simp only[ybi,ydw,yb5,hy];exact Li y r
theorem Km(scope)(env)(y):(relabel scope env).names.lookup y=(scope.names.lookup y).map λk=>if (k == NameKind.free && env.scope.kind == .function && env.kindOf y == some .cell) then .cell else k:=Li y scope.names
theorem Lj:∀{names:List (Str×NameKind)},names.lookup y=some k->(y,k)∈names:=λh=>yb6 h
theorem Sy   (B:BlkOk X scope N' n caps)   (I:Inv X pins σ H s) :
  ∃cl,closureFor scope X.env=pure cl/\(∀y c,cl.lookup y=some c->X.env.cells.lookup y=some c)/\(∀y,(relabel scope X.env).names.lookup y=some .cell\/(relabel scope X.env).names.lookup y=some .free->(y,NameKind.cell)∈scope.names\/∃c,cl.lookup y=some c) /\
   (∀(σ:L2.St) (i:Nat) (y:Str) (v:V),N'[i]?=some y->(Df n caps σ)[i]?=some (some v)->(y,NameKind.cell)∉scope.names) /\
   (∀σ:L2.St,σ.length=X.N.length->(Df n caps σ).length=N'.length) /\
   (∀(σ ) (i:Nat) (y:Str) (v:V),N'[i]?=some y->(Df n caps σ)[i]?=some (some v)->((relabel scope X.env).names.lookup y=some .cell\/(relabel scope X.env).names.lookup y=some .free)/\∃j:Nat,X.N[j]?=some y/\σ[j]?=some (some v)/\Bs X.env.scope y/\X.env.kindOf y≠some .local):=by
 obtain⟨cl,h1,h2,h3⟩:=zc3 scope X.env λy hy hf=>I.ok.has y.1 (B.free y hy hf).2
 have EI:∀(σ ) (i:Nat) (y ) (v ),N'[i]?=some y->(Df n caps σ)[i]?=some (some v)->∃j:Nat,X.N[j]?=some y/\σ[j]?=some (some v)/\scope.names.lookup y=some .free/\(y,NameKind.cell)∉scope.names:=by
  intro σ i y v e1 e2;unfold Df at e2
  by_cases hi:i<n
  .rw[yat (by simpa using hi),yce,if_pos hi]at e2
   cases e2
  .rw[yaz (by simp;omega),ya9]at e2
   simp only[ycp]at e2;cases hc:caps[i - n]? with
   |none=>rw[hc]at e2;cases e2
   |some j =>
    rw[hc]at e2;simp only[yc8]at e2;have e' :=yao e2;obtain⟨y',g1,g2,g3,g4⟩:=B.cap (i - n) j hc;have en:n+(i - n)=i:=by omega
    rw[en,e1]at g2;cases g2
    have sv :=by
     unfold M5 at e';split at e'
     .rename_i v' hv;cases e';exact hv
     .cases e'
    exact⟨j,g1,sv,g3,g4⟩
 refine⟨cl,h1,h2,λy hy=>?_,λσ i y v e1 e2=>?_,λσ hσ=>by simp[Df,B.len],λσ i y v e1 e2=>?_⟩
 .cases hk:scope.names.lookup y with
  |none =>
   rw[Km,hk]at hy
   rcases hy with hy|hy<;>cases hy
  |some k =>
   by_cases hf:k=.free
   .subst hf;exact .inr (h3 _ (Lj hk) rfl)
   .rw[Km,hk]at hy;simp only[yc8]at hy;have hf' :=beq_eq_false_iff_ne.mpr hf;simp only[hf',Bool.false_and,ybi,ydw]at hy
    rcases hy with hy|hy
    .cases hy;exact .inl (Lj hk)
    .cases hy;exact absurd rfl hf
 .exact(EI σ i y v e1 e2).choose_spec.2.2.2
 .obtain⟨j,g1,sv,g3,g4⟩:=EI σ i y v e1 e2;have fr:=B.free _ (Lj g3) rfl;refine⟨?_,j,g1,sv,?_,?_⟩
  .rw[Km,g3];simp only[yc8]
   by_cases hc2:(NameKind.free == NameKind.free && X.env.scope.kind == .function && X.env.kindOf y == some .cell)=true
   .exact .inl (by rw[if_pos hc2])
   .exact .inr (by rw[if_neg hc2])
  .rcases fr.2 with z|z
   .exact .inr (.inl z)
   .exact .inr (.inr z)
  .intro z;have z':X.env.scope.names.lookup y=some .local:=z
   rcases fr.2 with w|w
   .rw[z']at w;cases w
   .rw[z']at w;cases w
theorem r_lcV(B:BlkOk X scope N' n caps)(hc:∀pins σ H s cl C ex xb,Inv X pins σ H s->cq (A9 X scope cl N' C s H ex xb))(hi:PJ cq X tg iter (tI X.K E ca mi))
  (hps:Aw X E) (hst:Fk X) (hg:∀cl C s₀ H₀ ex xb E',Aw (A9 X scope cl N' C s₀ H₀ ex xb) E'->PG (A9 X scope cl N' C s₀ H₀ ex xb) tg (DC X.K b)) (ht:∀cl C s₀ H₀ ex xb E',Aw (A9 X scope cl N' C s₀ H₀ ex xb) E'->FH (A9 X scope cl N' C s₀ H₀ ex xb) ifs (Ak X.K E' ca mt)) (he:∀cl C s₀ H₀ ex xb E',Aw (A9 X scope cl N' C s₀ H₀ ex xb) E'->PE (A9 X scope cl N' C s₀ H₀ ex xb) elt (tM X.K E' ca me))
  (hs:∀x,foldedSetIterable iter X.env x=pure x):PE X (.ListComp elt [⟨tg,iter,ifs,0⟩] scope pos) (tM X.K E ca (BL n caps mi b mt me)):=by
 intro pins s σ H Q I h;obtain⟨cl,h1,h2,h3,h4,h5,h6⟩:=Sy B I;exact zks (Df n caps) h1 B.kind B.names h2 h3 h4 h5 h6 hc hi hps hst (λcl C s₀ H₀ ex xb=>hg cl C s₀ H₀ ex xb _) (λcl C s₀ H₀ ex xb=>ht cl C s₀ H₀ ex xb _) (λcl C s₀ H₀ ex xb=>he cl C s₀ H₀ ex xb _) hs I (Nf h)
theorem r_lcS      (B:BlkOk X scope N' n caps)(hc:X.calm=true)(hi:PI X tg iter (tI X.K E ca mi))
  (hps:Aw X E) (hst:Fk X) (hg:∀cl C s₀ H₀ ex xb E',Aw (A9 X scope cl N' C s₀ H₀ ex xb) E'->PG (A9 X scope cl N' C s₀ H₀ ex xb) tg (DC X.K b)) (ht:∀cl C s₀ H₀ ex xb E',Aw (A9 X scope cl N' C s₀ H₀ ex xb) E'->FH (A9 X scope cl N' C s₀ H₀ ex xb) ifs (Ak X.K E' ca mt)) (he:∀cl C s₀ H₀ ex xb E',Aw (A9 X scope cl N' C s₀ H₀ ex xb) E'->PE (A9 X scope cl N' C s₀ H₀ ex xb) elt (tM X.K E' ca me))
  (hs:∀x,foldedSetIterable iter X.env x=pure x)  {x:Str} (hN:X.N.Nodup) (hix:X.N[i]?=some x) (hx:X.env.scope.names.lookup x=some .local)
  (hsw:swapsWith (.ListComp elt [⟨tg,iter,ifs,0⟩] scope pos) (some (.Name x pos')) pos2.line X.env=pure true):PS X (.Assign [.Name x pos'] (.ListComp elt [⟨tg,iter,ifs,0⟩] scope pos) pos2) (λD σ H=>tM X.K E ca (BL n caps mi b mt me) σ H λv H1=>D.nx (σ.set i (some v)) H1):=by
 intro pins s σ H D I h;obtain⟨cl,h1,h2,h3,h4,h5,h6⟩:=Sy B I;exact zkt (Df n caps) h1 B.kind B.names h2 h3 h4 h5 h6 hc hi hps hst (λcl C s₀ H₀ ex xb=>hg cl C s₀ H₀ ex xb _) (λcl C s₀ H₀ ex xb=>ht cl C s₀ H₀ ex xb _) (λcl C s₀ H₀ ex xb=>he cl C s₀ H₀ ex xb _) hs hN hix hx hsw I (Nf h)
end
section
variable {X:Cx}{E:L2.St->XK}{ca:Str->Value}{m mk mv:AD}{o k v:Expr}{pos p p2 ap cp:Pos}{K:k7}{elts:List Expr}{kk:Nat}{tpos:Pos}
end
set_option genInjectivity true in
inductive Out where
 |nx (τ:AI)|rt (t:T)|bk (τ:AI)|ct (τ:AI)|xc (c:Str) (τ:AI)
abbrev AH:=AI->Option Out
structure Stp(F H:Hp)(O:Rg)(F' H':Hp)(O':Rg):Prop where
 ff:AL F F'
 fh:AL F' H'
 kp:∀b u,¬ O b->H b=some u->H' b=some u
 nw:∀b,O' b->O b\/H b=none
 nf:∀b u,F' b=some u->F b=some u\/O b\/H b=none
section
variable {F H F1 H1 F2 H2:Hp}{O O1 O2 B:Rg}{R:Nat->Rg}
theorem Stp.refl(s:AL F H):Stp F H O F H O:=⟨.refl _,s,λ_ _ _ e=>e,λ_ z=>.inl z,λ_ _ e=>.inl e⟩
theorem Stp.trans(a:Stp F H O F1 H1 O1)(b:Stp F1 H1 O1 F2 H2 O2):Stp F H O F2 H2 O2 where
 ff:=a.ff.trans b.ff
 fh:=b.fh
 kp:=λx u n e=>b.kp x u (λz=>(a.nw x z).elim n λw=>by grind) (a.kp x u n e)
 nw:=λx z=>(b.nw x z).elim (a.nw x) λw=>by
  by_cases hO:O x
  .exact .inl hO
  .cases e:H x with
   |none=>simp
   |some u=>rw[a.kp x u hO e]at w;cases w
 nf:=λx u e=>(b.nf x u e).elim (a.nf x u) λz=>.inr (z.elim (a.nw x) λw=>by
  by_cases hO:O x
  .exact .inl hO
  .cases e':H x with
   |none=>simp
   |some u'=>rw[a.kp x u' hO e']at w;cases w)
theorem Stp.mono(a:Stp F H O F1 H1 O1)(h:∀x,O2 x->O1 x):Stp F H O F1 H1 O2:=⟨a.ff,a.fh,a.kp,λx z=>a.nw x (h x z),a.nf⟩
theorem Ext.stp(e:Ext F H F1 H1 B):Stp F H O F1 H1 (λx=>O x\/B x):=⟨e.ff,e.fh,λb u _ q=>e.hh b u q,λb z=>z.elim .inl λz=>.inr (e.nb b z),λb u q=>(e.nf b u q).elim .inl λz=>.inr (.inr z)⟩
theorem Ext.stp0(e:Ext F H F1 H1 B):Stp F H O F1 H1 O:=e.stp.mono λ_ z=>.inl z
end
section
def Wr(K:k7)(mu:Bool)(F H:Hp)(t:T)(x:V)(B:Rg):Prop:=match mu with
 |false=>Rp K F H t x B
 |true=>∃v q l,t=.own [v,.nd true (.pin q) l]/\v.flat=true/\Rp K F H v x R0/\Rp K F H (.nd true (.pin q) l) (.ref q) B
def pS(K:k7)(E:L2.St->XK)(ca:Str->Value)(mu:Bool)(D:Ends)(F H:Hp)(R:Nat->Rg):Option Out->Prop
 |some (.nx τ')=>∀F' H' σ' R',Stp F H (tot R) F' H' (tot R')->StR K F' H' σ' τ' R'->D.nx σ' H'
 |some (.bk τ')=>∀F' H' σ' R',Stp F H (tot R) F' H' (tot R')->StR K F' H' σ' τ' R'->D.bk σ' H'
 |some (.ct τ')=>∀F' H' σ' R',Stp F H (tot R) F' H' (tot R')->StR K F' H' σ' τ' R'->D.ct σ' H'
 |some (.rt t)=>∀F' H' x B,Stp F H (tot R) F' H' B->Wr K mu F' H' t x B->D.rt x H'
 |some (.xc c τ')=>∀F' H' σ' R',Stp F H (tot R) F' H' (tot R')->StR K F' H' σ' τ' R'->XE (E σ') ca c F' H'
 |none=>False
def tS(K:k7)(E:L2.St->XK)(ca:Str->Value)(mu:Bool)(m:AH):TS:=λD σ H=>∃F τ R,StR K F H σ τ R/\pS K E ca mu D F H R (m τ)
end
def AG(m n:AH):AH:=λτ=>match m τ with
 |some (.nx τ')=>n τ'
 |r=>r
def Ag:AH:=λτ=>some (.nx τ)
def Iq:AH:=λ_=>none
def Ed(m:AD):AH:=λτ=>match m τ with
 |some (.v _ _)=>some (.nx τ)
 |some (.x c)=>some (.xc c τ)
 |none=>none
def A8(m:AD):AH:=λτ=>match m τ with
 |some (.v t _)=>some (.rt t)
 |some (.x c)=>some (.xc c τ)
 |none=>none
def Kc:AH:=λ_=>some (.rt .non)
noncomputable def Ae(m:AD)(b:T->AI->Option AI):AH:=λτ=>match m τ with
 |some (.v t false)=>(match b t.share τ with
  |some τ'=>some (.nx τ')
  |none=>none)
 |some (.v _ true)=>none
 |some (.x c)=>some (.xc c τ)
 |none=>none
noncomputable def DO(i:Nat)(m:AD):AH:=λτ=>match m τ with
 |some (.v t false)=>if i<τ.length then some (.nx (τ.set i (some t))) else none
 |some (.v _ true)=>none
 |some (.x c)=>some (.xc c τ)
 |none=>none
noncomputable def GA(i:Nat):AH:=λτ=>match τ[i]? with
 |some (some t)=>some (.nx (τ.set i (some t.share)))
 |_=>some (.nx τ)
def Aj(c:AD)(a b:AH):AH:=λτ=>match c τ with
 |some (.v (.bl true) _)=>a τ
 |some (.v (.bl false) _)=>b τ
 |some (.x c)=>some (.xc c τ)
 |_=>none
noncomputable def By(b:T->AI->Option AI)(body:AH):List T->AH
 |[],τ=>some (.nx τ)
 |t::ts,τ=>(match b t τ with
  |some τ1=>(match body τ1 with
   |some (.nx τ2)=>By b body ts τ2
   |some (.ct τ2)=>By b body ts τ2
   |some (.bk τ2)=>some (.nx τ2)
   |r=>r)
  |none=>none)
def CP(mi:Ad)(b:T->AI->Option AI)(body:AH):AH:=λτ=>match mi τ with
 |some (.v ts _)=>By b body ts τ
 |some (.x c)=>some (.xc c τ)
 |none=>none
section
variable {mu:Bool}{X:Cx}{E:L2.St->XK}{ca:Str->Value}{σ:L2.St}{H:Hp}{K:k7}{m mk mc:AD}{ms mi:Ad}{b:T->AI->Option AI}{u w:AH}{D:Ends}{e c tg iter:Expr}{st:Stmt}{Al body sa sb:List Stmt}{pos pos':Pos}
theorem PS.weak(h:PS X st t)(w:∀D σ H,t' D σ H->t D σ H):PS X st t':=λpins s σ H D I q=>h pins s σ H D I (w D σ H q)
theorem Aq.weak(h:Aq X Al t)(w:∀D σ H,t' D σ H->t D σ H):Aq X Al t':=λpins s σ H D I q=>h pins s σ H D I (w D σ H q)
theorem zik(h:tS K E ca mu (AG u w) D σ H):N7 (tS K E ca mu u) (tS K E ca mu w) D σ H:=by
 obtain⟨F,τ,R,S,q⟩:=h;refine⟨F,τ,R,S,?_⟩;unfold AG at q;cases hm:u τ with
 |none=>simp only[hm]at q<;>exact q.elim
 |some o =>
  simp only[hm]at q;cases o with
  |nx τ' =>
   intro F1 H1 σ1 R1 s1 S1;refine⟨F1,τ',R1,S1,?_⟩;cases hw:w τ' with
   |none=>simp only[hw]at q<;>exact q.elim
   |some o =>
    simp only[hw]at q;cases o with
    |nx _=>exact λF' H' σ' R' s S=>q F' H' σ' R' (s1.trans s) S
    |bk _=>exact λF' H' σ' R' s S=>q F' H' σ' R' (s1.trans s) S
    |ct _=>exact λF' H' σ' R' s S=>q F' H' σ' R' (s1.trans s) S
    |rt _=>exact λF' H' x B s r=>q F' H' x B (s1.trans s) r
    |xc _ _=>exact λF' H' σ' R' s S=>q F' H' σ' R' (s1.trans s) S
  |rt _=>exact q
  |bk _=>exact q
  |ct _=>exact q
  |xc _ _=>exact q
theorem s_nil:Aq X [] (tS X.K E ca mu Ag):=Aq.weak zgu λD σ H h=>by
 obtain⟨F,τ,R,S,q⟩:=h;exact q F H σ R (Stp.refl S.fh) S
theorem OO(h1:PS X st (tS X.K E ca mu u))(h2:Aq X Al (tS X.K E ca mu w)):Aq X (st::Al) (tS X.K E ca mu (AG u w)):=Aq.weak (Ks h1 h2) λD σ H h=>zik h
theorem OB(h1:PS X st (tS X.K E ca mu u)):Aq X [st] (tS X.K E ca mu u):=Kr h1
theorem OC:PS X st (tS X.K E ca mu Iq):=λpins s σ H D I h=>by
 obtain⟨_,_,_,_,q⟩:=h;exact q.elim
theorem zj0:PS X (.Pass pos) (tS X.K E ca mu Ag):=PS.weak zgw λD σ H h=>by
 obtain⟨F,τ,R,S,q⟩:=h;exact q F H σ R (Stp.refl S.fh) S
theorem zil  (h:tS K E ca mu (AG (GA i) w) D σ H):tS K E ca mu w D σ H:=by
 obtain⟨F,τ,R,S,q⟩:=h;unfold AG GA at q;cases ht:τ[i]? with
 |none =>
  rw[ht]at q;exact⟨F,τ,R,S,q⟩
 |some ot =>
  rw[ht]at q;cases ot with
  |none=>exact⟨F,τ,R,S,q⟩
  |some t =>
   simp only at q;obtain⟨x,ex,r⟩:=S.rep i t ht;have hi :=(ya3.mp ht).1;have n:∀a,R i a->F a=none:=λa z=>(r.dom z).1
   have S0:StR K (frz F H (R i)) H σ (τ.set i (some t.share)) (λj=>if j=i then R0 else R j):=by
    refine⟨GV S.fh,by simpa using S.len,λj t' e=>?_,λj a z=>?_,λj k a hjk z1 z2=>?_⟩
    .by_cases hj:j=i
     .subst hj;rw[yaa hi]at e;cases e;exact⟨x,ex,by simpa using r.share (D0 n) λa u z q=>by rw[Cz z];exact q⟩
     .rw[ya5 (yah hj)]at e;obtain⟨y,e1,r1⟩:=S.rep j t' e;refine⟨y,e1,?_⟩;simp only[hj,ydw]
      exact r1.frame (D0 n) λa z=>⟨rfl,by
       rw[DZ (λz'=>S.dis j i a hj z z')]
       exact(r1.dom z).1⟩
    .by_cases hj:j=i
     .simp only[hj,ydn]at z;exact z.elim
     .simp only[hj,ydw]at z;obtain⟨t',e⟩:=S.out j a z;exact⟨t',by rw[ya5 (yah hj)];exact e⟩
    .by_cases hj:j=i
     .simp only[hj,ydn]at z1;exact z1.elim
     .by_cases hk:k=i
      .simp only[hk,ydn]at z2;exact z2.elim
      .simp only[hj,ydw]at z1;simp only[hk,ydw]at z2;exact S.dis j k a hjk z1 z2
   have st0:Stp F H (tot R) (frz F H (R i)) H (tot λj=>if j=i then R0 else R j):=by
    refine⟨D0 n,GV S.fh,λ_ _ _ e=>e,λb ⟨j,z⟩=>?_,λb u e=>?_⟩
    .by_cases hj:j=i
     .simp only[hj,ydn]at z;exact z.elim
     .simp only[hj,ydw]at z;exact .inl ⟨j,z⟩
    .by_cases hb:R i b
     .exact .inr (.inl ⟨i,hb⟩)
     .rw[DZ hb]at e;exact .inl e
   refine⟨_,_,_,S0,?_⟩;cases hw:w (τ.set i (some t.share)) with
   |none=>simp only[hw]at q<;>exact q.elim
   |some o =>
    simp only[hw]at q;cases o with
    |nx _=>exact λF' H' σ' R' s S=>q F' H' σ' R' (st0.trans s) S
    |bk _=>exact λF' H' σ' R' s S=>q F' H' σ' R' (st0.trans s) S
    |ct _=>exact λF' H' σ' R' s S=>q F' H' σ' R' (st0.trans s) S
    |rt _=>exact λF' H' x B s r=>q F' H' x B (st0.trans s) r
    |xc _ _=>exact λF' H' σ' R' s S=>q F' H' σ' R' (st0.trans s) S
theorem s_frz(h:Aq X Al (tS X.K E ca mu w)):Aq X Al (tS X.K E ca mu (AG (GA i) w)):=Aq.weak h λD σ H h=>zil h
theorem s_exp(he:PE X e (tM X.K E ca m))(hs:swapsWith e none pos.line X.env=pure false):PS X (.Expr e pos) (tS X.K E ca mu (Ed m)):=by
 refine PS.weak (EU he hs) λD σ H h=>?_
 obtain⟨F,τ,R,S,q⟩:=h;refine⟨F,τ,R,S,?_⟩;unfold Ed at q;cases hm:m τ with
 |none=>simp only[hm]at q<;>exact q.elim
 |some r =>
  simp only[hm]at q;cases r with
  |x c=>exact λF' H' e=>q F' H' σ R e.stp0 (S.ext e)
  |v t bb=>exact λF' H' x B e g=>q F' H' σ R e.stp0 (S.ext e)
theorem s_ret(he:PE X e (tM X.K E ca m)):PS X (.Return (some e) pos) (tS X.K E ca false (A8 m)):=by
 refine PS.weak (zjr he) λD σ H h=>?_
 obtain⟨F,τ,R,S,q⟩:=h;refine⟨F,τ,R,S,?_⟩;unfold A8 at q;cases hm:m τ with
 |none=>simp only[hm]at q<;>exact q.elim
 |some r =>
  simp only[hm]at q;cases r with
  |x c=>exact λF' H' e=>q F' H' σ R e.stp0 (S.ext e)
  |v t bb =>
   intro F' H' x B e g;cases bb with
   |false=>exact q F' H' x B (e.stp.mono λ_ z=>.inr z) g
   |true =>
    obtain⟨_,A,hA,r⟩:=g;exact q F' H' x A (e.stp.mono λa z=>.inl (hA a z)) r
theorem ziz:PS X (.Return none pos) (tS X.K E ca false Kc):=PS.weak zgv λD σ H h=>by
 obtain⟨F,τ,R,S,q⟩:=h;exact q F H .non R0 ((Stp.refl S.fh).mono λ_ z=>z.elim) .non
theorem s_if(hc:PT X c (Ak X.K E ca mc))(ha:Aq X sa (tS X.K E ca mu u))(hb:Aq X sb (tS X.K E ca mu w)):PS X (.If c sa sb pos) (tS X.K E ca mu (Aj mc u w)):=by
 refine PS.weak (ps_if hc ha hb) λD σ H h=>?_
 obtain⟨F,τ,R,S,q⟩:=h;refine⟨F,τ,R,S,?_⟩;unfold Aj at q;cases hm:mc τ with
 |none=>simp only[hm]at q<;>exact q.elim
 |some r =>
  simp only[hm]at q;cases r with
  |x c=>exact λF' H' e=>q F' H' σ R e.stp0 (S.ext e)
  |v t bb =>
   cases t with
   |bl k =>
    intro F1 H1 e1;have S1:=S.ext e1
    have key:∀{mm },(match mm τ with
      |some (.nx τ')=>∀F' H' σ' R',Stp F H (tot R) F' H' (tot R')->StR X.K F' H' σ' τ' R'->D.nx σ' H'
      |some (.bk τ')=>∀F' H' σ' R',Stp F H (tot R) F' H' (tot R')->StR X.K F' H' σ' τ' R'->D.bk σ' H'
      |some (.ct τ')=>∀F' H' σ' R',Stp F H (tot R) F' H' (tot R')->StR X.K F' H' σ' τ' R'->D.ct σ' H'
      |some (.rt t)=>∀F' H' x B,Stp F H (tot R) F' H' B->Wr X.K mu F' H' t x B->D.rt x H'
      |some (.xc c τ')=>∀F' H' σ' R',Stp F H (tot R) F' H' (tot R')->StR X.K F' H' σ' τ' R'->XE (E σ') ca c F' H'
      |none=>False)->tS X.K E ca mu mm D σ H1:=λ{mm} q=>by
     refine⟨F1,τ,R,S1,?_⟩;cases hr:mm τ with
     |none=>simp only[hr]at q<;>exact q.elim
     |some o =>
      simp only[hr]at q;cases o with
      |nx _=>exact λF' H' σ' R' s S=>q F' H' σ' R' (e1.stp0.trans s) S
      |bk _=>exact λF' H' σ' R' s S=>q F' H' σ' R' (e1.stp0.trans s) S
      |ct _=>exact λF' H' σ' R' s S=>q F' H' σ' R' (e1.stp0.trans s) S
      |rt _=>exact λF' H' x B s r=>q F' H' x B (e1.stp0.trans s) r
      |xc _ _=>exact λF' H' σ' R' s S=>q F' H' σ' R' (e1.stp0.trans s) S
    cases k with
    |true=>exact JW (key q)
    |false=>exact JX (key q)
   |_=>exact q.elim
theorem KY  (hg:∀v σ H Q,DC K b v σ H Q->g v σ H Q)(h:tS K E ca mu (Ae m b) D σ H):Ea (tM K E ca m) g D σ H:=by
 obtain⟨F,τ,R,S,q⟩:=h;refine⟨F,τ,R,S,?_⟩;unfold Ae at q;cases hm:m τ with
 |none=>simp only[hm]at q<;>exact q.elim
 |some r =>
  simp only[hm]at q;cases r with
  |x c=>exact λF' H' e=>q F' H' σ R e.stp0 (S.ext e)
  |v t bb =>
   cases bb with
   |true=>exact q.elim
   |false =>
    intro F1 H1 x B e1 g1;obtain⟨F2,e2,_,r2⟩:=Cp.frz S e1 g1;cases hb:b t.share τ with
    |none=>simp only[hb]at q<;>exact q.elim
    |some τ' =>
     simp only[hb]at q;refine hg _ _ _ _ ⟨F2,τ,R,t.share,τ',S.ext e2,(r2).any,hb,λσ' R' S' hR=>?_⟩
     exact q F2 H1 σ' R' (e2.stp0.mono λa ⟨i,z⟩=>⟨i,hR i a z⟩) S'
theorem R9(h:DC K (AF i) v σ H Q):DY i v σ H Q:=by
 obtain⟨F,τ,R,t,τ',S,r,e,q⟩:=h;unfold AF at e;split at e
 .cases e;rename_i hl;refine q _ _ (S.set r (λ_ _ _ _ z=>z.elim) hl) λj a z=>?_
  by_cases hj:j=i
  .simp only[hj]at z;exact z.elim
  grind
 .cases e
theorem ziw(hN:X.N.Nodup)(hi:X.N[i]?=some x)(hx:E7 X.env.scope x)(he:PE X e (tM X.K E ca m))(hs:swapsWith e (some (.Name x pos')) pos.line X.env=pure false)(hf:X.fn x=true\/X.env.scope.names.lookup x=some .local) :
  PS X (.Assign [.Name x pos'] e pos) (tS X.K E ca mu (Ae m (AF i))):=PS.weak (Kt hN hi hx he hs hf) λD σ H h=>KY (λ_ _ _ _ z=>R9 z) h
theorem zix(he:PE X e (tM X.K E ca m))(hg:PG X tg (DC X.K b))(hs:swapsWithSole [tg] e pos.line X.env=pure false)(hw:swappedStores [tg] e X.env=pure none)(h1:(assignEach [tg] X.env).map (·.2)=[assign tg X.env]) :
  PS X (.Assign [tg] e pos) (tS X.K E ca mu (Ae m b)):=PS.weak (PX he hg hs hw h1) λD σ H h=>KY (λ_ _ _ _ z=>z) h
theorem N8  (h:tS K E ca mu (DO i m) D σ H):Ea (tM K E ca m) (DY i) D σ H:=by
 obtain⟨F,τ,R,S,q⟩:=h;refine⟨F,τ,R,S,?_⟩;unfold DO at q;cases hm:m τ with
 |none=>simp only[hm]at q<;>exact q.elim
 |some r =>
  simp only[hm]at q;cases r with
  |x c=>exact λF' H' e=>q F' H' σ R e.stp0 (S.ext e)
  |v t bb =>
   cases bb with
   |true=>exact q.elim
   |false =>
    intro F1 H1 x B e1 g1;have g1' :=g1;have S1:=S.ext e1
    by_cases hl:i<τ.length
    .simp only[hl]at q;refine q F1 H1 _ _ (e1.stp.mono ?_) (S1.set g1' (λj a _ z1 z2=>S.apart e1 z2 j z1) hl)
     rintro a ⟨j,z⟩
     by_cases hj:j=i
     .grind
     .simp only[hj]at z;exact .inl ⟨j,z⟩
    .simp only[hl]at q<;>exact q.elim
theorem zj1(hN:X.N.Nodup)(hi:X.N[i]?=some x)(hx:E7 X.env.scope x)(he:PE X e (tM X.K E ca m))(hs:swapsWith e (some (.Name x pos')) pos.line X.env=pure false)(hf:X.fn x=true\/X.env.scope.names.lookup x=some .local) :
  PS X (.Assign [.Name x pos'] e pos) (tS X.K E ca mu (DO i m)):=PS.weak (Kt hN hi hx he hs hf) λD σ H h=>N8 h
theorem s_for(hp:PassesOwn (model X.prog X.w) X.A X.env X.xe)(hc:X.calm=true)(hi:PI X tg iter (tI X.K E ca mi))(hg:PG X tg (DC X.K b))(hb:Aq X body (tS X.K E ca mu u))(hs:∀x,foldedSetIterable iter X.env x=pure x) :
  PS X (.For tg iter body [] pos) (tS X.K E ca mu (CP mi b u)):=by
 refine PS.weak (Ku hp hc hi hg hb hs) λD σ H h=>?_
 obtain⟨F,τ,R,S,q⟩:=h;refine⟨F,τ,R,S,?_⟩;unfold CP at q;cases hm:mi τ with
 |none=>simp only[hm]at q<;>exact q.elim
 |some r =>
  simp only[hm]at q;cases r with
  |x c=>exact λF' H' e=>q F' H' σ R e.stp0 (S.ext e)
  |v ts bb =>
   intro F1 H1 J e1 its;simp only at q;have S1:=S.ext e1;cases hg:By b u ts τ with
   |none=>simp only[hg]at q<;>exact q.elim
   |some out =>
    simp only[hg]at q;refine⟨λi mm σ' H'=>mm=ts.length - i/\i<=ts.length/\∃F' τ' R',Stp F H (tot R) F' H' (tot R')/\AL F1 F'/\StR X.K F' H' σ' τ' R'/\By b u (ts.drop i) τ'=some out,⟨ts.length,by simp,ybf _,F1,τ,R,e1.stp0,.refl _,S1,by simpa using hg⟩,?_⟩
    rintro i mm σ' H' ⟨rfl,hle,F',τ',R',st,sf,S',hgo⟩;obtain⟨i1,i2⟩:=its i F' H' sf S'.fh
    by_cases hlt:i<ts.length
    .refine .inr ⟨(i1 _ (ya0 hlt)).1,λσ2 H2=>i+1<=ts.length/\∃F2 τ2 R2,Stp F H (tot R) F2 H2 (tot R2)/\AL F1 F2/\StR X.K F2 H2 σ2 τ2 R2/\By b u (ts.drop (i+1)) τ2=some out,λσ2 H2 n2=>⟨ts.length - (i+1),by omega,rfl,n2⟩,λx H'' y=>?_⟩
     obtain⟨F'',e3,rx⟩:=(i1 _ (ya0 hlt)).2 x H'' y;have S3:=S'.ext e3;rw[yb9 hlt]at hgo;unfold By at hgo;cases hb2:b ts[i] τ' with
     |none=>simp only[hb2]at hgo;cases hgo
     |some τ1 =>
      simp only[hb2]at hgo;refine⟨F'',τ',R',ts[i],τ1,S3,rx,hb2,λσ3 R3 S4 hR3=>?_⟩
      have st3:Stp F H (tot R) F'' H'' (tot R3):=(st.trans e3.stp0).mono λa ⟨j,z⟩=>⟨j,hR3 j a z⟩
      refine⟨F'',τ1,R3,S4,?_⟩;cases hu:u τ1 with
      |none=>simp only[hu]at hgo;cases hgo
      |some o =>
       simp only[hu]at hgo;cases o with
       |nx τ2=>exact λF4 H4 σ4 R4 s4 S5=>⟨hlt,F4,τ2,R4,st3.trans s4,(sf.trans e3.ff).trans s4.ff,S5,hgo⟩
       |ct τ2=>exact λF4 H4 σ4 R4 s4 S5=>⟨hlt,F4,τ2,R4,st3.trans s4,(sf.trans e3.ff).trans s4.ff,S5,hgo⟩
       |bk τ2 =>
        cases hgo;exact λF4 H4 σ4 R4 s4 S5=>q F4 H4 σ4 R4 (st3.trans s4) S5
       |rt v =>
        cases hgo;exact λF4 H4 x B s4 r=>q F4 H4 x B (st3.trans s4) r
       |xc cc τ2 =>
        cases hgo;exact λF4 H4 σ4 R4 s4 S5=>q F4 H4 σ4 R4 (st3.trans s4) S5
    .have hi':i=ts.length:=by omega
     subst hi';refine .inl ⟨i2 rfl,?_⟩;rw[yd6]at hgo;unfold By at hgo;cases hgo;exact q F' H' σ' R' st S'
end
section
variable {K:k7}{F H:Hp}{l:List T}{xs:List V}{Rr:Nat->Rg}{p:Addr}{o:HO}
theorem Rp.own_inv(h:Rp K F H (.nd true k l) x A)(n:k.isT=false):∃p xs Rr,x=.ref p/\A=(λa=>a=p\/∃j,Rr j a)/\F p=none/\H p=some (.lst xs)/\RpO K F H l xs Rr/\(∀j,¬ Rr j p)/\G9 k p:=by
 cases h with
 |own hk R f h e c d dp o=>exact⟨_,_,R,rfl,rfl,f,RZ n▸h,⟨e,c,d,o⟩,dp,hk⟩
theorem LA(hk:G9 k p)(r:RpO K F H l xs Rr)(f:F p=none)(h:H p=some (.lst xs))(dp:∀j,¬ Rr j p)(n:k.isT=false):Rp K F H (.nd true k l) (.ref p) (λa=>a=p\/∃j,Rr j a):=.own hk Rr f (RZ n▸h) r.len r.rep r.dis dp r.out
theorem RpO.upd(r:RpO K F H l xs Rr)(dp:∀j,¬ Rr j p):RpO K F (L2.upd H p o) l xs Rr:=⟨r.len,λi t x h1 h2=>(r.rep i t x h1 h2).frame (.refl _) λa z=>⟨AZ (λe=>dp i (e▸z)),(r.dom z).1⟩,r.dis,r.out⟩
theorem Rp.upd(r:Rp K F H t x A)(dp:¬ A p):Rp K F (L2.upd H p o) t x A:=r.frame (.refl _) λa z=>⟨AZ (λe=>dp (e▸z)),(r.dom z).1⟩
theorem RpO.set(r:RpO K F H l xs Rr)(hj:j0<l.length)(rt:Rp K F H t y B)(d:∀j a,j≠j0->Rr j a->¬ B a):RpO K F H (l.set j0 t) (xs.set j0 y) (λj=>if j=j0 then B else Rr j):=by
 have hl:=r.len;refine⟨by simp[hl],λi t' x' h1 h2=>?_,λi k a hik z1 z2=>?_,λi a z=>?_⟩
 .by_cases hi:i=j0
  .grind
  .rw[ya5 (yah hi)]at h1 h2
   simpa[hi] using r.rep i t' x' h1 h2
 .by_cases hi:i=j0
  .grind
  .simp only[hi,ydw]at z1
   by_cases hk:k=j0
   .simp only[hk,ydn]at z2;exact d i a hi z1 z2
   .simp only[hk,ydw]at z2;exact r.dis i k a hik z1 z2
 .by_cases hi:i=j0
  .simp[hi];omega
  .simp only[hi,ydw]at z
   simpa using r.out i a z
variable {σ:L2.St}{τ:AI}{R:Nat->Rg}
theorem StR.upd(S:StR K F H σ τ R){A' B:Rg}(ht:τ[i]?=some (some t))(hx:σ[i]?=some (some x))(hp:R i p)(r':Rp K F (L2.upd H p o) t' x A')(hA:∀a,A' a->R i a\/B a)(hB:∀j a,R j a->¬ B a) :
  StR K F (L2.upd H p o) σ (τ.set i (some t')) (λj=>if j=i then A' else R j)/\Stp F H (λa=>Pu.tot R a\/B a) F (L2.upd H p o) (Pu.tot λj=>if j=i then A' else R j):=by
 have fp :=(S.dom hp).1;have hi :=(ya3.mp ht).1
 have fh':AL F (L2.upd H p o):=λb u e=>by
  rw[AZ (λz=>by rw[z,fp]at e;cases e)]
  exact S.fh b u e
 refine⟨⟨fh',by simpa using S.len,λj t1 e=>?_,λj a z=>?_,λj k a hjk z1 z2=>?_⟩,⟨.refl _,fh',λb u n e=>?_,λb ⟨j,z⟩=>?_,λb u e=>.inl e⟩⟩
 .by_cases hj:j=i
  .subst hj;rw[yaa hi]at e;cases e;exact⟨x,hx,by simpa using r'⟩
  .rw[ya5 (yah hj)]at e;obtain⟨y,e1,r1⟩:=S.rep j t1 e;exact⟨y,e1,by simpa[hj] using r1.upd (λz=>S.dis j i p hj z hp)⟩
 .by_cases hj:j=i
  .subst hj;exact⟨t',yaa hi⟩
  .simp only[hj,ydw]at z;obtain⟨t1,e⟩:=S.out j a z;exact⟨t1,by rw[ya5 (yah hj)];exact e⟩
 .by_cases hj:j=i
  .simp only[hj,ydn]at z1;have hk:¬ k=i:=λz=>hjk (hj.trans z.symm)
   simp only[hk,ydw]at z2
   rcases hA a z1 with w|w
   .exact S.dis i k a (yah hk) w z2
   .exact hB k a z2 w
  .simp only[hj,ydw]at z1
   by_cases hk:k=i
   .simp only[hk,ydn]at z2
    rcases hA a z2 with w|w
    .exact S.dis i j a (yah hj) w z1
    .exact hB j a z1 w
   .simp only[hk,ydw]at z2;exact S.dis j k a hjk z1 z2
 .rw[AZ (λz=>n (.inl (by rw[z];exact⟨i,hp⟩)))]
  exact e
 .by_cases hj:j=i
  .simp only[hj,ydn]at z
   rcases hA b z with w|w
   .exact .inl (.inl ⟨i,w⟩)
   .exact .inl (.inr w)
  .simp only[hj,ydw]at z;exact .inl (.inl ⟨j,z⟩)
end
def CJ(τ:AI)(i:Nat):Option (Kd×List T):=match τ[i]? with
 |some (some (.nd true k l))=>(match k with
  |.tup=>none
  |k=>some (k,l))
 |_=>none
theorem Gy(h:CJ τ i=some (k,l)):τ[i]?=some (some (.nd true k l)):=by
 unfold CJ at h
 grind
theorem GG(h:CJ τ i=some (k,l)):k.isT=false:=by
 unfold CJ at h;cases k<;>first|rfl|(exfalso;grind)
def ES(i:Nat)(m:AD):AH:=λτ=>match CJ τ i with
 |some (kd,l)=>(match m τ with
  |some (.v t false)=>if l.length<AW then some (.nx (τ.set i (some (.nd true kd (l++[t]))))) else none
  |some (.v _ true)=>none
  |some (.x c)=>some (.xc c τ)
  |none=>none)
 |none=>none
def Dj:Option T->Option (List T)
 |some (.nd true .lst l)=>some l
 |_=>none
section
variable {mu:Bool}{X:Cx}{E:L2.St->XK}{ca:Str->Value}{σ:L2.St}{H:Hp}{K:k7}{m mk mn:AD}{D:Ends}{e k n:Expr}{pos apos cpos p1 pos2 pos3:Pos}{i:Nat}{x:Str}
theorem R6(g:Cp K F H R (.int j) b y B):y=.int j:=by
 cases b with
 |true=>obtain⟨_,A,_,r⟩:=g;exact r.int_inv
 |false=>exact(g).int_inv
theorem Nv{l:List T}{Rr:Nat->Rg}(h:∃j,(λj=>if j=l.length then B else Rr j) j a):(∃j,Rr j a)\/B a:=Nw h
theorem s_app(hN:X.N[i]?=some x)(hv:Bs X.env.scope x)(hd:(x == "__debug__")=false)(hcd:(x == "__classdict__")=false)(he:PE X e (tM X.K E ca m))(hs:starEach [e] X.env=[(false,eval e X.env)])(hline:(apos.endLine == cpos.line)=true) :
  PS X (.Expr (.Call (.Attribute (.Name x p1) "append" apos) [e] [] cpos) pos) (tS X.K E ca mu (ES i m)):=by
 refine PS.weak (EU (GF yas ybc ybd HG (DD hN hv hd hcd) (CI he Ct hs) rfl (by rw[hs];rfl) hline hs rfl) rfl) λD σ H h=>?_
 obtain⟨F,τ,R,S,q⟩:=h;unfold ES at q;cases ho:CJ τ i with
 |none=>simp only[ho]at q<;>exact q.elim
 |some kl =>
  obtain⟨kd,l⟩:=kl;simp only[ho]at q;have ht:=Gy ho;obtain⟨y,ey,ry⟩:=S.rep i _ ht;obtain⟨p,xs,Rr,rfl,hA,fp,hp,ro,dp,hOw⟩:=ry.own_inv (GG ho);refine⟨_,ey,.inl ⟨rfl,xs,AM.of hp⟩,F,τ,R,S,?_⟩;cases hm:m τ with
  |none=>simp only[hm]at q<;>exact q.elim
  |some r =>
   simp only[hm]at q;cases r with
   |x c=>exact λF' H' e=>q F' H' σ R e.stp0 (S.ext e)
   |v t bb =>
    cases bb with
    |true=>exact q.elim
    |false =>
     intro F1 H1 y B e1 g1;have g1' :=g1
     by_cases hz:l.length<AW
     .simp only[hz,ydn]at q;have S1:=S.ext e1;have ro1:=ro.ext e1;have hp1:=e1.hh _ _ hp;have pB:¬ B p:=λz=>by rw[e1.nb p z]at hp;cases hp
      have fp1 :=(ry.ext e1 |>.dom (by rw[hA];exact .inl rfl)).1
      refine⟨p,xs,y,rfl,rfl,hp1,by rw[<- ro.len,<- Dm];exact hz,?_⟩
      have ro2:RpO X.K F1 (upd H1 p (.lst (xs++[y]))) (l++[t]) (xs++[y]) _:=(ro1.upd dp).snoc (g1'.upd pB) λj a z1 z2=>ro.apart e1 z2 j z1
      have dp2:∀j,¬ (if j=l.length then B else Rr j) p:=λj z=>by
       by_cases hj:j=l.length
       .simp only[hj,ydn]at z;exact pB z
       .simp only[hj,ydw]at z;exact dp j z
      have r2:=LA hOw ro2 fp1 Be dp2 (GG ho)
      obtain⟨S3,st3⟩:=S1.upd ht ey (by rw[hA];exact .inl rfl) r2 (λa z=>by
       rw[hA]
       rcases z with z|z
       .exact .inl (.inl z)
       .rcases Nv z with w|w
        .exact .inl (.inr w)
        .exact .inr w) (λj a z1 z2=>S.apart e1 z2 j z1)
      exact q F1 _ σ _ (e1.stp.trans st3) S3
     .simp only[hz,ydw]at q<;>exact q.elim
end
section
variable {X:Cx}{E:L2.St->XK}{ca:Str->Value}{σ:L2.St}{H F:Hp}{K:k7}{m mk:AD}{ms:Ad}{D:Ends}{e:Expr}{es:List Expr}{pos apos cpos p1 p2:Pos}{i j:Nat}{x y:Str}{τ:AI}{R:Nat->Rg}{mu:Bool}
theorem Rp.kind(h:Rp K F H (.nd true k l) (.ref p) A)(o:G9 k' p)(n:k.isT=false)(n':k'.isT=false):Rp K F H (.nd true k' l) (.ref p) A:=by
 obtain⟨p',xs,Rr,e,rfl,fp,hp,ro,dp,_⟩:=h.own_inv n;cases e;exact LA o ro fp hp dp n'
def Ov(t:T)(τ:AI):Option Out:=match τ[(0:Nat)]? with
 |some (some (.nd true (.pin q) l))=>some (.rt (.own [t,.nd true (.pin q) l]))
 |_=>none
set_option genInjectivity true in
inductive Mo where
 |ok (v:T) (τ:AI)|exc (c:Str) (τ:AI)
def gAll(g:List T->Option Ru)(l ts:List T)(r:T×List T):Prop:=∀p,g (.nd true (.pin p) l::ts)=some (.ok (.own [r.1,.nd true (.pin p) r.2]))
open Classical in
def gMu(g:List T->Option Ru)(l ts:List T):Option (T×List T):=if h:∃r,gAll g l ts r then some h.choose else none
def mMut(i:Nat)(g:List T->Option Ru)(ms:Ad):AI->Option Mo:=λτ=>match CJ τ i with
 |some (kd,l)=>(match ms τ with
  |some (.v ts false)=>(match gMu g l ts with
   |some (v,l')=>if v.flat then some (.ok v (τ.set i (some (.nd true kd l')))) else none
   |none=>none)
  |some (.v _ true)=>none
  |some (.x c)=>some (.exc c τ)
  |none=>none)
 |none=>none
def EO(K:k7)(ca:Str->Value)(g:List T->Option Ru):Sp:=λvs H Q E=>∃F p l ts A vs',AL F H/\vs=.ref p::vs'/\Rp K F H (.nd true (.pin p) l) (.ref p) A/\A2 K F ts vs'/\match g (.nd true (.pin p) l::ts) with
 |some (.ok t)=>∀F' H' x B,Stp F H A F' H' B->Wr K true F' H' t x B->Q x H'
 |some (.exc c)=>∀F' H',Stp F H A F' H' R0->XE E ca c F' H'
 |none=>False
variable {mm:AI->Option Mo}
end
section
variable {X:Cx}{E:L2.St->XK}{ca:Str->Value}{σ:L2.St}{H F:Hp}{K:k7}{pos apos cpos p1 p2:Pos}{i j:Nat}{x y:Str}{τ:AI}{R:Nat->Rg}{mu:Bool}
theorem StR.drop(S:StR K F H σ τ R)(j):StR K F H σ (τ.set j none) (λk=>if k=j then R0 else R k):=by
 refine⟨S.fh,by simpa using S.len,λk t e=>?_,λk a z=>?_,λk k' a hk z1 z2=>?_⟩
 .by_cases hk:k=j
  .subst hk;rw[List.getElem?_set]at e;simp only[ydn]at e;split at e<;>cases e
  .rw[ya5 (yah hk)]at e
   simpa[hk] using S.rep k t e
 .by_cases hk:k=j
  .simp only[hk,ydn]at z;exact z.elim
  .simp only[hk,ydw]at z;obtain⟨t,e⟩:=S.out k a z;exact⟨t,by rw[ya5 (yah hk)];exact e⟩
 .by_cases hk1:k=j
  .simp only[hk1,ydn]at z1;exact z1.elim
  .by_cases hk2:k'=j
   .simp only[hk2,ydn]at z2;exact z2.elim
   .simp only[hk1,ydw]at z1;simp only[hk2,ydw]at z2;exact S.dis k k' a hk z1 z2
end
abbrev Pl(A:Around):Around:={ A with handled:=none }
structure FnS(P:Program)(w:World)(K:k7)(mg:Str->Option Value)(base:Heap)(k:Nat)(f:Addr)(fd:FuncData)(p:Str)(sp:Sp):Prop where
 run:∀(A:Around) (outer:List Env) (s:Shared) (H:Hp) (args:Args) (a:Addr) (Q:VK),A.handled=some (.ref a)->(∃C,ID H a C)->Room k (Pl A)->Env0 P w K mg base A outer s H->BindsTo s fd args [(p,.ref a)]->sp [.ref a] H Q E0 ->
  codeAny (model P w) A (.call (.ref f) args) (CR Dy outer P w H s Q E0) s
structure DefS(P:Program)(w:World)(K:k7)(mg:Str->Option Value)(base:Heap)(k:Nat)(x p:Str)(sp:Sp) where
 f:Addr
 fd:FuncData
 ok:FnS P w K mg base k f fd p sp
 m:mg x=some (.ref f)
 kp:PySem.W.keepIn K (.ref f)=true
 b:Ba K fd [p] []
section
variable {X:Cx}{pins:List (Addr×Obj)}{σ:L2.St}{H:Hp}{s:Shared}{a:Addr}{kvs:List (Key×V)}
end
section
variable {X:Cx}
def tDicO:TE:=λ_ H Q=>∀p,H p=none->Q (.ref p) (upd H p (.dK []))
theorem zgz:PE X (.Dict [] [] pos) tDicO:=λpins s σ H Q I h=>by
 refine wpAny_Dict_empty ⟨.ref s.heap.objs.size,_,I.laid (λ_ _ q=>ya4 _ q) (ya6 _) (zfp s.heap I.big),rfl,h _ (I.hok.fresh (ya6 _))⟩
end
section
variable {X:Cx}{E:L2.St->XK}{ca:Str->Value}{m mk mv:AD}{e k:Expr}{pos p1 pos2:Pos}{mu:Bool}
end
section
variable {X:Cx}{E:L2.St->XK}{ca:Str->Value}{m mk:AD}{e k:Expr}{pos p1 pos2:Pos}{mu:Bool}{i:Nat}{x:Str}
end
theorem zkc(hu:X.A.units+64<cLine):AX X (compareOp .NotEq) (BH X.K B0):=by
 intro pins s σ H x y v u Q I rx ry h;obtain⟨F,t1,t2,r,fh,r1,r2,e,q⟩:=h;unfold B0 at e;split at e
 .cases e;rename_i hc;unfold Fd DK at hc;rw[ya1,ya1,ya1,ya1,yds]at hc;obtain⟨a1,q1⟩:=Eg I fh (r1.any) hc.1.1.1 rx;obtain⟨a2,q2⟩:=Eg I fh (r2.any) hc.1.2.1 ry;exact SeqAt.compareNe_reads q1 q2 hc.1.1.2 hc.1.2.2 (Se hu hc.2) ⟨.bl _,H,I,rfl,q.bl fh⟩
 .cases e
theorem StR.frz{K }       (S:StR K F H σ τ R)(ht:τ[i]?=some (some t)):StR K (Pu.frz F H (R i)) H σ (τ.set i (some t.share)) (λj=>if j=i then R0 else R j):=by
 obtain⟨x,ex,r⟩:=S.rep i t ht;have hi:i<τ.length:=(ya3.mp ht).1;have n:∀a,R i a->F a=none:=λa z=>(r.dom z).1
 refine⟨GV S.fh,by simpa using S.len,λj t' e=>?_,λj a z=>?_,λj k a hjk z1 z2=>?_⟩
 .by_cases hj:j=i
  .subst hj;rw[yaa hi]at e;cases e;exact⟨x,ex,by simpa using r.share (D0 n) λa u z q=>by rw[Cz z];exact q⟩
  .rw[ya5 (yah hj)]at e;obtain⟨y,e1,r1⟩:=S.rep j t' e;refine⟨y,e1,?_⟩;simp only[hj,ydw]
   exact r1.frame (D0 n) λa z=>⟨rfl,by
    rw[DZ (λz'=>S.dis j i a hj z z')]
    exact(r1.dom z).1⟩
 .by_cases hj:j=i
  .simp only[hj,ydn]at z;exact z.elim
  .simp only[hj,ydw]at z;obtain⟨t',e⟩:=S.out j a z;exact⟨t',by rw[ya5 (yah hj)];exact e⟩
 .by_cases hj:j=i
  .simp only[hj,ydn]at z1;exact z1.elim
  .by_cases hk:k=i
   .simp only[hk,ydn]at z2;exact z2.elim
   .simp only[hj,ydw]at z1;simp only[hk,ydw]at z2;exact S.dis j k a hjk z1 z2
open Classical in
def Di(A:Rg)(F:Hp):Hp:=λa=>if A a then none else F a
section
variable {X:Cx}{E:L2.St->XK}{ca:Str->Value}{σ:L2.St}{H:Hp}{K:k7}{u w:AH}{D:Ends}
end
theorem Qw{fs:List Str}{xs}{f}:∀{j} {x:V},fs.findIdx? (· == f)=some j->xs[j]?=some x->(fs.zip xs).lookup f=some x:=by
 induction fs generalizing xs with
 |nil=>intro j x h;simp at h
 |cons g r ih =>
  intro j x h hx;rw[yd0]at h;cases xs with
  |nil=>simp at hx
  |cons y ys =>
   rw[ybj,yb5]
   by_cases hg:g=f
   .subst hg;simp only[ydx,ydn,yd4]at h;subst h;simp at hx;rw[ydx,hx]
   .have h1:(g == f)=false:=beq_eq_false_iff_ne.mpr hg;have h2:(f == g)=false:=beq_eq_false_iff_ne.mpr (yah hg);rw[h1]at h;simp only[ybi,ydw,yad]at h;obtain⟨j',h3,rfl⟩:=h;rw[h2];exact ih h3 (by simpa using hx)
theorem zaj{fs:List Str}{xs:List V}(h:fs.contains f=false):(fs.zip xs).lookup f=none:=by
 induction fs generalizing xs with
 |nil=>rfl
 |cons g r ih =>
  cases xs with
  |nil=>rfl
  |cons y ys =>
   rw[List.contains_cons,ybp]at h;rw[ybj,yb5,h.1];exact ih h.2
theorem Rp.obj_inv{K}(h:Rp K F H (.obj k l) x A):∃p xs,x=.ref p/\A=R0/\IB F k p xs/\l.length=xs.length/\∀(i:Nat) (t) (x),l[i]?=some t->xs[i]?=some x->Rp K F H t x R0:=by
 cases h with
 |obj h e c=>exact⟨_,_,rfl,rfl,h,e,c⟩
noncomputable def F9(C:Addr)(fs:List Str):T->Option (List T)
 |.obj (.ins C' fs') l=>if C'=C/\fs'=fs then some l else none
 |_=>none
theorem RW(h:F9 C fs t=some l):t=.obj (.ins C fs) l:=by
 unfold F9 at h
 grind
def B3(C:Addr)(fs:List Str)(j:Nat)(m:AD):AD:=λτ=>match m τ with
 |some (.v t b)=>(match F9 C fs t with
  |some l=>(match l[j]? with
   |some u=>some (.v u (b && !u.sh))
   |none=>none)
  |none=>none)
 |some (.x c)=>some (.x c)
 |none=>none
def Bi(C:Addr)(fs:List Str)(g:List T->Option Ru)(m:AD)(ms:Ad):AD:=λτ=>match m τ with
 |some (.v t _)=>(match F9 C fs t with
  |some _=>(match ms τ with
   |some (.v ts b)=>(match g (t.share::ts) with
    |some (.ok v)=>Ah b v
    |some (.exc c)=>Hc true c
    |none=>none)
   |some (.x c)=>some (.x c)
   |none=>none)
  |none=>none)
 |some (.x c)=>some (.x c)
 |none=>none
def Bp(m n:AD):AD:=λτ=>match m τ with
 |some r=>some r
 |none=>n τ
section
variable {X:Cx}{E:L2.St->XK}{ca:Str->Value}{m n:AD}{ms:Ad}{e o:Expr}{es:List Expr}{pos p apos:Pos}{C:Addr}{fs:List Str}{f:Str}{j:Nat}
theorem Kp(h1:PE X e (tM X.K E ca m))(h2:PE X e (tM X.K E ca n)):PE X e (tM X.K E ca (Bp m n)):=λpins s σ H Q I h=>by
 obtain⟨F,τ,R,S,q⟩:=h;unfold Bp at q;cases hm:m τ with
 |none =>
  rw[hm]at q;exact h2 pins s σ H Q I ⟨F,τ,R,S,q⟩
 |some r =>
  rw[hm]at q;exact h1 pins s σ H Q I ⟨F,τ,R,S,by rw[hm];exact q⟩
theorem J2{K}(g:Cp K F H R (.obj k l) b x B):Rp K F H (.obj k l) x R0/\B=R0:=by
 cases b with
 |true =>
  obtain⟨hB,A,_,r⟩:=g;obtain⟨p,xs,rfl,hA,_⟩:=r.obj_inv;exact⟨hA▸r,hB⟩
 |false =>
  have r:Rp K F H (.obj k l) x B:=g;obtain⟨p,xs,rfl,hA,_⟩:=r.obj_inv;exact⟨hA▸r,hA⟩
theorem r_fld(c:Cls X.K C)(hn:Bd X.K C f)(hj:fs.findIdx? (· == f)=some j)(ho:PE X o (tM X.K E ca m))(hb:attributeBase o f X.env (eval o X.env)=eval o X.env):PE X (.Attribute o f pos) (tM X.K E ca (B3 C fs j m)):=by
 refine PE.weak (Pa ho hb) λσ H Q h=>?_
 obtain⟨F,τ,R,S,q⟩:=h;refine⟨F,τ,R,S,?_⟩;unfold B3 at q;cases hm:m τ with
 |none=>simp only[hm]at q<;>exact q.elim
 |some r =>
  simp only[hm]at q;cases r with
  |x c=>exact q
  |v t b =>
   intro F1 H1 x B e1 g1;cases hi:F9 C fs t with
   |none=>simp only[hi]at q<;>exact q.elim
   |some l =>
    simp only[hi]at q;have ht:=RW hi;subst ht;cases hu:l[j]? with
    |none=>simp only[hu]at q<;>exact q.elim
    |some u =>
     simp only[hu]at q;obtain⟨r1,hB⟩:=J2 g1;subst hB;obtain⟨a,xs,rfl,_,⟨dx,hF⟩,el,cc⟩:=r1.obj_inv;have hjl:=(ya3.mp hu).1;have hx:xs[j]?=some xs[j]:=ya0 (by omega)
     have hc:=cc j u _ hu hx;refine⟨a,_,dx,_,xs[j],rfl,e1.fh _ _ hF,c,hn,Qw hj hx,?_⟩;refine q F1 H1 _ R0 e1 ?_;cases b with
     |false=>exact hc
     |true =>
      cases hs:u.sh with
      |true=>exact hc
      |false=>exact⟨rfl,R0,λ_ z=>z.elim,hc⟩
structure MetX(P:Program)(w:World)(K:k7)(mg:Str->Option Value)(base:Heap)(C:Addr)(m:Str)(k:Nat)(ps:List Str)(sp:Sp) where
 f:Addr
 fd:FuncData
 c:Cls K C
 me:Meth K C m f
 ok:FnOk P w K mg base (CO P w) k f fd ps sp
 b:Ba K fd ps []
def KZ(C:Addr)(m:Str)(sp:Sp)(E:L2.St->XK)(ta:TE)(t:TA):TE:=λσ H Q=>ta σ H λx H1=>∃a dx fs,x=.ref a/\H1 a=some (.ins C dx fs)/\fs.lookup m=none /\
 t σ H1 λvs H2=>sp (x::vs) H2 Q (E σ)
theorem pmx(D:MetX X.prog X.w X.K X.mg X.base C f k ps sp)(hr:Room j X.A)(hx:Aw X E)(he:PE X o ta)(ha:PA X (e::es) t)(hk:k<=j)
  (hst:starEach (e::es) X.env=(false,eval e X.env)::starEach es X.env) (hpl:(backTo pos (starEach es X.env)).any (·.1)=false)
  (ht : eval (.Call (.Attribute o f apos) (e :: es) [] pos) X.env = (do
   let ov <- eval o X.env
   standAt apos.atName
   let (f,first) <- holding [ov] (getMethod ov f pl)
   callWith pos f first (backTo pos (starEach (e::es) X.env)) (backToKw pos (keywordEach [] X.env)))):PE X (.Call (.Attribute o f apos) (e::es) [] pos) (KZ C f sp E ta t):=by
 intro pins s σ H Q I h;refine PySem.W.methodCall_KW (AJ (he pins s σ H _ I h) λu s1 ⟨x,H1,I1,rx,a,dx,fs,ex,ea,l,q⟩=>?_) ht
 subst ex;obtain rfl:u=Value.ref a:=rx;refine R8 I1 ea D.c D.me l ?_;refine yc9 I.ok.mod.kin D.me.kp (AJ (ha pos pins s1 σ H1 _ I1 q) λus s2 ⟨vs,H2,I2,r,q2⟩=>⟨I2.kIn,?_⟩) hst hpl
 exact Kh (vs:=.ref a::vs) D.ok (hr.mono hk) D.b .nil hx I2 (.cons rfl r) (by grind)
theorem pmx0(D:MetX X.prog X.w X.K X.mg X.base C f k ps sp)(hr:Room j X.A)(hx:Aw X E)(he:PE X o ta)(hk:k<=j)
  (ht : eval (.Call (.Attribute o f apos) [] [] pos) X.env = (do
   let ov <- eval o X.env
   standAt apos.atName
   let (f,first) <- holding [ov] (getMethod ov f pl)
   callWith pos f first (backTo pos (starEach [] X.env)) (backToKw pos (keywordEach [] X.env)))):PE X (.Call (.Attribute o f apos) [] [] pos) (KZ C f sp E ta Nb):=by
 intro pins s σ H Q I h;refine PySem.W.methodCall_KW (AJ (he pins s σ H _ I h) λu s1 ⟨x,H1,I1,rx,a,dx,fs,ex,ea,l,q⟩=>?_) ht
 subst ex;obtain rfl:u=Value.ref a:=rx;refine R8 I1 ea D.c D.me l ?_;exact PySem.W.callWith_K0 I1.kIn D.me.kp (Kh (vs:=[.ref a]) D.ok (hr.mono hk) D.b .nil hx I1 (.cons rfl .nil) q)
theorem Nd(hf:fs.contains f=false)(h:tM X.K E ca (Bi C fs g m ms) σ H Q):KZ C f (BC X.K ca g) E (tM X.K E ca m) (BX X.K E ca ms) σ H Q:=by
 obtain⟨F,τ,R,S,q⟩:=h;refine⟨F,τ,R,S,?_⟩;unfold Bi at q;cases hm:m τ with
 |none=>simp only[hm]at q<;>exact q.elim
 |some r =>
  simp only[hm]at q;cases r with
  |x c=>exact q
  |v t b =>
   intro F1 H1 x B e1 g1;cases hi:F9 C fs t with
   |none=>simp only[hi]at q<;>exact q.elim
   |some l =>
    simp only[hi]at q;have ht:=RW hi;subst ht;obtain⟨r1,hB⟩:=J2 g1;subst hB;have S1:=S.ext e1;obtain⟨a,xs,rfl,_,⟨dx,hF⟩,el,cc⟩:=r1.obj_inv;refine⟨a,dx,_,rfl,e1.fh _ _ hF,zaj hf,F1,τ,R,S1,?_⟩;cases hs:ms τ with
    |none=>simp only[hs]at q<;>exact q.elim
    |some r =>
     simp only[hs]at q;cases r with
     |x c=>exact λF' H' e=>q F' H' (e1.trans0 e)
     |v ts b' =>
      intro F2 H2 vs e2 rs;have S2:=S1.ext e2;simp only at q;have r2:Rp X.K (Gz b' F2 H2 R) H2 (T.obj (.ins C fs) l).share (.ref a) R0:=(r1.ext e2).share (J1 S2) λ_ _ z=>z.elim
      refine⟨Gz b' F2 H2 R,_,Lz S2,.cons r2 rs,?_⟩;have e12:=e1.trans0 e2;cases hg:g ((T.obj (.ins C fs) l).share::ts) with
      |none=>simp only[hg]at q<;>exact q.elim
      |some r =>
       simp only[hg]at q;cases r with
       |exc c =>
        simp only[Hc]at q;cases hp:EV c with
        |none=>rw[hp]at q;exact λF' H' e3=>(q F2 H' (e12.grow e3.hh)).any hp
        |some n=>rw[hp]at q;exact q.elim
       |ok v =>
        intro F3 H3 z C3 e3 r3;simp only at q;unfold Ah at q;cases b' with
        |false=>exact q F3 H3 z C3 (e12.trans0 e3) r3
        |true =>
         cases hf:v.flat with
         |false=>rw[hf]at q;cases q
         |true=>rw[hf]at q;exact q F2 H3 z R0 (e12.grow e3.hh) (r3.flat_any hf)
theorem zjf(D:MetX X.prog X.w X.K X.mg X.base C f k ps (BC X.K ca g))(hf:fs.contains f=false)(hr:Room j X.A)(hx:Aw X E)(he:PE X o (tM X.K E ca m))(ha:PA X (e::es) (BX X.K E ca ms))(hk:k<=j)
  (hst:starEach (e::es) X.env=(false,eval e X.env)::starEach es X.env) (hpl:(backTo pos (starEach es X.env)).any (·.1)=false)
  (ht : eval (.Call (.Attribute o f apos) (e :: es) [] pos) X.env = (do
   let ov <- eval o X.env
   standAt apos.atName
   let (f,first) <- holding [ov] (getMethod ov f pl)
   callWith pos f first (backTo pos (starEach (e::es) X.env)) (backToKw pos (keywordEach [] X.env)))):PE X (.Call (.Attribute o f apos) (e::es) [] pos) (tM X.K E ca (Bi C fs g m ms)) :=
 PE.weak (pmx D hr hx he ha hk hst hpl ht) λσ H Q h=>Nd hf h
structure NewX(P:Program)(w:World)(K:k7)(mg:Str->Option Value)(base:Heap)(x:Str)(C:Addr)(k:Nat)(ps:List Str)(sp:Sp) where
 f:Addr
 fd:FuncData
 m:mg x=some (.ref C)
 ma:Mk K C f
 ok:FnOk P w K mg base (CO P w) k f fd ps sp
def zin(C:Addr)(sp:Sp)(dvs:List V)(E:L2.St->XK)(t:TA):TE:=λσ H Q=>t σ H λvs H1=>∀x dx,H1 x=none->H1 dx=none->dx≠x ->
 sp (.ref x::(vs++dvs)) (upd (upd H1 dx (.own x)) x (.ins C dx [])) (λv H2=>v=.non/\Q (.ref x) H2) (E σ)
theorem pnx{x:Str}{t:TA}(D:NewX X.prog X.w X.K X.mg X.base x C k ps sp)(hb:Ba X.K D.fd ps ds)(hd:AK dvs ds)(hr:Room j X.A)(hx:Aw X E)(ha:PA X (e::es) t)(hk:k+1<=j)(hg:Gl X x)(hdb:(x == ("__debug__":Str))=false)
  (he:starEach (e::es) X.env=(false,eval e X.env)::starEach es X.env) (hpl:(backTo pos (starEach es X.env)).any (·.1)=false):PE X (.Call (.Name x p) (e::es) [] pos) (zin C sp dvs E t):=by
 intro pins s σ H Q I h;refine ydl (HS I hg D.m ?_ hdb);refine yc9 I.ok.mod.kin D.ma.kp (AJ (ha pos pins s σ H _ I h) λus s1 ⟨vs,H1,I1,r,q⟩=>⟨I1.kIn,?_⟩) he hpl
 have hq:=q (s1.heap.objs.size+1) s1.heap.objs.size (I1.hok.fresh (yc5 _)) (I1.hok.fresh (ya6 _)) (yaj (ycn _));have I2:=Inv.made (C:=C) I1;have r2:AK (V.ref (s1.heap.objs.size+1)::(vs++dvs)) (Value.ref (s1.heap.objs.size+1)::(us++ds)):=.cons rfl (r.append hd)
 have hl :=by
  have e:=r2.length;rw[D.ok.len _ _ _ _ hq]at e;exact e.symm
 refine ydj (zf8 I1.kIn D.ma.makes D.ma.init (beq_iff_eq.mp D.ma.fn) (ydk (D.ok.run _ X.stack _ _ ⟨Value.ref (s1.heap.objs.size+1)::us,[]⟩ (Value.ref (s1.heap.objs.size+1)::(us++ds)) _ _ (E σ) ((hr.mono hk).make C us [])
  (I2.env0.make C us []) (hb _ (Value.ref (s1.heap.objs.size+1)::us) I2.kIn hl) r2 hq) λr s' hq'=>?_))
 cases r with
 |error v=>exact hx pins σ _ _ v s' I2 hq'
 |ok fl =>
  cases fl with
  |ret u =>
   obtain⟨v,H',I3,rv,ev,q3⟩:=I2.after hq';subst ev;exact⟨rv,⟨V.ref (s1.heap.objs.size+1),H',I3,rfl,q3⟩⟩
  |next=>exact False.elim hq'
  |brk=>exact False.elim hq'
  |cont=>exact False.elim hq'
def Gn(K:k7)(ca:Str->Value)(C:Addr)(g:List T->Option Ru):Sp:=λvs H Q E=>∃F p dx ts vs',AL F H/\vs=.ref p::vs'/\F p=none/\H p=some (.ins C dx [])/\A2 K F ts vs'/\match g ts with
 |some (.ok t)=>∀F' H',Stp F H (λa=>a=p) F' H' R0->Rp K F' H' t (.ref p) R0->Q .non H'
 |some (.exc c)=>∀F' H',Stp F H (λa=>a=p) F' H' R0->XE E ca c F' H'
 |none=>False
noncomputable def F6(g:List T->Option Ru)(ds:List T)(ms:Ad):AD:=λτ=>match ms τ with
 |some (.v ts false)=>(match g (ts++ds) with
  |some (.ok t)=>some (.v t false)
  |some (.exc c)=>some (.x c)
  |none=>none)
 |some (.v _ true)=>none
 |some (.x c)=>some (.x c)
 |none=>none
theorem r_new{k j:Nat}{x:Str}(D:NewX X.prog X.w X.K X.mg X.base x C k ps (Gn X.K ca C g))(hb:Ba X.K D.fd ps ds)(hd:AK dvs ds)(hdt:∀F:Hp,A2 X.K F dts dvs)(hr:Room j X.A)(hx:Aw X E)(ha:PA X (e::es) (BX X.K E ca ms))(hk:k+1<=j)(hg:Gl X x)(hdb:(x == ("__debug__":Str))=false)
  (he:starEach (e::es) X.env=(false,eval e X.env)::starEach es X.env) (hpl:(backTo pos (starEach es X.env)).any (·.1)=false):PE X (.Call (.Name x p) (e::es) [] pos) (tM X.K E ca (F6 g dts ms)):=by
 refine PE.weak (pnx D hb hd hr hx ha hk hg hdb he hpl) λσ H Q h=>?_
 obtain⟨F,τ,R,S,q⟩:=h;refine⟨F,τ,R,S,?_⟩;unfold F6 at q;cases hs:ms τ with
 |none=>simp only[hs]at q<;>exact q.elim
 |some r =>
  simp only[hs]at q;cases r with
  |x c=>exact q
  |v ts b =>
   cases b with
   |true=>exact λF1 H1 xs e1 rs=>q.elim
   |false =>
    intro F1 H1 xs e1 rs a dx ha hdx hne;simp only at q;have rs' :=rs
    have key:∀F' H',Stp F1 (upd (upd H1 dx (.own a)) a (.ins C dx [])) (λb=>b=a) F' H' R0->Ext F H F' H' R0:=λF' H' st=>by
     refine e1.trans0 ⟨λb u z=>?_,st.ff,st.fh,λ_ z=>z.elim,λb u z=>?_⟩
     .have h1 :=Bt z ha;have h2 :=Bt z hdx;exact st.kp b u h1 (by rw[AZ h1,AZ h2];exact z)
     .rcases st.nf b u z with w|w|w
      .exact .inl w
      .rw[w];exact .inr ha
      .by_cases h1:b=a
       .rw[h1];exact .inr ha
       .by_cases h2:b=dx
        .rw[h2];exact .inr hdx
        .rw[AZ h1,AZ h2]at w;exact .inr w
    have fh2:AL F1 (upd (upd H1 dx (.own a)) a (.ins C dx [])):=λb u z=>by
     have z':=e1.fh b u z;rw[AZ (Bt z' ha),AZ (Bt z' hdx)];exact z'
    refine⟨F1,a,dx,ts++dts,xs++dvs,fh2,rfl,El e1.fh ha,Be,Ir rs' (hdt F1),?_⟩;cases hg:g (ts++dts) with
    |none=>simp only[hg]at q<;>exact q.elim
    |some r =>
     simp only[hg]at q;cases r with
     |exc c=>exact λF' H' st=>q F' H' (key F' H' st)
     |ok t=>exact λF' H' st r=>⟨rfl,q F' H' _ R0 (key F' H' st) r⟩
end
noncomputable def EW(τ:AI)(i:Nat)(C:Addr)(fs:List Str):Option (Addr×List T):=match τ[i]? with
 |some (some (.oob p C' fs' l))=>if C'=C/\fs'=fs then some (p,l) else none
 |_=>none
theorem LC(h:EW τ i C fs=some (p,l)):τ[i]?=some (some (.oob p C fs l)):=by
 unfold EW at h
 grind
def Cr(C:Addr)(fs:List Str)(j i:Nat)(m:AD):AH:=λτ=>match m τ with
 |some (.v t false)=>(match EW τ i C fs with
  |some (p,l)=>if l.length=j then some (.nx (τ.set i (some (.oob p C fs (l++[t]))))) else none
  |none=>none)
 |some (.v _ true)=>none
 |some (.x c)=>some (.xc c τ)
 |none=>none
def HA:Option T->Option (List Str×List T)
 |some (.osd ks l)=>some (ks,l)
 |_=>none
theorem zcc(h:HA o=some (ks,l)):o=some (.osd ks l):=by
 unfold HA at h
 grind
open Classical in
def Gs(C:Addr)(fs:List Str)(j i:Nat)(mk m:AD):AH:=λτ=>match m τ with
 |some (.v t false)=>(match EW τ i C fs with
  |some (p,l)=>(match HA l[j]? with
   |some (ks,lv)=>(match mk τ with
    |some (.v (.str k) _)=>if k∉ks/\ks.length<100000 then some (.nx (τ.set i (some (.oob p C fs (l.set j (.osd (ks++[k]) (lv++[t.share]))))))) else none
    |some (.v _ _)=>none
    |some (.x c)=>some (.xc c τ)
    |none=>none)
   |none=>none)
  |none=>none)
 |some (.v _ true)=>none
 |some (.x c)=>some (.xc c τ)
 |none=>none
def JN:AD:=λ_=>some (.v (.osd [] []) false)
theorem PU{y:V}:∀{fs:List Str} {xs:List V},fs[xs.length]?=some f->(fs.take xs.length).contains f=false->CQ f y (fs.zip xs)=fs.zip (xs++[y])
 |[],xs,h,_=>by simp at h
 |g::r,[],h,_=>by
  simp at h;subst h;simp[CQ]
 |g::r,x::xs,h,hn=>by
  rw[yax,List.take_succ_cons,List.contains_cons,ybp]at hn
  have hg:¬ g=f:=λz=>by
   grind
  have ih:=PU (y:=y) (by simpa using h) hn.2
  rw[ybj,List.cons_append,ybj];show(if g=f then _ else _)=_
  grind
section
variable {K:k7}{F H:Hp}{C:Addr}{fs:List Str}{l:List T}
theorem Rp.oob_inv(h:Rp K F H (.oob p C fs l) x A):∃dx xs Rr,x=.ref p/\A=(λa=>a=p\/∃j,Rr j a)/\F p=none/\H p=some (.ins C dx (fs.zip xs))/\RpO K F H l xs Rr/\∀j,¬ Rr j p:=by
 cases h with
 |oob R f h e c d dp o=>exact⟨_,_,R,rfl,rfl,f,h,⟨e,c,d,o⟩,dp⟩
theorem Ph(r:RpO K F H l xs Rr)(f:F p=none)(h:H p=some (.ins C dx (fs.zip xs)))(dp:∀j,¬ Rr j p):Rp K F H (.oob p C fs l) (.ref p) (λa=>a=p\/∃j,Rr j a):=.oob Rr f h r.len r.rep r.dis dp r.out
theorem Rp.osd_inv(h:Rp K F H (.osd ks l) x A):∃p xs Rs,x=.ref p/\A=(λa=>a=p\/∃j,Rs j a)/\F p=none/\H p=some (.dK (Bx ks xs))/\RpO K F H l xs Rs/\ks.length=xs.length/\∀j,¬ Rs j p:=by
 cases h with
 |osd R f h e ek c d dp o=>exact⟨_,_,R,rfl,rfl,f,h,⟨e,c,d,o⟩,ek,dp⟩
theorem zk4(r:RpO K F H l xs Rr)(ek:ks.length=xs.length)(f:F p=none)(h:H p=some (.dK (Bx ks xs)))(dp:∀j,¬ Rr j p):Rp K F H (.osd ks l) (.ref p) (λa=>a=p\/∃j,Rr j a):=.osd Rr f h r.len ek r.rep r.dis dp r.out
theorem zf2(r:RpO K F H l xs Rr)(ek:ks.length=xs.length)(f:F p=none)(dp:∀j,¬ Rr j p)(rt:Rp K F H t y B)(dB:∀j a,Rr j a->¬ B a)(pB:¬ B p):Rp K F (upd H p (.dK (Bx (ks++[k]) (xs++[y])))) (.osd (ks++[k]) (l++[t])) (.ref p) (λa=>a=p\/∃j,(if j=l.length then B else Rr j) a) :=
 zk4 ((r.upd dp).snoc (rt.upd pB) dB) (by simp[ek]) f Be λj z=>by
  by_cases hj:j=l.length
  .simp only[hj,ydn]at z;exact pB z
  .simp only[hj,ydw]at z;exact dp j z
end
theorem zhs(h:ks.length=xs.length):(Bx ks xs).length=xs.length:=by
 unfold Bx
 grind
theorem zht(h:kv∈Bx ks xs):∃k∈ks,kv.1=Sum.inr k:=by
 induction ks generalizing xs with
 |nil=>cases xs<;>cases h
 |cons a r ih =>
  cases xs with
  |nil=>cases h
  |cons b s =>
   rcases yak.mp h with e|e
   .grind
   .obtain⟨k,hk,e⟩:=ih e
    grind
theorem zex(h:ks.length=xs.length)(hk:k∉ks):Cf (Bx ks xs) (Sum.inr k) y=Bx (ks++[k]) (xs++[y]):=by
 unfold Cf;rw[if_neg]
 .unfold Bx;rw[List.zipWith_append h]
  rfl
 .intro c;obtain⟨kv,h1,h2⟩:=List.any_eq_true.mp c;obtain⟨k',h3,h4⟩:=zht h1
  grind
section
variable {X:Cx}{E:L2.St->XK}{ca:Str->Value}{m mk:AD}{e k:Expr}{pos p1 pos2 pos3:Pos}{mu:Bool}{i j:Nat}{x f:Str}{C:Addr}{fs:List Str}
theorem zji:PE X (.Dict [] [] pos) (tM X.K E ca JN):=PE.weak zgz λσ H Q h p hp=>by
 obtain⟨F,τ,R,S,q⟩:=h;exact q F (upd H p (.dK [])) (.ref p) _ (Ext.newO S.fh hp) (Rp.osd0 (xs:=[]) (El S.fh hp) Be rfl rfl λi t x h=>by simp at h)
theorem zj3(c:Cls X.K C)(hn:Bd X.K C f)(hj:fs[j]?=some f)(hnf:(fs.take j).contains f=false)(hjl:j<900)(hN:X.N[i]?=some x)(hv:Bs X.env.scope x)(hd:(x == "__debug__")=false)(hcd:(x == "__classdict__")=false)(he:PE X e (tM X.K E ca m))
  (hs:swapsWith e (some (.Attribute (.Name x p1) f pos2)) pos.line X.env=pure false):PS X (.Assign [.Attribute (.Name x p1) f pos2] e pos) (tS X.K E ca mu (Cr C fs j i m)):=by
 refine PS.weak (zjs (DD hN hv hd hcd) he hs) λD σ H h=>?_
 obtain⟨F,τ,R,S,q⟩:=h;refine⟨F,τ,R,S,?_⟩;unfold Cr at q;cases hm:m τ with
 |none=>simp only[hm]at q<;>exact q.elim
 |some r =>
  simp only[hm]at q;cases r with
  |x c=>exact λF' H' e=>q F' H' σ R e.stp0 (S.ext e)
  |v t bb =>
   cases bb with
   |true=>exact λF1 H1 y B e1 g1=>q.elim
   |false =>
    intro F1 H1 y B e1 g1;have g1' :=g1;simp only at q;cases ho:EW τ i C fs with
    |none=>simp only[ho]at q<;>exact q.elim
    |some pl =>
     obtain⟨p,l⟩:=pl;simp only[ho]at q
     by_cases hl:l.length=j
     .rw[if_pos hl]at q;have S1:=S.ext e1;have ht:=LC ho;obtain⟨y2,ey,ry⟩:=S.rep i _ ht;obtain⟨dx,xs,Rr,rfl,hA,fp,hp,ro,dp⟩:=ry.oob_inv;have hxs:xs.length=j:=by rw[<- ro.len];exact hl
      have hp1:=e1.hh _ _ hp;have pB:¬ B p:=λz=>by rw[e1.nb p z]at hp;cases hp
      have fp1 :=(ry.ext e1 |>.dom (by rw[hA];exact .inl rfl)).1
      refine⟨_,ey,p,C,dx,fs.zip xs,rfl,hp1,c,hn,?_,?_⟩
      .rw[List.length_zip]
       omega
      .rw[PU (by rw[hxs];exact hj) (by rw[hxs];exact hnf)]
       have ro1:=ro.ext e1;have ro2:RpO X.K F1 (upd H1 p (.ins C dx (fs.zip (xs++[y])))) (l++[t]) (xs++[y]) _:=(ro1.upd dp).snoc (g1'.upd pB) λj a z1 z2=>ro.apart e1 z2 j z1
       have dp2:∀j,¬ (if j=l.length then B else Rr j) p:=λj z=>by
        by_cases hj:j=l.length
        .simp only[hj,ydn]at z;exact pB z
        .simp only[hj,ydw]at z;exact dp j z
       have r2:=Ph ro2 fp1 Be dp2
       obtain⟨S3,st3⟩:=S1.upd ht ey (by rw[hA];exact .inl rfl) r2 (λa z=>by
        rw[hA]
        rcases z with z|z
        .exact .inl (.inl z)
        .rcases Nv z with w|w
         .exact .inl (.inr w)
         .exact .inr w) (λj a z1 z2=>S.apart e1 z2 j z1)
       exact q F1 _ σ _ (e1.stp.trans st3) S3
     .rw[if_neg hl]at q;exact q.elim
def rSetS:My:=λo i v H Q=>∃p kvs k,o=.ref p/\i=.str k/\H p=some (.dK kvs)/\kvs.length<sizeLine/\Q (upd H p (.dK (Cf kvs (Sum.inr k) v)))
theorem zej(hu:X.A.units+1<cLine):TV X rSetS:=by
 intro pins s σ H o i v ov iv u Q I ro ri rv h;obtain⟨p,kvs,k,rfl,rfl,hp,hl,q⟩:=h;cases ro;exact zdu hu I (Gc.k (k:=Sum.inr k) hp hl) (ri) rv λs' I'=>⟨_,I',q⟩
theorem HZ{K}(g:Cp K F H R (.str z) b y B):y=.str z:=by
 cases b with
 |true=>obtain⟨_,A,_,r⟩:=g;exact r.str_inv
 |false=>exact(g).str_inv
theorem s_dpf(hu:X.A.units+1<cLine)(c:Cls X.K C)(hn:Bd X.K C f)(hj:fs.findIdx? (· == f)=some j)(hN:X.N[i]?=some x)(hv:Bs X.env.scope x)(hd:(x == ("__debug__":Str))=false)(hcd:(x == "__classdict__")=false)(he:PE X e (tM X.K E ca m))(hk:PE X k (tM X.K E ca mk))
  (hs:swapsWithSole [.Subscript (.Attribute (.Name x p1) f pos3) k pos2] e pos.line X.env=pure false) (hw:swappedStores [.Subscript (.Attribute (.Name x p1) f pos3) k pos2] e X.env=pure none)
  (ha : ∀ v, assign (.Subscript (.Attribute (.Name x p1) f pos3) k pos2) X.env v = (do
   let ov <- holding [v] (eval (.Attribute (.Name x p1) f pos3) X.env);let iv <- holding [v,ov] (eval k X.env)
   standAt pos2
   holding [v,ov,iv] (setItem ov iv v)
   release [v,ov,iv] [])) :
  PS X (.Assign [.Subscript (.Attribute (.Name x p1) f pos3) k pos2] e pos) (tS X.K E ca mu (Gs C fs j i mk m)):=by
 refine PS.weak (PX he (zjx (Pa (DD hN hv hd hcd) rfl) hk (zej hu) ha) hs hw rfl) λD σ H h=>?_
 obtain⟨F,τ,R,S,q⟩:=h;refine⟨F,τ,R,S,?_⟩;unfold Gs at q;cases hm:m τ with
 |none=>simp only[hm]at q<;>exact q.elim
 |some r =>
  simp only[hm]at q;cases r with
  |x c=>exact λF' H' e=>q F' H' σ R e.stp0 (S.ext e)
  |v t bb =>
   cases bb with
   |true=>exact λF1 H1 y B e1 g1=>q.elim
   |false =>
    intro F0 H1 y B e0 g0;simp only at q;obtain⟨F1,e1,_,g1⟩:=Cp.frz S e0 g0;have g1':Rp X.K F1 H1 t.share y R0:=(g1).any;cases ho:EW τ i C fs with
    |none=>simp only[ho]at q<;>exact q.elim
    |some pl =>
     obtain⟨p,l⟩:=pl;simp only[ho]at q;cases hos:HA l[j]? with
     |none=>simp only[hos]at q<;>exact q.elim
     |some kl =>
      obtain⟨ks,lv⟩:=kl;simp only[hos]at q;have hlj:=zcc hos;have S1:=S.ext e1;have ht:=LC ho;obtain⟨y2,ey,ry⟩:=S1.rep i _ ht;obtain⟨dx,xs,Rr,rfl,hA,fp,hp,ro,dp⟩:=ry.oob_inv;have hjl:=(ya3.mp hlj).1;have hjx:j<xs.length:=by rw[<- ro.len];exact hjl
      have hx :=ya0 hjx;refine⟨_,ey,p,C,dx,_,xs[j],rfl,hp,c,hn,Qw hj hx,F1,τ,R,S1,?_⟩;cases hkk:mk τ with
      |none=>simp only[hkk]at q<;>exact q.elim
      |some r =>
       simp only[hkk]at q;cases r with
       |x c=>exact λF' H' e=>q F' H' σ R ((e1.stp0).trans e.stp0) (S1.ext e)
       |v tk bk =>
        cases tk with
        |str kk =>
         simp only at q
         by_cases hc:kk∉ks/\ks.length<100000
         .rw[if_pos hc]at q;intro F2 H2 z CC e2 g2;have hz:=HZ g2;subst hz;have e2':Ext F1 H1 F2 H2 R0:=e2.mono λ_ z=>z.elim
          have S2:=S1.ext e2;have ry2:=ry.ext e2;have ro2:=ro.ext e2;have fp2 :=(ry2.dom (by rw[hA];exact .inl rfl)).1
          have hp2:=e2.hh _ _ hp;have rk:=ro2.rep j _ _ hlj hx;obtain⟨pd,ys,Rs,exj,hAd,fpd,hpd,rs,ek,ds⟩:=rk.osd_inv;have g2' :=g1'.ext e2;have pdj:Rr j pd:=by rw[hAd];exact .inl rfl
          have pne:pd≠p:=λz=>dp j (z▸pdj)
          refine⟨pd,Bx ks ys,kk,exj,rfl,hpd,?_,?_⟩
          .rw[zhs ek,<- ek,ydi];exact ycs hc.2 (by decide)
          .rw[zex ek hc.1];have r3:=zf2 (k:=kk) rs ek fpd ds (g2'.any (H':=H2)) (λ_ _ _ z=>z.elim) (λz=>z.elim)
           have hE:(λa=>a=pd\/∃j,(if j=lv.length then R0 else Rs j) a)=Rr j:=by
            rw[hAd]
            funext a
            apply propext;constructor
            .rintro(z|⟨j,z⟩)
             .exact .inl z
             .split at z
              .exact z.elim
              .exact .inr ⟨j,z⟩
            .rintro(z|⟨j,z⟩)
             .exact .inl z
             .exact .inr ⟨j,by rw[if_neg (yaj (rs.out j a z))];exact z⟩
           rw[hE]at r3;have oth :=λk hk z=>ro2.dis k j pd hk z pdj
           have ro3:RpO X.K F2 (upd H2 pd (.dK (Bx (ks++[kk]) (ys++[y])))) (l.set j (.osd (ks++[kk]) (lv++[t.share]))) xs Rr:=by
            refine⟨by rw[ybl];exact ro2.len,λk t' x' h1 h2=>?_,ro2.dis,λk a z=>by rw[ybl];exact ro2.out k a z⟩
            by_cases hk:k=j
            .subst hk;rw[yaa hjl]at h1;rw[hx]at h2;cases h1;cases h2;rw[exj];exact r3
            .rw[ya5 (yah hk)]at h1;exact(ro2.rep k t' x' h1 h2).upd (oth k hk)
           have r4:=Ph ro3 fp2 (by rw[AZ (yah pne)];exact hp2) dp
           obtain⟨S3,st3⟩:=S2.upd ht ey (by rw[hA];exact .inr ⟨j,pdj⟩) r4 (λa z=>.inl (by rw[hA];exact z)) (λj a z1 z2=>z2)
           exact q F2 _ σ _ ((e1.stp.trans e2.stp0).trans st3) S3
         .rw[if_neg hc]at q;exact q.elim
        |_=>exact λF' H' z CC e2 g2=>q.elim
end
section
variable {X:Cx}{E:L2.St->XK}{ca:Str->Value}{ma mb mc:AD}{a b c:Expr}{pos:Pos}{x:Str}{t:T}
theorem r_con(hg:Gl X x)(hm:X.mg x=some u)(rv:AN v u)(hd:(x == "__debug__")=false)(r:∀F ,Rp X.K F F t v R0):PE X (.Name x pos) (tM X.K E ca (mC t)) :=
 PE.weak (P9 hg hm rv hd) λσ H Q h=>by
  obtain⟨F,τ,R,S,q⟩:=h;exact q F H v R0 (Ext.refl S.fh) (r F).any
def EY(g g':T->T->Option T)(ma mb mc:AD):AD:=λτ=>match ma τ,mb τ with
 |some (.v t _),some (.v u _)=>if t.flat && u.flat then (match g t u with
  |some (.bl true)=>(match mc τ with
   |some (.v w _)=>if w.flat then (match g' u w with
    |some (.bl k)=>some (.v (.bl k) false)
    |_=>none) else none
   |_=>none)
  |some (.bl false)=>some (.v (.bl false) false)
  |_=>none) else none
 |_,_=>none
theorem GU{K}{b}{x}(g:Cp K F H R v b x B)(h:v.flat=true):Rp K F' H' v x R0:=by
 cases b with
 |true=>obtain⟨_,A,_,r⟩:=g;exact r.flat_any h
 |false=>exact(g).flat_any h
theorem Ni(h:tM X.K E ca (EY g g' ma mb mc) σ H Q):K2 (BH X.K g) (BH X.K g') (tM X.K E ca ma) (tM X.K E ca mb) (tM X.K E ca mc) σ H Q:=by
 obtain⟨F,τ,R,S,q⟩:=h;refine⟨F,τ,R,S,?_⟩;unfold EY at q;cases h1:ma τ with
 |none=>simp only[h1]at q<;>exact q.elim
 |some r1 =>
  cases r1 with
  |x c=>simp only[h1]at q<;>exact q.elim
  |v t b1 =>
   cases h2:mb τ with
   |none=>simp only[h1,h2]at q<;>exact q.elim
   |some r2 =>
    cases r2 with
    |x c=>simp only[h1,h2]at q<;>exact q.elim
    |v u b2 =>
     simp only[h1,h2]at q
     by_cases hf:(t.flat && u.flat)=true
     .rw[if_pos hf]at q;rw[ya1]at hf;intro F1 H1 x B1 e1 g1;have S1:=S.ext e1;refine⟨F1,τ,R,S1,?_⟩;rw[h2];intro F2 H2 y B2 e2 g2;have S2:=S1.ext e2;have e12:Ext F H F2 H2 R0:=(e1.trans e2).mono λ_ z=>z.elim
      cases hg:g t u with
      |none=>simp only[hg]at q<;>exact q.elim
      |some k =>
       cases k with
       |bl k =>
        cases k with
        |false =>
         simp only[hg]at q;refine⟨F2,t,u,_,S2.fh,GU g1 hf.1,GU g2 hf.2,hg,λF3 H3 z C3 e3 r3=>⟨false,r3.bl_inv,?_⟩⟩
         rw[if_neg ybw];exact q F3 H3 _ R0 (e12.trans0 (e3.mono λ_ z=>z.elim)) (.bl false)
        |true =>
         simp only[hg]at q;refine⟨F2,t,u,_,S2.fh,GU g1 hf.1,GU g2 hf.2,hg,λF3 H3 z C3 e3 r3=>⟨true,r3.bl_inv,?_⟩⟩
         rw[if_pos rfl];have S3:=S2.ext e3;refine⟨F3,τ,R,S3,?_⟩;cases h3:mc τ with
         |none=>simp only[h3]at q<;>exact q.elim
         |some r3 =>
          cases r3 with
          |x c=>simp only[h3]at q<;>exact q.elim
          |v w b3 =>
           simp only[h3]at q
           by_cases hw:w.flat=true
           .rw[if_pos hw]at q;intro F4 H4 z4 B4 e4 g4;have S4:=S3.ext e4;cases hg':g' u w with
            |none=>simp only[hg']at q<;>exact q.elim
            |some k =>
             cases k with
             |bl k =>
              simp only[hg']at q;refine⟨F4,u,w,_,S4.fh,GU g2 hf.2,GU g4 hw,hg',λF5 H5 z5 C5 e5 r5=>?_⟩
              rw[r5.bl_inv];exact q F5 H5 _ R0 (e12.trans0 (((e3.trans e4).trans e5).mono λ_ z=>z.elim)) (.bl k)
             |_=>simp only[hg']at q<;>exact q.elim
           .rw[if_neg hw]at q;exact q.elim
       |_=>simp only[hg]at q<;>exact q.elim
     .rw[if_neg hf]at q;exact q.elim
theorem r_chn(ho:AX X (compareOp op) (BH X.K g))(ho':AX X (compareOp op') (BH X.K g'))(ha:PE X a (tM X.K E ca ma))(hb:PE X b (tM X.K E ca mb))(hc:PE X c (tM X.K E ca mc))(hm:lastMarks [op,op'] [b,c]=false) :
  PE X (.Compare a [op,op'] [b,c] pos) (tM X.K E ca (EY g g' ma mb mc)):=PE.weak (zf1 ho ho' ha hb hc hm) λσ H Q h=>Ni h
theorem zjd(ho:AX X (compareOp op) (BH X.K g))(ho':AX X (compareOp op') (BH X.K g'))(ha:PE X a (tM X.K E ca ma))(hb:PE X b (tM X.K E ca mb))(hc:PE X c (tM X.K E ca mc))(hm:lastMarks [op,op'] [b,c]=false) :
  PT X (.Compare a [op,op'] [b,c] pos) (Ak X.K E ca (EY g g' ma mb mc)):=PT.weak (zey ho ho' ha hb hc hm) λσ H Q h=>Ni (IU h)
end
def Jy(x:Str):It:=⟨λi _=>i<x.cps.size,λi H y H'=>H'=H/\∃c,x.cps[i]?=some c/\y=.str ⟨#[c]⟩,λi _=>x.cps.size<=i⟩
theorem zed{K}(x)(t)(it):Turn P w K tg (Jy x) [it] it (λi h=>h.IsStrIter it (strIterType x) x t i) where
 mem:=by simp
 obj:=λi h st b hb=>by
  have e :=by simpa using hb
  subst e;obtain⟨o,e,c,d⟩:=st;exact⟨o,e,λv z=>by rw[d]at z;cases z⟩
 keep:=λi h h' st k=>by
  obtain⟨o,e,c,d⟩:=st;exact⟨o,k it (by simp) o e,c,d⟩
 item:=by
  intro X hP hw hK hc i pins s σ H E I hf st hg;subst hP hw hK;have hi :=hg;obtain⟨f0,f1,f2,f3,f4,f5⟩:=hf it (by simp)
  have Ah:∀(h' ),h'.IsStrIter it (strIterType x) x t (i+1)->Heap.SameBut it s.heap h'->∃u,some (Value.str ⟨#[x.cps[i]]⟩ s.toks)=some u /\
   wpAny (model X.prog X.w) X.A (letOwnedTupleGo tg (.ref it) u) (λ_ s2=>∃y H',Inv X pins σ H' s2/\AN y u/\(Jy x).yld i H y H'/\s2.heap.IsStrIter it (strIterType x) x t (i+1)/\∀b∈[it],H' b=none) E { s with heap:=h',toks:=s.toks+1 }:=λh' st' sb=>by
   have I1 :=I.turned (t':=s.toks+1) (λb o hb e=>(sb.2 b hb).trans e) f0 f1 f3 f4 f5
   obtain⟨o,e,c,d⟩:=id st';refine⟨_,rfl,J3 e c d ?_ ⟨.str ⟨#[x.cps[i]]⟩,H,I1,⟨_,rfl⟩,⟨rfl,_,yba hi,rfl⟩,st',λb hb=>(hf b hb).1⟩⟩
   unfold strIterType;split<;>decide
  cases ha:(x.cps.all λx=>decide (x<128)) with
  |true =>
   have e:strIterType x="str_ascii_iterator":=by unfold strIterType;rw[ha];rfl
   rw[e]at st Ah ⊢;exact wpAny_pyNext_ascii_item st (yba hi) Ah
  |false =>
   have e:strIterType x="str_iterator":=by unfold strIterType;rw[ha];rfl
   rw[e]at st Ah ⊢;exact wpAny_pyNext_wide_item st (yba hi) Ah
 done:=by
  intro X hP hw hK hc i pins s σ H E I hf st hg;subst hP hw hK;have hi :=hg;obtain⟨f0,f1,f2,f3,f4,f5⟩:=hf it (by simp)
  have n :=Array.getElem?_eq_none hi;cases ha:(x.cps.all λx=>decide (x<128)) with
  |true =>
   have e:strIterType x="str_ascii_iterator":=by unfold strIterType;rw[ha];rfl
   rw[e]at st;exact wpAny_pyNext_ascii_end (I.ok.hd hc) st n λh' eb=>⟨rfl,I.turned (λb o hb e=>eb b o hb e) f0 f1 f3 f4 f5⟩
  |false =>
   have e:strIterType x="str_iterator":=by unfold strIterType;rw[ha];rfl
   rw[e]at st;exact wpAny_pyNext_wide_end (I.ok.hd hc) st n λh' eb=>⟨rfl,I.turned (λb o hb e=>eb b o hb e) f0 f1 f3 f4 f5⟩
 self:=λ_ i s Q E st h=>by
  cases ha:(x.cps.all λx=>decide (x<128)) with
  |true =>
   have e:strIterType x="str_ascii_iterator":=by unfold strIterType;rw[ha];rfl
   rw[e]at st;exact wpAny_pyIter_striter_ascii st h
  |false =>
   have e:strIterType x="str_iterator":=by unfold strIterType;rw[ha];rfl
   rw[e]at st;exact wpAny_pyIter_striter_wide st h
def iStrT(tl:TE):TI:=λσ H P=>tl σ H λx H1=>∃y,x=.str y/\P (Jy y) H1
section
variable {X:Cx}{tg l e:Expr}{tl:TE}{E:L2.St->XK}{ca:Str->Value}{m:AD}
theorem zjw(hl:PE X l tl):PI X tg l (iStrT tl):=by
 intro pins s σ H R I h;refine AJ (hl pins s σ H _ I h) λv s1 ⟨x,H1,I1,r1,q1⟩=>?_
 obtain⟨y,rfl,q⟩:=q1;obtain⟨t,rfl⟩:=(r1);refine wpAny_pyIter_strU ?_;refine⟨s1.heap.objs.size,[s1.heap.objs.size],_,_,H1,rfl,I1.kept λb o e=>ya4 _ e,zed y t _,⟨_,yai _ rfl,rfl,rfl⟩,λb hb=>?_,q⟩
 have e :=by simpa using hb
 subst e;exact I1.fpOk (ya6 _) (I1.hok.fresh (ya6 _))
def Eb(x:Str):List T:=x.cps.toList.map λc=>.str ⟨#[c]⟩
theorem zhw{K}:FI K (Jy x) F (Eb x):=by
 intro i F' H' s1 s2;refine⟨λt ht=>?_,λe=>?_⟩
 .unfold Eb at ht;rw[ya9]at ht;obtain⟨c,e1,rfl⟩:=yad.mp ht;have hi:i<x.cps.size:=by simpa using (ya3.mp e1).1
  refine⟨hi,λy H'' z=>?_⟩
  obtain⟨rfl,c',hc,rfl⟩:=z;rw[Array.getElem?_toList,hc]at e1;cases e1;exact⟨F',Ext.refl s2,.str _⟩
 .show x.cps.size<=i;rw[e];simp[Eb]
def BP(m:AD):Ad:=λτ=>match m τ with
 |some (.v (.str x) _)=>some (.v (Eb x) false)
 |_=>GS m τ
theorem zjh(ha:PE X e (tM X.K E ca m)):PI X tg e (tI X.K E ca (BP m)):=by
 refine PI.weak (PI.or (PF ha) (zjw ha)) λσ H P h=>?_
 obtain⟨F,τ,R,S,q⟩:=h
 by_cases hs:∃x b,m τ=some (.v (.str x) b)
 .obtain⟨x,b,hm⟩:=hs;have e:BP m τ=some (.v (Eb x) false):=by unfold BP;rw[hm]
  rw[e]at q;refine .inr ⟨F,τ,R,S,?_⟩;rw[hm];intro F1 H1 y B e1 g1;exact⟨x,HZ g1,q F1 H1 _ (e1.mono λ_ z=>z.elim) zhw⟩
 .have e:BP m τ=GS m τ:=by
   unfold BP
   grind
  rw[e]at q;exact .inl ⟨F,τ,R,S,q⟩
end
open Classical in
def met(val:Nat->Key):Nat->List Key
 |0=>[]
 |i+1=>if val i∈met val i then met val i else met val i++[val i]
open Classical in
theorem Qn(val:Nat->Key):∀i,(met val i).length<=i
 |0=>ya6 0
 |i+1=>by
  have:=Qn val i;unfold met;split
  .omega
  .rw[yau,ybm]
   omega
section
variable {prog:Program}{w:World}{A:Around}{E:Value->Shared->Prop}
open Classical in
theorem Qv{knd:PySem.KeyKind prog w Key}{R:Result->Shared->Prop}{I:Addr}{fp wr:List Addr}{G:Array GenState->Array GenState->Prop}{n:Nat}{P:Nat->Value->Prop}{St:Nat->Shared->Prop}(W:WalksS prog w A.in1 I fp wr G n P St)(S:Addr)(hS:S∉fp)(val:Nat->Key)
  (hP:∀i v,P i v->knd.is (val i) v=true/\v.scannable=true) (hn:n+1<scanBound):∀(k i:Nat) (s:Shared),n - i=k->i<=n->St i s->Heap.SetOf knd s.heap S (λk'=>decide (k'∈met val i)) (met val i).length ->
   (∀s':Shared,Moved (S::wr) G s s'->Heap.SetOf knd s'.heap S (λk'=>decide (k'∈met val n)) (met val n).length->R (Except.ok (Flow.ret Value.none)) s') ->
   codeAny (model prog w) A (Code.builtin "set.update.loop" { pos:=[Value.ref S,Value.ref I] }) R s
 |0,i,s,hk,hi,st,hset,h=>by
  have e:i=n:=by omega
  subst e;refine codeAny_builtin F.entry_set_update_loop ?_;rw[Around.under_plainId ycf];unfold Builtin.«set.update.loop»;refine ydc (W.done s _ _ st λs' mv=>?_)
  refine ydf ?_;refine h s' (mv.mono λb hb=>ya7 _ hb) ?_
  obtain⟨o,es,ep,t,h1,h2⟩:=hset;exact⟨o,es,ep,t,mv.heap S o (λz=>hS (W.sub S z)) h1,h2⟩
 |k+1,i,s,hk,hi,st,hset,h=>by
  have hi':i<n:=by omega
  refine codeAny_builtin F.entry_set_update_loop ?_;rw[Around.under_plainId ycf];unfold Builtin.«set.update.loop»;refine ydc (W.item i s _ _ hi' st λv s' pv st' mv=>?_)
  obtain⟨hk1,hk2⟩:=hP i v pv
  have hset':Heap.SetOf knd s'.heap S (λk'=>decide (k'∈met val i)) (met val i).length:=by
   obtain⟨o,es,ep,t,h1,h2⟩:=hset;exact⟨o,es,ep,t,mv.heap S o (λz=>hS (W.sub S z)) h1,h2⟩
  refine ydc (ydd ?_);unfold setAdd;refine ydd (ydc (knd.pyHash hk1 ?_));have hl:=Qn val i;refine wpAny_setAddHashed_of (s:={ s' with toks:=s'.toks+1 }) hk1 hk2 hset' (by omega) λh' sb hset2=>?_
  refine ydf ⟨plainId_quiet ycf _,?_⟩;have st2:=W.frame (i+1) s' h' (s'.toks+1) st' (yc5 _) λb hb o e=>(sb.2 b (λz=>hS (z▸hb))).trans e
  have mv2:Moved (S::wr) G s { s' with heap:=h',toks:=s'.toks+1 }:=(mv.mono λb hb=>ya7 _ hb).then_heap (yc5 _) λb o hb e=>(sb.2 b (λz=>hb (by rw[z];exact yac ..))).trans e
  refine Qv W S hS val hP hn k (i+1) _ (by omega) (by omega) st2 ?_ λs'' mv3 hs3=>h s'' (mv2.trans W.gtrans mv3) hs3
  have hS:(λk'=>(decide (k'∈met val i) || decide (k'=val i)))=λk'=>decide (k'∈met val (i+1)):=funext λk'=>by
   conv=>rhs;unfold met
   by_cases hm:val i∈met val i
   .rw[if_pos hm]
    by_cases e:k'=val i
    .rw[e,ydp hm];rfl
    .rw[yd9 e,Bool.or_false]
   .rw[if_neg hm,Bool.eq_iff_iff];simp only[ybx,yds,yb3,yae]
  have hN:(if decide (val i∈met val i)=true then (met val i).length else (met val i).length+1)=(met val (i+1)).length:=by
   conv=>rhs;unfold met
   by_cases hm:val i∈met val i
   .rw[if_pos hm,if_pos (ydp hm)]
   .rw[if_neg hm,if_neg (λz=>hm (ydv z)),yau,ybm]
  obtain⟨o,es,ep,t,h1,h2,h3,h4,h5,h6,h7,h8⟩:=hset2;refine⟨o,es,ep,t,h1,h2,h3,h4,λk'=>?_,h6,h7,h8.trans hN⟩
  rw[<- h5 k'];have e:=congrFun hS k';show decide (k'∈met val (i+1))=true ↔ _;rw[<- e]
end
open Classical in
theorem zbb{prog:Program}{w:World}{A:Around}{E:Value->Shared->Prop}{s:Shared}{l:Addr}{items:Array Value}{knd:PySem.KeyKind prog w Key}{val:Nat->Key}{Q:Value->Shared->Prop}(hh:A.handled=none)(hl:s.heap.IsList l items)
  (hP:∀(i:Nat) (v:Value),items[i]?=some v->knd.is (val i) v=true/\v.scannable=true) (hb:items.size+1<scanBound)
  (h:∀(h':Heap) (tk:Nat),Heap.SetOf knd h' s.heap.objs.size (λk'=>decide (k'∈met val items.size)) (met val items.size).length->(∀(b:Nat) (o:Obj),b<s.heap.objs.size->s.heap.get? b=some o->h'.get? b=some o)->Q (.ref s.heap.objs.size) { s with heap:=h',toks:=tk }) :
  wpAny (model prog w) A (call (Value.type "set") [Value.ref l]) Q E s:=by
 obtain⟨c,tl,hmro⟩:=ycd.mro;have hmade:=ycd.made;have hsub:=ycd.sub;refine ydj (codeAny_of_tree ?_);refine ydf ⟨Code.quiet_builtin _ (by decide +kernel),codeAny_builtin F.entry_type_call ?_⟩
 have hu:=Around.under_plain (A:=A) (weight_type_call_type "set" [Value.ref l] []) rfl;have h1:=ycd.notType;have h2:=ycd.canCreate;have hct:=F.typeCall_set_1 (Value.ref l);show wpAny (model prog w) (A.under (Code.builtin "type.__call__" { pos:=[Value.type "set",Value.ref l] })) _ _ _ s;rw[hu];unfold Builtin.«type.__call__»;refine ydy (by rw[h1];rfl) (ydy (by rw[h2];rfl) ?_)
 refine ydc (ydz hct (ydc (ydz hmro (ydy rfl (ydc (ydz hmade (ydc (ydf (ydc (ydd (ydj (ydk (code_set_new_1 (E:=λ_ _=>False) (Value.ref l) (Q₁:=λv s'=>∃led:Bool,v=.ref s.heap.objs.size/\s'={ s with heap:=s.heap.push { cls:=.type "set",data:=.set #[] 0 (SetTable.fresh 0 0 led) } }) λled=>⟨led,rfl,rfl⟩) λr s₁ hr=>?_))))))))))))
 cases r with
 |error e=>exact False.elim hr
 |ok fl =>
  cases fl with
  |next=>exact False.elim hr
  |brk=>exact False.elim hr
  |cont=>exact False.elim hr
  |ret v =>
   obtain⟨led,rfl,rfl⟩:=(show ∃led:Bool,v=.ref s.heap.objs.size/\s₁={ s with heap:=s.heap.push { cls:=.type "set",data:=.set #[] 0 (SetTable.fresh 0 0 led) } } from hr)
   have ho:(s.heap.push { cls:=.type "set",data:=.set #[] 0 (SetTable.fresh 0 0 led) }).get? s.heap.objs.size=some { cls:=.type "set",data:=.set #[] 0 (SetTable.fresh 0 0 led) }:=yai _ rfl;have hT:Shared.TypeIs { s with heap:=s.heap.push { cls:=.type "set",data:=.set #[] 0 (SetTable.fresh 0 0 led) } } (.ref s.heap.objs.size) "set":=⟨_,ho,rfl⟩
   have hin:=ycd.init;refine ydc (ye0 hT hsub (ydy rfl (ydc (ydd ?_))));unfold callSpecial?;refine ydc (wpAny_specialOf hT hin.lookup (ydd (ydc (ydz (hin.bind _) (ydc (ydj (ydk (R:=wants (λv s'=>v=.none/\∃tk h',s'={ s with heap:=h',toks:=tk }/\Heap.SetOf knd h' s.heap.objs.size (λk'=>decide (k'∈met val items.size)) (met val items.size).length/\∀(b:Nat) (o:Obj),b<s.heap.objs.size->s.heap.get? b=some o->h'.get? b=some o) λ_ _=>False) (codeAny_call_builtin hin.plain F.entry_set_init (check_set_init_1 hT ?_)) λr s₂ hr₂=>?_)))))))
   .unfold Builtin.«set.__init__» noKeywords;refine ydc (wpAny_ite_true rfl (ydf ?_));unfold typeNameOfCut shownTypeOf;refine ydc (ydc (ydc (wpAny_typeOf hT (ydy (by decide +kernel) (ydf ?_)))))
    refine ydz (rfl:typeNameCut 200 (Value.type "set")=pure _) ?_;refine ydc (ydz (rfl:checkCount _ 0 1 1=pure ()) ?_);refine ydc (ydf ?_);unfold setUsed setState;refine ydc (ydc (ydc (wpAny_load ho (ydy rfl (ydf (ydf (ydy rfl ?_)))))));obtain⟨ol,hol,hcl,nl,hdl⟩:=id hl;have hol2:(s.heap.push { cls:=.type "set",data:=.set #[] 0 (SetTable.fresh 0 0 led) }).get? l=some ol:=ya4 _ hol;have hTl:Shared.TypeIs { s with heap:=s.heap.push { cls:=.type "set",data:=.set #[] 0 (SetTable.fresh 0 0 led) } } (.ref l) "list":=⟨_,hol2,hcl⟩
    unfold Builtin.Frozenset.updateFrom Builtin.Frozenset.isAnySet;refine ydc (ydc (ydc (ye0 hTl F.sub_list_set ?_)));have hl2:(s.heap.push { cls:=.type "set",data:=.set #[] 0 (SetTable.fresh 0 0 led) }).IsList l items:=⟨ol,hol2,hcl,nl,hdl⟩;refine ye0 hTl F.sub_list_frozenset (ydy rfl (ydc (wpAny_typeOf hTl (ydy (by decide +kernel) (ydc (ydg hl2 ?_))))))
    have lt:l<s.heap.objs.size:=ya8 hol;have hsz:(s.heap.push { cls:=.type "set",data:=.set #[] 0 (SetTable.fresh 0 0 led) }).objs.size=s.heap.objs.size+1:=ybq _ _;generalize hhp:s.heap.push { cls:=.type "set",data:=.set #[] 0 (SetTable.fresh 0 0 led) }=hp at *
    have hS:s.heap.objs.size∉[hp.objs.size,l]:=by
     rw[hsz];intro z
     rcases yak.mp z with e|e
     .exact absurd e (yaj (ycn _))
     .exact absurd (yae.mp e) (Nat.ne_of_gt lt)
    refine ydc (wpAny_runValue ?_);refine Qv (knd:=knd) (A:=A.in1.in1) (Walks.list (A:=A.in1.in1.in1) hh hp.objs.size l (by rw[hsz];exact yaj (yc1 lt)) items).toS s.heap.objs.size hS val (λi v e=>hP i v e) hb items.size 0 _ (by omega) (ybf _) ⟨?_,?_⟩ ?_ λs' mv hs'=>?_
    .exact⟨_,yai _ rfl,rfl,rfl⟩
    .exact⟨ol,ya4 _ hol2,hcl,nl,hdl⟩
    .letI:BEq Key:=⟨λa b=>decide (a=b)⟩
     haveI:LawfulBEq Key:={ eq_of_beq:=λh=>ydv h,rfl:=ydp rfl }
     have e0:=(setObjOf_fresh (prog:=prog) (w:=w) (knd:=knd) led).setOf (h:=hp.push { cls:=.type "list_iterator",data:=.fields #[.ref l,.int 0 0] }) (a:=s.heap.objs.size) (ya4 _ ho) (by decide)
     obtain⟨o,es,ep,t,g1,g2,g3,g4,g5,g6,g7,g8⟩:=e0;refine⟨o,es,ep,t,g1,g2,g3,g4,λk'=>?_,g6,g7,g8⟩
     rw[<- g5 k'];simp[met]
    .refine ydf (ydf ?_)
     have b2:∀(b:Nat) (o:Obj),b<s.heap.objs.size->s.heap.get? b=some o->s'.heap.get? b=some o:=λb o hb e=>by
      refine mv.heap b o (λz=>?_) (ya4 _ (by rw[<- hhp];exact ya4 _ e))
      rcases yak.mp z with e|e
      .exact absurd e (yaj hb)
      .have e:=yae.mp e;rw[hsz]at e;exact absurd e (yaj (yc1 hb))
     have m1:=mv.gens;have m2:=mv.drawn;have m3:=mv.os;obtain⟨hh',g',d',t',os'⟩:=s';refine⟨rfl,t',hh',?_,hs',b2⟩;simp only at m1 m2 m3;rw[m1,m2,m3]
   .cases r with
    |error e=>exact False.elim hr₂
    |ok fl =>
     cases fl with
     |next=>exact False.elim hr₂
     |brk=>exact False.elim hr₂
     |cont=>exact False.elim hr₂
     |ret v =>
      obtain⟨rfl,tk,h',rfl,hs,hk⟩:=(show v=.none/\∃tk h',s₂={ s with heap:=h',toks:=tk }/\Heap.SetOf knd h' s.heap.objs.size (λk'=>decide (k'∈met val items.size)) (met val items.size).length/\∀(b:Nat) (o:Obj),b<s.heap.objs.size->s.heap.get? b=some o->h'.get? b=some o from hr₂)
      refine ydf (ydy rfl (ydf ?_));exact h h' tk hs hk
def Mz(P:Program)(w:World)(a:Addr)(ks:List Key):HO:=.ext λh=>Heap.SetOf (CV P w) h a (λk=>@decide (k∈ks) (Classical.propDecidable _)) ks.length
section
variable {X:Cx}
theorem ze4(hc:X.calm=true):BW X (.type "set") (λxs H Q=>∃(p:Addr) (ys:List Str),xs=[.ref p]/\AM X.K H p (ys.map V.str)/\ys.length<1000/\∀a,H a=none->Q (.ref a) (upd H a (Mz X.prog X.w a (met (λi=>Sum.inr (ys.getD i Str.empty)) ys.length)))):=by
 intro pins s σ H xs us Q I r h;obtain⟨p,ys,rfl,hq,hz,q⟩:=h;obtain⟨u,rfl,rx⟩:=FJ r;cases rx;obtain⟨its,r',pl,_⟩:=I.list hq;have hlen:=r'.length;rw[ya2]at hlen;have hsz:its.toArray.size=ys.length:=by rw[yay];exact hlen.symm
 refine zbb (knd:=CV X.prog X.w) (val:=λi=>Sum.inr (ys.getD i Str.empty)) (I.ok.hd hc) pl.isList (λi v e=>?_) (by rw[hsz];exact yab (Nat.succ_lt_succ hz) (by decide)) λh' tk hs kp=>?_
 .have e' :=by simpa using e
  have hi:i<ys.length:=by rw[hlen];exact(ya3.mp e').1
  have hx:(ys.map V.str)[i]?=some (.str ys[i]):=by rw[ya9,ya0 hi];rfl
  obtain⟨u,e2,ru⟩:=r'.get hx;rw[e']at e2;cases e2;obtain⟨t,rfl⟩:=(ru);refine⟨?_,rfl⟩;show Ew (Sum.inr (ys.getD i Str.empty)) (Value.str ys[i] t)=true;rw[yaq,ya0 hi];show(ys[i] == ys[i])=true;exact ydx _
 .rw[hsz]at hs;refine⟨.ref s.heap.objs.size,_,I.laid (o:=Mz X.prog X.w s.heap.objs.size (met (λi=>Sum.inr (ys.getD i Str.empty)) ys.length)) (λb o e=>kp b o (ya8 e) e) (ya6 _) ⟨?_,?_,?_⟩,rfl,q _ (I.hok.fresh (ya6 _))⟩
  .exact hs
  .obtain⟨o,es,ep,t,g1,_⟩:=hs;exact⟨o,g1⟩
  .intro h1 h2 p1 k;obtain⟨o,es,ep,t,g1,g2⟩:=p1;exact⟨o,es,ep,t,k o g1,g2⟩
theorem ze5:BW X (.builtin "len") (λxs H Q=>∃a ks,xs=[.ref a]/\H a=some (Mz X.prog X.w a ks)/\Q (.int ks.length) H):=by
 intro pins s σ H xs us Q I r h;obtain⟨a,ks,rfl,ha,q⟩:=h;obtain⟨u,rfl,rx⟩:=FJ r;cases rx;obtain⟨⟨o,es,ep,t,g1,g2,g3,g4,g5,g6,g7,g8⟩,_⟩:=(I.hok a _ ha)
 have hb:(es.size:Int)<2 ^ 63:=by
  have:scanBound<=2 ^ 40:=by decide
  omega
 refine call_len_set g1 g2 g3 g7 hb ⟨.int es.size,H,I.tok _,⟨_,rfl⟩,?_⟩
 grind
end
def EM:List T->Option (List Str)
 |[]=>some []
 |.str x::r=>(match EM r with
  |some l=>some (x::l)
  |none=>none)
 |_::_=>none
theorem Ib{K}{F}:∀{l} {ys} {xs},EM l=some ys->A2 K F l xs->xs=ys.map V.str
 |[],ys,xs,h,r=>by
  cases h;exact r.inv0
 |t::l,ys,xs,h,r=>by
  obtain⟨x,xs',rfl,r1,r2⟩:=r.inv;unfold EM at h;split at h
  .grind
  .rename_i y r e;cases e;split at h
   .rename_i l' hl;cases h;rw[r1.str_inv,Ib hl r2]
    rfl
   .cases h
  .cases h
def KP(ys:List Str):Nat:=(met (λi=>Sum.inr (ys.getD i Str.empty)) ys.length).length
def Gf:T->Option T
 |.nd _ .lst l=>(match EM l with
  |some ys=>if ys.length<1000 then some (.int (KP ys)) else none
  |none=>none)
 |.nd _ .rl l=>(match EM l with
  |some ys=>if ys.length<1000 then some (.int (KP ys)) else none
  |none=>none)
 |_=>none
section
variable {X:Cx}{E:L2.St->XK}{ca:Str->Value}{m:AD}{e:Expr}{pos p p2 p3:Pos}
theorem r_unq(hc:X.calm=true)(hg:Gl X "len")(hm:X.mg "len"=none)(hg2:Gl X "set")(hm2:X.mg "set"=none)(ha:PE X e (tM X.K E ca m))(he:starEach [e] X.env=[(false,eval e X.env)]) :
  PE X (.Call (.Name "len" p) [.Call (.Name "set" p2) [e] [] p3] [] pos) (tM X.K E ca (BG (g1 Gf) (AB m AE))):=by
 have hset:=Iz (pos:=p3) (p:=p2) (ze4 hc) hg2 hm2 (rfl) (CI ha Ct he) (by decide) (by decide) he rfl
 refine PE.weak (JA (ze5) hg hm PySem.boot_len (CI hset Ct rfl) (by decide) (by decide) rfl rfl) λσ H Q h=>?_
 refine(FL (FN h)).mono λx H1 h1=>?_
 obtain⟨F,ts,v,fh,rs,e,q⟩:=FK h1;unfold g1 at e;split at e
 .obtain⟨x1,xs1,e1,r1,rs1⟩:=rs.inv;cases e1;unfold Gf at e;split at e
  .split at e
   .rename_i o l ys hy;split at e
    .rename_i hz;cases e;obtain⟨pp,zs,rfl,_,n,kd⟩:=DF r1;have hF :=n;refine⟨pp,ys,rfl,AM.of (by rw[<- Ib hy kd];exact fh _ _ hF),hz,λa ha=>⟨a,_,rfl,Be,?_⟩⟩
     exact q F _ _ R0 ((Ext.newO fh ha).mono λ_ z=>z.elim) (Rp.int _)
    .cases e
   .cases e
  .split at e
   .rename_i o l ys hy;split at e
    .rename_i hz;cases e;obtain⟨pp,zs,rfl,_,n,kd⟩:=DF r1;refine⟨pp,ys,rfl,by rw[<- Ib hy kd];exact fh.seq (E5.l n),hz,λa ha=>⟨a,_,rfl,Be,?_⟩⟩
     exact q F _ _ R0 ((Ext.newO fh ha).mono λ_ z=>z.elim) (Rp.int _)
    .cases e
   .cases e
  .cases e
 .cases e
end
def EH:T->T->Option T
 |.int i,.int j=>some (.bl (decide (i<=j)))
 |.str x,.str y=>some (.bl (!(@decide (y.cps.toList<x.cps.toList) (Classical.propDecidable _))))
 |_,_=>none
section
variable {X:Cx}{E:L2.St->XK}{ca:Str->Value}{m mk:AD}{o k:Expr}{pos apos cpos:Pos}
theorem zhc:AX X (compareOp .LtE) (BH X.K EH):=by
 intro pins s σ H x y v u Q I rx ry h;obtain⟨F,t1,t2,r,fh,r1,r2,e,q⟩:=h;unfold EH at e;split at e
 .cases e;rw[r1.int_inv]at rx;rw[r2.int_inv]at ry;exact Pf pins s σ H _ _ v u Q I rx ry ⟨_,_,rfl,rfl,q.bl fh⟩
 .rename_i a b;cases e;rw[r1.str_inv]at rx;rw[r2.str_inv]at ry;obtain⟨t,rfl⟩:=(rx);obtain⟨t',rfl⟩:=(ry);refine PySem.P.le_str ⟨.bl _,H,I,rfl,?_⟩;have q1:=q.bl fh
  grind
 .cases e
end
def DJ(ys:List Str)(y:Str):Option Nat:=ys.findIdx? λx=>@decide (x=y) (Classical.propDecidable _)
theorem zdg{ys:List Str}{y:Str}{j:Nat}(h:DJ ys y=some j):∃hj:j<ys.length,ys[j]=y/\∀(m:Nat) (hm:m<ys.length),m<j->ys[m]≠y:=by
 obtain⟨h1,h2,h3⟩:=yb0.mp h
 grind
theorem Sk{x y:Str}:(x.cps.toList == y.cps.toList)=true ↔ x=y:=by
 constructor
 .cases x
  simp_all
 grind
def zjl(K:k7):V->List V->Hp->VK->Prop:=λx vs H Q=>∃(l:Addr) (ys:List Str) (y:Str) (j:Nat),x=.ref l/\vs=[.str y]/\AM K H l (ys.map V.str)/\DJ ys y=some j/\ys.length<1000000/\Q (.int j) H
section
variable {X:Cx}{E:L2.St->XK}{ca:Str->Value}{m mk:AD}{o k:Expr}{pos apos cpos:Pos}
theorem zf7:NF X "list.index" (zjl X.K):=by
 intro pins s σ H x vs v us Q I rx rv h;obtain⟨l,ys,y,j,rfl,rfl,hH,hj,hz,q⟩:=h;cases rx;obtain⟨u,rfl,ru⟩:=rv.one;obtain⟨its,r,⟨ob,n,e,c1,c2,c3⟩,hz0⟩:=I.list hH;have hl:=r.length;obtain⟨cc,dd,da,sl⟩:=ob;simp only at c1 c2 c3;subst c1 c2 c3;obtain⟨t,rfl⟩:=(ru);obtain⟨hj1,hj2,hj3⟩:=zdg hj;rw[ya2]at hl
 have at_:∀(i ) (hi ),∃(t':Tok) (hi':i<ys.length),its.toArray[i]=Value.str ys[i] t':=λi hi=>by
  have hi0 :=by simpa using hi
  have hi':i<ys.length:=by omega
  have hx:(ys.map V.str)[i]?=some (.str ys[i]):=by rw[ya9,ya0 hi'];rfl
  obtain⟨u,e2,ru⟩:=r.get hx;obtain⟨t',rfl⟩:=(ru);rw[ya0 hi0]at e2;refine⟨t',hi',?_⟩
  simpa using e2
 let ev:Value->Bool:=λv=>match v with
  |.str x _=>x.cps.toList == y.cps.toList
  |_=>false
 have evs:∀(x ) (t' ),ev (.str x t')=(x.cps.toList == y.cps.toList):=λ_ _=>rfl
 have hjs:j<its.toArray.size:=by rw[yay];omega
 refine ydo F.slot_list_index ⟨_,e,rfl⟩ F.entry_list_index (F.args_list_index_2 _ _) (SeqAt.list_indexAt l its.toArray n none sl (.str y t) ev j hjs (by omega) ?_ λm hm hmj=>?_) ⟨e,λy' hy'=>?_,.int j,H,I.tok _,⟨_,rfl⟩,q⟩
 rotate_left 2
 .obtain⟨i,hi,rfl⟩:=Array.mem_iff_getElem.mp hy';obtain⟨t',hi',e1⟩:=at_ i hi;rw[e1,evs _ t'];exact(SeqRoads2.EqGives.str _ _ _ _).at _ _
 .obtain⟨t',hi',e1⟩:=at_ j hjs;rw[e1,evs _ t'];exact Sk.mpr hj2
 .obtain⟨t',hi',e1⟩:=at_ m hm;rw[e1,evs _ t',Bool.eq_false_iff];exact λz=>hj3 m hi' hmj (Sk.mp z)
def HN:T->Option (List T)
 |.nd false .lst l=>some l
 |.nd false .rl l=>some l
 |_=>none
theorem zhn{t:T}{l:List T}(h:HN t=some l):∃k,t=.nd false k l/\GO t=true:=by
 unfold HN at h;split at h
 .cases h;exact⟨_,rfl,rfl⟩
 .cases h;exact⟨_,rfl,rfl⟩
 .cases h
def HL(m mk:AD):AD:=λτ=>match m τ with
  |some (.v t false)=>(match HN t with
   |some l=>(match EM l with
    |some ys=>(match mk τ with
      |some (.v (.str y) _)=>(match DJ ys y with
        |some j=>if ys.length<1000000 then some (.v (.int j) false) else none
        |none=>none)
      |_=>none)
    |none=>none)
   |none=>none)
  |_=>none
theorem zgn(ho:PE X o (tM X.K E ca m))(hk:PE X k (tM X.K E ca mk))(hbase:attributeBase o "index" X.env (eval o X.env)=eval o X.env)(hs:starEach [k] X.env=[(false,eval k X.env)])(hline:(apos.endLine == cpos.line)=true) :
    PE X (.Call (.Attribute o "index" apos) [k] [] cpos) (tM X.K E ca (HL m mk)):=by
  refine PE.weak (GF yas PySem.F.slot_list_index PySem.F.type_list_index zf7 ho (CI hk Ct hs) hbase (by rw[hs];rfl) hline hs rfl) λσ H Q h=>?_
  obtain⟨F,τ,R,S,q⟩:=h;refine⟨F,τ,R,S,?_⟩;unfold HL at q;cases hm:m τ with
  |none=>simp only[hm]at q<;>exact q.elim
  |some r =>
    cases r with
    |x c=>simp only[hm]at q<;>exact q.elim
    |v t b =>
      cases b with
      |true=>simp only[hm]at q<;>exact q.elim
      |false =>
       simp only[hm]at q;cases hls:HN t with
       |none=>simp only[hls]at q<;>exact q.elim
       |some l =>
        simp only[hls]at q;obtain⟨kk,rfl,hL⟩:=zhn hls;intro F1 H1 x B e1 g1;have g0:Rp X.K F1 H1 (.nd false kk l) x B:=g1;obtain⟨p,rfl⟩:=g0.ref_inv;obtain⟨xs0,hN,hr0⟩:=A2.node g0;obtain⟨p1,xs,e0,sqq,hr⟩:=Lv hL (A2.of_node (H:=F1) hN hr0);injection e0 with e0
        subst e0;cases hy:EM l with
        |none=>simp only[hy]at q<;>exact q.elim
        |some ys =>
          simp only[hy]at q;have hxs:=Ib hy hr;refine⟨.inl ⟨rfl,xs,sqq F1 H1 (AL.refl _) e1.fh⟩,F1,τ,R,S.ext e1,?_⟩;cases hk2:mk τ with
          |none=>simp only[hk2]at q<;>exact q.elim
          |some r =>
            cases r with
            |x c=>simp only[hk2]at q<;>exact q.elim
            |v t2 b2 =>
              cases t2 with
              |str y =>
                simp only[hk2]at q;intro F2 H2 z B2 e2 g2;have hz:=HZ g2;subst hz;cases hj:DJ ys y with
                |none=>simp only[hj]at q<;>exact q.elim
                |some j =>
                  simp only[hj]at q
                  by_cases hl:ys.length<1000000
                  . rw[if_pos hl]at q
                    refine⟨p,ys,y,j,rfl,rfl,by rw[<- hxs];exact sqq F2 H2 e2.ff e2.fh,hj,hl,?_⟩
                    exact q F2 H2 _ R0 ((e1.trans e2).mono λ_ z=>z.elim) (.int _)
                  . rw[if_neg hl]at q
                    exact q.elim
              |_=>simp only[hk2]at q<;>exact q.elim
end
section
variable {X:Cx}{E:L2.St->XK}{ca:Str->Value}{mu:Bool}{i:Nat}{x n:Str}{np pos hpos:Pos}{body suite:List Stmt}{b₀:Stmt}{u h:AH}{cs:List (Str×Addr)}
theorem StR.put{K}{t:T}(S:StR K F H σ τ R)(hi:i<τ.length)(r:Rp K F H t v R0):StR K F H (σ.set i (some v)) (τ.set i (some t)) (λj=>if j=i then R0 else R j):=by
 refine⟨S.fh,by simpa using S.len,λj t' e=>?_,λj a z=>?_,λj k a hjk z1 z2=>?_⟩
 .by_cases hj:j=i
  .subst hj;rw[yaa hi]at e;cases e;exact⟨v,yaa (by rw[S.len];exact hi),by simpa using r⟩
  .rw[ya5 (yah hj)]at e;obtain⟨y,e1,r1⟩:=S.rep j t' e;exact⟨y,by rw[ya5 (yah hj)];exact e1,by simpa[hj] using r1⟩
 .by_cases hj:j=i
  .simp only[hj,ydn]at z;exact z.elim
  .simp only[hj,ydw]at z;obtain⟨t',e⟩:=S.out j a z;exact⟨t',by rw[ya5 (yah hj)];exact e⟩
 .by_cases hj:j=i
  .simp only[hj,ydn]at z1;exact z1.elim
  .by_cases hk:k=i
   .simp only[hk,ydn]at z2;exact z2.elim
   .simp only[hj,ydw]at z1;simp only[hk,ydw]at z2;exact S.dis j k a hjk z1 z2
end
def isXT(tb:List (Addr×Bool)):T->Option T
 |.obj (.exn C) _=>(match tb.lookup C with
  |some b=>some (.bl b)
  |none=>none)
 |_=>none
section
variable {X:Cx}{E:L2.St->XK}{ca:Str->Value}{m:AD}{e:Expr}{pos p p2:Pos}{c:Str}{v:V}{tb:List (Addr×Bool)}
end
def Kd.isLst:Kd->Bool
 |.lst=>true
 |_=>false
section
variable {X:Cx}{E:L2.St->XK}{ca:Str->Value}{mu:Bool}{i j:Nat}{tg it c:Expr}{ret:List Stmt}{mc:AD}{k:T}{ip pos:Pos}
end
section
variable {X:Cx}{E:L2.St->XK}{ca:Str->Value}{mu:Bool}{i j:Nat}{tg it e:Expr}{m:AD}{t:T}{p1 apos cpos pos bpos:Pos}{x:Str}
theorem Ig{K }      {o:HO}(S:StR K F H σ τ R)(fa:F a=none)(ra:¬ tot R a):StR K F (upd H a o) σ τ R:=by
 have fh:AL F (upd H a o):=λb u z=>by
  rw[AZ (λw=>by rw[w,fa]at z;cases z)]
  exact S.fh b u z
 refine⟨fh,S.len,λk t' z=>?_,S.out,S.dis⟩
 obtain⟨y,e1,r1⟩:=S.rep k t' z;exact⟨y,e1,r1.upd λw=>ra ⟨k,w⟩⟩
theorem Ie{K}{F H:Hp}{i:Nat}(S:StR K F H σ τ R):StR K F H σ (τ.set i none) (λk=>if k=i then R0 else R k):=by
 refine⟨S.fh,by simpa using S.len,λk t' z=>?_,λk a z=>?_,λk l a hkl z1 z2=>?_⟩
 .by_cases hk:k=i
  .subst hk;rw[List.getElem?_set]at z;simp only[ydn]at z;split at z<;>cases z
  .rw[ya5 (yah hk)]at z;obtain⟨y,e1,r1⟩:=S.rep k t' z;exact⟨y,e1,by simpa[hk] using r1⟩
 .by_cases hk:k=i
  .simp only[hk,ydn]at z;exact z.elim
  .simp only[hk,ydw]at z;obtain⟨t',w⟩:=S.out k a z;exact⟨t',by rw[ya5 (yah hk)];exact w⟩
 .by_cases hk:k=i
  .simp only[hk,ydn]at z1;exact z1.elim
  .by_cases hl:l=i
   .simp only[hl,ydn]at z2;exact z2.elim
   .simp only[hk,ydw]at z1;simp only[hl,ydw]at z2;exact S.dis k l a hkl z1 z2
theorem K6{K}{F H:Hp}{j:Nat}(S:StR K F H σ τ R)(hj:∀t,τ[j]?≠some (some t)):StR K F H (σ.set j v) τ R:=by
 refine⟨S.fh,by simpa using S.len,λk t' z=>?_,S.out,S.dis⟩
 obtain⟨y,e1,r1⟩:=S.rep k t' z;refine⟨y,?_,r1⟩
 by_cases hk:k=j
 .subst hk;exact absurd z (hj t')
 .rw[ya5 (yah hk)];exact e1
end
section
variable {X:Cx}{E:L2.St->XK}{ca:Str->Value}{m mk ma:AD}{o k e a:Expr}{pos apos cpos p p2:Pos}
def rSlS:V->Option Int->Option Int->Hp->VK->Prop:=λx lo hi H Q=>∃z:Str,x=.str z/\z.length<=AW/\Q (.str (Txt.slice z lo hi)) H
theorem zit:Fh X rSlS:=by
 intro pins s σ H x v vl vu lo hi sl Q I rx hs pl pu q;obtain⟨z,rfl,hz,q⟩:=q;obtain⟨t,rfl⟩:=(rx);obtain⟨ob,ho,hc,hd⟩:=hs;rw[Dm]at hz;cases pl with
 |none =>
  cases pu with
  |none=>exact⟨"str",_,ybr.lookup,ydm _ _ _,ye1 (l:=none) (u:=none) (st:=none) ⟨ob,ho,hc,hd⟩ rfl (ye2 ⟨yaf (yd7 z _ _) hz,λt' k=>⟨.str _,H,I.tok _,⟨_,rfl⟩,q⟩⟩)⟩
  |int j uj=>exact⟨"str",_,ybr.lookup,ydm _ _ _,ye1 (l:=none) (u:=some (j,uj)) (st:=none) ⟨ob,ho,hc,hd⟩ rfl (ye2 ⟨yaf (yd7 z _ _) hz,λt' k=>⟨.str _,H,I.tok _,⟨_,rfl⟩,q⟩⟩)⟩
 |int i ui =>
  cases pu with
  |none=>exact⟨"str",_,ybr.lookup,ydm _ _ _,ye1 (l:=some (i,ui)) (u:=none) (st:=none) ⟨ob,ho,hc,hd⟩ rfl (ye2 ⟨yaf (yd7 z _ _) hz,λt' k=>⟨.str _,H,I.tok _,⟨_,rfl⟩,q⟩⟩)⟩
  |int j uj=>exact⟨"str",_,ybr.lookup,ydm _ _ _,ye1 (l:=some (i,ui)) (u:=some (j,uj)) (st:=none) ⟨ob,ho,hc,hd⟩ rfl (ye2 ⟨yaf (yd7 z _ _) hz,λt' k=>⟨.str _,H,I.tok _,⟨_,rfl⟩,q⟩⟩)⟩
def DV(ma:AD)(ml mh:Option (AD)):AD:=λτ=>match ma τ with
 |some (.v (.str z) _)=>(match DH ml τ,DH mh τ with
  |some lo,some hi=>if z.length<=AW then some (.v (.str (Txt.slice z lo hi)) false) else none
  |_,_=>none)
 |_=>none
theorem zev{lo hi}(ha:PE X a (tM X.K E ca ma))(hl:PO X lo (E9 X.K ml))(hh:PO X hi (E9 X.K mh)):PE X (.Subscript a (.Slice lo hi none p2) pos) (tM X.K E ca (DV ma ml mh)):=by
 refine PE.weak (P6 zit ha hl hh) λσ H Q h=>?_
 obtain⟨F,τ,R,S,q⟩:=h;refine⟨F,τ,R,S,?_⟩;unfold DV at q;cases hm:ma τ with
 |none=>rw[hm]at q;exact q.elim
 |some r =>
  rw[hm]at q;cases r with
  |x c=>exact q.elim
  |v t bb =>
   cases t with
   |str z =>
    intro F1 H1 x B e1 g1;have hx:=HZ g1;subst hx;have e1':Ext F H F1 H1 R0:=e1.mono λ_ z=>z.elim
    have S1:=S.ext e1';cases h1:DH ml τ with
    |none=>simp only[h1]at q<;>exact q.elim
    |some lo' =>
     refine⟨F1,τ,R,lo',S1,h1,λF2 H2 e2=>?_⟩
     have S2:=S1.ext e2;cases h2:DH mh τ with
     |none=>simp only[h1,h2]at q<;>exact q.elim
     |some hi' =>
      simp only[h1,h2]at q;refine⟨F2,τ,R,hi',S2,h2,λF3 H3 e3=>?_⟩
      by_cases hz:z.length<=AW
      .rw[if_pos hz]at q;exact⟨z,rfl,hz,q F3 H3 _ R0 (e1'.trans0 (e2.trans0 e3)) (.str _)⟩
      .rw[if_neg hz]at q;exact q.elim
   |_=>exact q.elim
def rIxD:R2:=λx y H Q=>∃a kvs k v,x=.ref a/\y=.str k/\H a=some (.dK kvs)/\Cd kvs (Sum.inr k)=some v/\Q v H
theorem zl4(hu:X.A.units+1<cLine):EL X rIxD:=by
 intro value slice pins s σ H x y v u Q I rx ry h hs;obtain⟨a,kvs,k,w,rfl,rfl,hH,hv,q⟩:=h;cases rx;have g :=hv▸Gd.k hH
 have hT:s.TypeIs (.ref a) "dict":=by
  obtain⟨_,_,vs,_,dd⟩:=Sa I.hok hH;exact dd.typeIs
 refine ydc ?_;refine ydc (wpAny_specialOf hT PySem.F.slot_dict_getitem.lookup ?_)
 have Ah:wpAny (model X.prog X.w) X.A (subscripted slice false (.ref a) u) (λr s₃=>wpAny (model X.prog X.w) X.A (letTemporaryGo value (.ref a) r >>= λ_=>pure r) (EP X pins σ Q) X.xe s₃) X.xe s:=by
  rw[hs];exact wpAny_operating (yda (zdv hu I g (ry) λw' s3 I3 rw'=>⟨w,H,I3,rw',q⟩) (λr s₃ h₃=>ydc (wpAny_letTemporaryGo (ydf h₃))) λ_ _ x=>x)
 first|exact ydf (ydc Ah)|rfl|rfl
def HM(m mk:AD):AD:=λτ=>match m τ with
 |some (.v (.obj (.sdc ks) l) _)=>(match mk τ with
  |some (.v (.str y) _)=>(match DJ ks y with
   |some j=>(match l[j]? with
    |some u=>if u.sh then some (.v u false) else none
    |none=>none)
   |none=>none)
  |_=>none)
 |_=>none
theorem NW:∀{ks} {xs} {y} {j} {v},DJ ks y=some j->xs[j]?=some v->Cd (Bx ks xs) (Sum.inr y)=some v
 |[],xs,y,j,v,h,_=>by simp[DJ]at h
 |k::ks,[],y,j,v,_,h=>by simp at h
 |k::ks,x::xs,y,j,v,h,hx=>by
  show Cd ((Sum.inr k,x)::Bx ks xs) (Sum.inr y)=some v;unfold DJ at h;rw[yd0]at h
  by_cases e:k=y
  .rw[@decide_eq_true _ (Classical.propDecidable _) e]at h;simp only[ydn,yd4]at h;subst h;rw[IM (p:=(Sum.inr k,x)) (by rw[e])]
   simpa using hx
  .rw[@decide_eq_false _ (Classical.propDecidable _) e]at h;simp only[ybi,ydw,yad]at h;obtain⟨j',h1,rfl⟩:=h;rw[IP (p:=(Sum.inr k,x)) (λz=>e (Sum.inr.inj z))]
   exact NW (show DJ ks y=some j' from h1) (by simpa using hx)
theorem r_gt(hu:X.A.units+1<cLine)(ho:PE X o (tM X.K E ca m))(hk:PE X k (tM X.K E ca mk))(hs:Fj k):PE X (.Subscript o k pos) (tM X.K E ca (HM m mk)):=by
 refine PE.weak (GD (zl4 hu) ho hk hs) λσ H Q h=>?_
 obtain⟨F,τ,R,S,q⟩:=h;refine⟨F,τ,R,S,?_⟩;unfold HM at q;cases hm:m τ with
 |none=>rw[hm]at q;exact q.elim
 |some r =>
  rw[hm]at q;cases r with
  |x c=>exact q.elim
  |v t b =>
   cases t with
   |obj kd l =>
    cases kd with
    |sdc ks =>
     simp only at q;intro F1 H1 x B e1 g1;obtain⟨r1,hB⟩:=J2 g1;subst hB;obtain⟨a,xs,rfl,_,⟨hl1,hF⟩,el,cc⟩:=r1.obj_inv;refine⟨F1,τ,R,S.ext e1,?_⟩;cases hk2:mk τ with
     |none=>rw[hk2]at q;exact q.elim
     |some r2 =>
      rw[hk2]at q;cases r2 with
      |x c=>exact q.elim
      |v t2 b2 =>
       cases t2 with
       |str y =>
        simp only at q;intro F2 H2 z B2 e2 g2;have hz:=HZ g2;subst hz;have e2':Ext F1 H1 F2 H2 R0:=e2.mono λ_ z=>z.elim
        cases hj:DJ ks y with
        |none=>simp only[hj]at q<;>exact q.elim
        |some j =>
         simp only[hj]at q;cases hu2:l[j]? with
         |none=>simp only[hu2]at q<;>exact q.elim
         |some u =>
          simp only[hu2]at q
          by_cases hsh:u.sh=true
          .rw[if_pos hsh]at q;have hjl:=(ya3.mp hu2).1;have hx:xs[j]?=some xs[j]:=ya0 (by omega)
           have hc:=(cc j u _ hu2 hx).move (H':=H2) hsh e2'.ff;exact⟨a,_,y,_,rfl,rfl,e2'.hh _ _ (e1.fh _ _ hF),NW hj hx,q F2 H2 _ R0 (e1.trans0 e2') hc⟩
          .rw[if_neg hsh]at q;exact q.elim
       |_=>exact q.elim
    |_=>exact q.elim
   |_=>exact q.elim
def tKys(to:TE):TE:=λσ H Q=>to σ H λx H1=>∃a ks xs,x=.ref a/\ks.length=xs.length/\H1 a=some (.dK (Bx ks xs))/\∀p,H1 p=none->Q (.ref p) (upd H1 p (.lst (ks.map V.str)))
theorem RJ:∀{ks} {xs},ks.length=xs.length->(Bx ks xs).length=ks.length
 |[],[],_=>rfl
 |[],_::_,h=>by simp at h
 |_::_,[],h=>by simp at h
 |k::ks,x::xs,h=>by
  show(Bx ks xs).length+1=ks.length+1;rw[RJ (by simpa using h)]
theorem RK:∀{ks} {xs} {vs},ks.length=xs.length->KV (Bx ks xs) vs->vs.map (·.1)=ks.map Sum.inr
 |[],[],vs,_,r=>by
  have r' :=(r);cases r'
  rfl
 |[],_::_,_,h,_=>by simp at h
 |_::_,[],_,h,_=>by simp at h
 |k::ks,x::xs,vs,h,r=>by
  have r' :=r;cases r' with
  |@cons _ q _ qs hd tl =>
   rw[yal,yal,<- hd.1,RK (by simpa using h) tl]
theorem zk2(hc:X.calm=true)(hg:Gl X "list")(hm:X.mg "list"=none)(ho:PE X o to)(hs:starEach [o] X.env=[(false,eval o X.env)]) :
  PE X (.Call (.Name "list" p) [o] [] p2) (tKys to):=by
 intro pins s σ H Q I h;refine ydl (GL I hg hm ybg ?_ (by decide) (by decide))
 refine ybh ?_ (by rw[hs];rfl) rfl
 rw[hs];show wpAny _ _ (spliced ((false,eval o X.env)::backTo p2 (starEach [] X.env))) _ _ s;refine Calls.spliced_cons (AJ (ho pins s σ H _ I h) λv s1 ⟨x,H1,I1,r1,q1⟩=>?_)
 obtain⟨a,ks,xs,rfl,el,hd,q⟩:=q1;cases r1;obtain⟨z,hsm,vs,rel,o',es,ep,ho',r⟩:=(I1.hok a _ hd);have hat:s1.heap.DictAt (CV X.prog X.w) a vs ep:=⟨o',es,ho',r⟩;refine Calls.spliced_nil ?_;refine PySem.W.kdl_call (PySem.W.kdl_dict hsm) (I1.ok.hd hc) hat (by rw[<- zkv rel];exact z) λh' tk acc' c' hk hD hacc=>?_
 have hkeys:=RK el rel;refine⟨.ref _,_,I1.laid hk (ya6 _) ?_,rfl,q _ (I1.hok.fresh (ya6 _))⟩;refine⟨by rw[ya2,<- RJ el];exact z,acc'.toList,c',?_,by rw[hD]⟩
 have hlen:acc'.toList.length=ks.length:=by
  rw[Array.length_toList,hacc.1,<- ya2,hkeys,ya2]
 have key:∀(n ) (k ) (v ),ks[n]?=some k->acc'.toList[n]?=some v->∃t,v=Value.str k t:=λn k v h1 h2=>by
  obtain⟨k',x',e1,e2⟩:=hacc.2 n v (by rw[<- Array.getElem?_toList];exact h2)
  have e3:(vs.map (·.1))[n]?=some k':=by rw[ya9,e1];rfl
  rw[hkeys,ya9,h1]at e3;have e4 :=(yao e3).symm;subst e4
  rcases Dn (show Ew (Sum.inr k) v=true from e2) with ⟨i,t,e5,_⟩|⟨x,t,e5,e6⟩
  .cases e5
  .cases e5;exact⟨t,e6⟩
 clear hD hk hacc
 generalize acc'.toList=as at hlen key
 clear hd q hkeys
 have go:∀(ks:List Str) (as ),as.length=ks.length->(∀(n:Nat) (k ) (v ),ks[n]?=some k->as[n]?=some v->∃t,v=Value.str k t)->AK (ks.map V.str) as:=by
  intro ks
  induction ks with
  |nil =>
   intro as hl _;cases as with
   |nil=>exact .nil
   |cons _ _=>simp at hl
  |cons k ks ih =>
   intro as hl key;cases as with
   |nil=>simp at hl
   |cons v as=>exact .cons (key 0 k v rfl rfl) (ih as (by simpa using hl) λn k v h1 h2=>key (n+1) k v (by simpa using h1) (by simpa using h2))
 exact go ks as hlen key
def Es(m:AD):AD:=λτ=>match m τ with
 |some (.v (.obj (.sdc ks) _) _)=>some (.v (.own (ks.map T.str)) false)
 |_=>none
theorem zeq{K}(ks:List Str):A2 K F (ks.map T.str) (ks.map V.str):=⟨by simp,λi t x h1 h2=>by
 rw[ya9]at h1 h2;cases h:ks[i]? with
 |none=>grind
 |some k =>
  rw[h]at h1 h2;cases h1;cases h2;exact .str k⟩
theorem r_kys(hc:X.calm=true)(hg:Gl X "list")(hm:X.mg "list"=none)(ho:PE X o (tM X.K E ca m))(hs:starEach [o] X.env=[(false,eval o X.env)]):PE X (.Call (.Name "list" p) [o] [] p2) (tM X.K E ca (Es m)):=by
 refine PE.weak (zk2 hc hg hm ho hs) λσ H Q h=>?_
 obtain⟨F,τ,R,S,q⟩:=h;refine⟨F,τ,R,S,?_⟩;unfold Es at q;cases hm2:m τ with
 |none=>rw[hm2]at q;exact q.elim
 |some r =>
  rw[hm2]at q;cases r with
  |x c=>exact q.elim
  |v t b =>
   cases t with
   |obj kd l =>
    cases kd with
    |sdc ks =>
     intro F1 H1 x B e1 g1;obtain⟨r1,hB⟩:=J2 g1;subst hB;obtain⟨a,xs,rfl,_,⟨hl1,hF⟩,el,cc⟩:=r1.obj_inv;refine⟨a,ks,xs,rfl,hl1,e1.fh _ _ hF,λp hp=>?_⟩
     have gg:Bm X.K F1 H1 (.own (ks.map T.str)) Q:=λF' H' z C e g=>q F' H' z C (e1.trans0 e) g
     exact gg.list e1.fh (zeq ks) hp
    |_=>exact q.elim
   |_=>exact q.elim
structure ICls(K:k7)(C:Addr):Prop where
 c:Cls K C
 a:PySem.W.findIn K (.ref C) "__class__"=some (some (.builtin "object.__class__"))
 n:PySem.W.specialIn K (.builtin "object.__class__") "__get__"=some (some (.builtin "getset_descriptor.__get__"))
 k:PySem.W.takesIn K (.builtin "object.__class__")=some true
 m:PySem.W.mroIn K C (.type "object")=some true
def Lw(tb:List (Addr×Bool)):Ob->Option T
 |.ins C _=>(tb.lookup C).map .bl
 |_=>none
def IQ:List String:=["NoneType","bool","int","str","list","tuple","dict"]
def F8(tb:List (Addr×Bool)):T->Option T
 |.obj o _=>Lw tb o
 |t=>(IS t).map λ_=>.bl false
theorem zfx(hC:ICls X.K C)(hk:PySem.W.kitOne X.K (.ref C) (.ref D)=some b):BW X (.builtin "isinstance") (λxs H Q=>∃a dx fs,xs=[.ref a,.ref D]/\H a=some (.ins C dx fs)/\Q (.bl b) H):=by
 intro pins s σ H xs us Q I r h;obtain⟨a,dx,fs,rfl,e,q⟩:=h;obtain⟨u,w',rfl,rx,ry⟩:=Fp r;cases ry;exact Lu I rx (.ins e hC.c hC.a hC.n hC.k hC.m) hk λtk=>⟨.bl b,H,I.tok _,rfl,q⟩
theorem r_isC(hC:(∀C b,tb.lookup C=some b->ICls X.K C/\PySem.W.kitOne X.K (.ref C) (.ref D)=some b)/\(IQ.all λa=>PySem.W.kitOne X.K (.type a) (.ref D) == some false)=true)(hg:Gl X "isinstance")(hm:X.mg "isinstance"=none)(hgc:Gl X c)(hmc:X.mg c=some (.ref D))(hd:(c == "__debug__")=false)(ha:PE X e (tM X.K E ca m))(he:starEach [e,.Name c p2] X.env=(false,eval e X.env)::starEach [.Name c p2] X.env) :
  PE X (.Call (.Name "isinstance" p) [e,.Name c p2] [] pos) (tM X.K E ca (BG (g1 (F8 tb)) (AB m AE))):=by
 have hR:BW X (.builtin "isinstance") (λxs H Q=>(∃C b a dx fs,tb.lookup C=some b/\xs=[.ref a,.ref D]/\H a=some (.ins C dx fs)/\Q (.bl b) H)\/∃x a,xs=[x,.ref D]/\a∈IQ/\(TyOf X.K H x (.type a)\/Mx X.K H x a)/\Q (.bl false) H):=λpins s σ H xs us Q I r h=>by
  rcases h with ⟨C,b,a,dx,fs,hl,h⟩|⟨x,a,rfl,hm,ty,q⟩
  .exact zfx (hC.1 C b hl).1 (hC.1 C b hl).2 pins s σ H xs us Q I r ⟨a,dx,fs,h⟩
  .have hk :=eq_of_beq (yan.mp hC.2 a hm);obtain⟨u,w',rfl,rx,ry⟩:=Fp r;cases ry
   rcases ty with ty|hp
   .exact Lu I rx ty hk λtk=>⟨.bl false,H,I.tok _,rfl,q⟩
   .exact RT I rx hp hk λtk=>⟨.bl false,H,I.tok _,rfl,q⟩
 refine PE.weak (JA hR hg hm PyProof.Rows.boot_isinstance (CI ha (CI (P9 (v:=.ref D) hgc hmc rfl hd) Ct) he) (by decide) (by decide) he rfl) λσ H Q h=>?_
 refine(FL (FN h)).mono λx H1 h1=>?_
 obtain⟨F,ts,w,fh,rs,e,q⟩:=FK h1;unfold g1 at e;split at e
 .obtain⟨x1,xs1,e1,r1,rs1⟩:=rs.inv;cases e1;unfold F8 at e;split at e
  .unfold Lw at e;split at e
   .obtain⟨b,hb,rfl⟩:=yad.mp e;obtain⟨a,xs,rfl,_,⟨dx,hF⟩,_,_⟩:=r1.obj_inv;exact .inl ⟨_,b,a,dx,_,hb,rfl,fh _ _ hF,q.bl fh⟩
   .cases e
  .obtain⟨a,ha,rfl⟩:=yad.mp e;obtain⟨ty,hm⟩:=N3 fh r1 ha;exact .inr ⟨_,a,rfl,hm,ty,q.bl fh⟩
 .cases e
end
section
variable {X:Cx}{E:L2.St->XK}{ca:Str->Value}{m mk:AD}{e k:Expr}{pos p1 pos2 pos3:Pos}{mu:Bool}{i j:Nat}{x f:Str}
end
end Pu
namespace Zx
open PySem PySem.Spec PyProof.Rows L2 Zw
section
variable {A:Around}{E:Value->Shared->Prop}{M:Model}
end
section
variable {X:Cx}{i1 i2:Nat}{x1 x2 n1 n2:Str}{np1 np2 pos hpos1 hpos2:Pos}{body suite1 suite2:List Stmt}{b1 b2:Stmt}{tb th1 th2:TS}{E:L2.St->XK}
end
end Zx
namespace Pu
open PySem PySem.Spec PyProof.Rows L2 Zw Zx
section
variable {X:Cx}{E:L2.St->XK}{ca:Str->Value}{mu:Bool}{i1 i2:Nat}{x1 x2 n1 n2:Str}{np1 np2 pos hpos1 hpos2:Pos}{body suite1 suite2:List Stmt}{b1 b2:Stmt}{u h1 h2:AH}{cs1 cs2:List (Str×Addr)}
end
section
variable {X:Cx}{E:L2.St->XK}{ca:Str->Value}{m:AD}{e:Expr}{pos p p2 p3 p4:Pos}{c1 c2:Str}{t1 t2:List (Addr×Bool)}{kt:Nat}
end
section
variable {X:Cx}{E:L2.St->XK}{ca:Str->Value}{m mk ma:AD}{o k e a:Expr}{pos apos cpos p p2:Pos}
end
section
variable {X:Cx}{E:L2.St->XK}{ca:Str->Value}{m mk:AD}{o k e:Expr}{pos pos' apos cpos:Pos}
def tRv(K:k7)(te:TE)(ts:TO):TE:=λσ H Q=>te σ H λx H1=>ts σ H1 λk H2=>∃a xs,k=some (-1)/\x=.ref a/\AM K H2 a xs/\∀p,H2 p=none->Q (.ref p) (upd H2 p (.lst xs.reverse))
theorem zeb{xs:List V}{us:List Value}(h:AK xs us):AK xs.reverse us.reverse:=by
 induction h with
 |nil=>exact .nil
 |cons a _ ih =>
  rw[ycj,ycj];exact ih.append (.cons a .nil)
theorem pe_rv{te:TE}{ts:TO}{st:Expr}{p2:Pos}(he:PE X e te)(hs:PO X (some st) ts):PE X (.Subscript e (.Slice none none (some st) p2) pos) (tRv X.K te ts):=by
 intro pins s σ H Q I h;refine Subscript_ (AJ (he pins s σ H _ I h) λv s1 ⟨x,H1,I1,r1,q1⟩=>?_)
 refine wpAny_Slice ?_;rw[evalPart_none];refine ydf (ydf ?_);refine AJ (hs pins s1 σ H1 _ I1 q1) λvk s3 ⟨k,H3,I3,pk,q3⟩=>?_
 obtain⟨a,xs,rfl,rfl,hx,q⟩:=q3;cases r1;have I4:Inv X pins σ H3 { s3 with heap:=s3.heap.push { cls:=.type "slice",data:=.fields #[.none,.none,vk] } }:=I3.kept (t':=s3.toks) λb ob q=>ya4 _ q
 obtain⟨its,r,ht,hz⟩:=I4.list hx;show wpAny (model X.prog X.w) X.A (subscriptTail e (.Slice none none (some st) p2) (.ref a) (.ref s3.heap.objs.size)) (EP X pins σ Q) X.xe { s3 with heap:=s3.heap.push { cls:=.type "slice",data:=.fields #[.none,.none,vk] } }
 refine tail_any (ops:=[.ref a,.ref s3.heap.objs.size]) ht.isList.typeIs slot_list_getitem.lookup (wpAny_getItem_list_slice ht.isList (Heap.IsSliceOf.new ..) .none .none pk (by decide) ?_ (by rw[yay,<- r.length];exact hz)) (by with_unfolding_all rfl)
 rw[PySem.W.krv_pick];refine⟨.ref _,_,I4.laid (t':=s3.toks) (o:=.lst xs.reverse) (λb ob q=>ya4 _ q) (ya6 _) ?_,rfl,q _ (I4.hok.fresh (ya6 _))⟩
 exact⟨by rw[List.length_reverse];exact hz,_,0,zeb r,yai _ rfl⟩
def HI(m mk:AD):AD:=λτ=>match m τ with
 |some (.v (.nd _ .lst l) false)=>(match DH (some mk) τ with
  |some (some k)=>if k=-1 then some (.v (.own (Af l).reverse) false) else none
  |_=>none)
 |_=>none
theorem zgk{K:k7}{F:Hp}{l:List T}{xs:List V}(h:A2 K F l xs):A2 K F l.reverse xs.reverse:=by
 obtain⟨h1,h2⟩:=h;refine⟨by simp[h1],λi t x e1 e2=>?_⟩
 have hi:i<l.length:=by simpa using (ya3.mp e1).1
 rw[List.getElem?_reverse hi]at e1;rw[List.getElem?_reverse (by omega)]at e2
 refine h2 _ t x e1 ?_;rw[h1];exact e2
theorem r_rv{st:Expr}{p2:Pos}(ha:PE X e (tM X.K E ca m))(hs:PO X (some st) (E9 X.K (some mk))):PE X (.Subscript e (.Slice none none (some st) p2) pos) (tM X.K E ca (HI m mk)):=by
 refine PE.weak (pe_rv ha hs) λσ H Q h=>?_
 obtain⟨F,τ,R,S,q⟩:=h;refine⟨F,τ,R,S,?_⟩;unfold HI at q;cases hm:m τ with
 |none=>rw[hm]at q;exact q.elim
 |some r =>
  rw[hm]at q;cases r with
  |x c=>exact q.elim
  |v t b =>
   cases t with
   |nd o kd l =>
    cases kd with
    |lst =>
     cases b with
     |true=>exact q.elim
     |false =>
      simp only at q;intro F1 H1 x B e1 g1;obtain⟨F1',e1',_,r1⟩:=Cp.frz (b:=false) S e1 g1;have S1:=S.ext e1';cases h1:DH (some mk) τ with
      |none=>rw[h1]at q;exact q.elim
      |some ok =>
       rw[h1]at q;cases ok with
       |none=>exact q.elim
       |some k =>
        simp only at q
        by_cases hk:k=-1
        .rw[if_pos hk]at q;refine⟨F1',τ,R,some k,S1,h1,λF2 H2 e2=>?_⟩
         have r3:Rp X.K F2 F2 (T.nd o .lst l).share x R0:=(show Rp X.K F1' F1' _ x R0 from r1).frame e2.ff λ_ z=>z.elim
         rw[T.share]at r3;obtain⟨p,xs,rfl,_,n3,k3⟩:=DF r3;refine⟨p,xs,by rw[hk],rfl,AM.of (e2.fh _ _ n3),λp' hp'=>?_⟩
         have gg:Bm X.K F2 H2 (.own (Af l).reverse) Q:=λF' H' z C e g=>q F' H' z C ((e1'.trans0 e2).trans0 e) g
         exact gg.list e2.fh (zgk k3) hp'
        .rw[if_neg hk]at q;exact q.elim
    |_=>exact q.elim
   |_=>exact q.elim
end
def clsO(C N:Addr)(o:Obj):Prop:=∃nm q bs hdct sn sub ab col dd k0 k1 k2 k3 k5 newId,o=excClassObj nm q C N bs [.type "object"] hdct sn sub ab col dd k0 k1 k2 k3 k5 newId
noncomputable def keyO(e:DictEntry):Bool:=match e.key with
 |.str n _=>!(n == ("__eq__":Str)) && !(n == ("__ne__":Str))
 |_=>false
def nsO(o:Obj):Bool:=match o.data with
 |.dict es _=>es.toList.all keyO
 |_=>false
structure TiOk(K:k7)(C:Addr):Prop where
 i:ICls K C
 k:(Fs.all λc=>PySem.W.kitOne K (.ref C) (.type c) == some false)=true
 o:∃(oC oN:Obj) (N:Addr),K.lookup C=some oC/\clsO C N oC/\K.lookup N=some oN/\nsO oN=true
mutual
def T.lend:T->T
 |.nd o k l=>match o,k with
  |true,.lst=>.nd false .rl (CM l)
  |true,.tup=>.nd false .tup (CM l)
  |_,_=>.nd o k l
 |.dic ks l=>.dic ks l
 |.pdc ks l=>.pdc ks l
 |.odc ks l=>.odc ks l
 |.obj k l=>.obj k l
 |.oob p C fs l=>.oob p C fs l
 |.osd ks l=>.osd ks l
 |.non=>.non
 |.bl b=>.bl b
 |.int i=>.int i
 |.str x=>.str x
def CM:List T->List T
 |[]=>[]
 |t::r=>t.lend::CM r
end
def JY:T->Bool
 |.nd o k _=>match o,k with
  |true,.lst=>true
  |_,_=>false
 |_=>false
theorem zhx(h:JY t=true):∃l,t=.nd true .lst l:=by
 cases t with
 |nd o k l =>
  cases o with
  |false=>cases h
  |true=>cases k<;>first|exact⟨l,rfl⟩|cases h
 |_=>cases h
mutual
def T.lnd:T->Bool
 |.nd o k l=>match o,k with
  |true,.lst=>CW l
  |true,.tup=>l.any JY && CW l
  |true,_=>false
  |false,_=>A6 l
 |.dic _ l=>A6 l
 |.pdc _ l=>A6 l
 |.odc _ _=>false
 |.obj _ l=>A6 l
 |.oob _ _ _ _=>false
 |.osd _ _=>false
 |.non=>true
 |.bl _=>true
 |.int _=>true
 |.str _=>true
def CW:List T->Bool
 |[]=>true
 |t::r=>t.lnd && CW r
end
theorem HQ:∀l,CM l=l.map T.lend
 |[]=>rfl
 |t::r=>by rw[CM,HQ r];rfl
theorem Lk:∀{l},CW l=true->∀{i:Nat} {t},l[i]?=some t->t.lnd=true
 |[],_,i,t,e=>by simp at e
 |a::r,h,i,t,e=>by
  rw[CW,ya1]at h;cases i with
  |zero=>cases e;exact h.1
  |succ j=>exact Lk h.2 (by simpa using e)
theorem RB(n:T.lnd (.nd true .tup l)=true):l.any JY=true/\CW l=true:=by
 rw[T.lnd,ya1]at n;exact n
theorem Rp.lend{K}(r:Rp K F H t x A)(n:t.lnd=true)(s:AL F F')(k:∀a xs,A a->H a=some (.lst xs)->∃o,F' a=some (.frz o (.lst xs)))(k2:∀a xs,A a->H a=some (.tup xs)->F' a=some (.tup xs)):Rp K F' H' t.lend x R0:=by
 induction r with
 |non=>exact .non
 |bl b=>exact .bl b
 |int i=>exact .int i
 |str y=>exact .str y
 |@shr k0 p xs l h e c ih =>
  have hs:T.sh (.nd false k0 l)=true:=by rw[T.sh];rw[T.lnd]at n;exact n
  have hl:(T.nd false k0 l).lend=.nd false k0 l:=by cases k0<;>rfl
  rw[hl];exact(Rp.shr (H:=H) h e c).move hs s
 |dic h e ek c ih=>exact(Rp.dic (H:=H) h e ek c).move (by rw[T.sh];exact n) s
 |pdc h e ek c ih=>exact(Rp.pdc (H:=H) h e ek c).move (by rw[T.sh];exact n) s
 |odc f h e ek c ih=>cases n
 |obj h e c ih=>exact(Rp.obj (H:=H) h e c).move (by rw[T.sh];exact n) s
 |oob R f h e c d dp o ih=>cases n
 |osd R f h e ek c d dp o ih=>cases n
 |@own k0 p xs l hk R f h e c d dp o ih =>
  have kids:CW l=true->∀i t x,(CM l)[i]?=some t->xs[i]?=some x->Rp K F' H' t x R0:=λnl i t x h1 h2=>by
   rw[HQ,ya9]at h1;obtain⟨t0,e0,rfl⟩:=yad.mp h1;exact ih i t0 x e0 h2 (Lk nl e0) (λa xs z=>k a xs (.inr ⟨i,z⟩)) λa xs z=>k2 a xs (.inr ⟨i,z⟩)
  cases k0 with
  |lst =>
   rw[T.lend];exact .shr (.inl (k p xs (.inl rfl) h)) (by rw[HQ,ya2];exact e) (kids n)
  |tup =>
   rw[T.lend];exact .shr (k:=.tup) (k2 p xs (.inl rfl) h) (by rw[HQ,ya2];exact e) (kids (RB n).2)
  |_=>cases n
theorem Rp.lnd{K}(r:Rp K F H t x A)(n:t.lnd=true):∀a,A a->(∃xs,H a=some (.lst xs))\/∃xs,H a=some (.tup xs)/\∃(j:Nat) (c:Addr) (ys:List V),xs[j]?=some (.ref c)/\A c/\H c=some (.lst ys):=by
 induction r with
 |@own k0 p xs l hk R f h e c d dp o ih =>
  have kids:CW l=true->∀a i,R i a->(∃xs,H a=some (.lst xs))\/∃xs,H a=some (.tup xs)/\∃(j:Nat) (c:Addr) (ys:List V),xs[j]?=some (.ref c)/\(c=p\/∃i,R i c)/\H c=some (.lst ys):=λnl a i z=>by
   have hi:=o i a z;have hx:i<xs.length:=by omega
   rcases ih i _ _ (ya0 hi) (ya0 hx) (Lk nl (ya0 hi)) a z with w|⟨zs,h1,j,c,ys,h2,h3,h4⟩
   .exact .inl w
   .exact .inr ⟨zs,h1,j,c,ys,h2,.inr ⟨i,h3⟩,h4⟩
  cases k0 with
  |lst =>
   rintro a (rfl|⟨i,z⟩)
   .exact .inl ⟨xs,h⟩
   .exact kids n a i z
  |tup =>
   obtain⟨n1,n2⟩:=RB n;rintro a (rfl|⟨i,z⟩)
   .obtain⟨t,ht,hl⟩:=List.any_eq_true.mp n1;obtain⟨m,rfl⟩:=zhx hl;obtain⟨j,hj,ej⟩:=List.mem_iff_getElem.mp ht;have hx:j<xs.length:=by omega
    have rj:=c j _ _ (ya0 hj) (ya0 hx);rw[ej]at rj;generalize hB:R j=B at rj;generalize hy:xs[j]=y at rj;cases rj with
    |@own k1 q ys m' hk1 Rq fq hq eq cq dq dpq oq =>
     exact .inr ⟨xs,h,j,q,ys,by rw[ya0 hx,hy],.inr ⟨j,by rw[hB];exact .inl rfl⟩,hq⟩
   .exact kids n2 a i z
  |_=>cases n
 |odc f h e ek c ih=>cases n
 |oob R f h e c d dp o ih=>cases n
 |osd R f h e ek c d dp o ih=>cases n
 |_=>exact λa z=>z.elim
open Classical in
def fz(A:Rg)(h:Heap)(H:Hp):Hp:=λb=>if A b then (match H b,h.get? b with
 |some (.lst xs),some o=>some (.frz o (.lst xs))
 |u,_=>u) else H b
open Classical in
def th(A:Rg)(H H':Hp):Hp:=λb=>if A b then H b else H' b
theorem fz_in{A:Rg}{h:Heap}{H:Hp}(z:A b)(e:H b=some (.lst xs))(q:h.get? b=some o):fz A h H b=some (.frz o (.lst xs)):=by unfold fz;rw[if_pos z,e,q]
theorem Ra{A:Rg}{h:Heap}{H:Hp}(z:¬ A b):fz A h H b=H b:=by unfold fz;rw[if_neg z]
theorem Ha{A:Rg}{h:Heap}{H:Hp}(e:∀xs,H b≠some (.lst xs)):fz A h H b=H b:=by
 unfold fz;split
 .split
  .rename_i xs _ q _;exact absurd q (e xs)
  .rfl
 .rfl
theorem Ft{A:Rg}{H H':Hp}(z:A b):th A H H' b=H b:=by unfold th;rw[if_pos z]
theorem Dz{A:Rg}{H H':Hp}(z:¬ A b):th A H H' b=H' b:=by unfold th;rw[if_neg z]
section
variable {X:Cx}{pins:List (Addr×Obj)}{σ σ':L2.St}{H H':Hp}{s s':Shared}{A:Rg}
theorem Fc(I:Inv X pins σ H s)(z:A b)(e:H b=some (.lst xs)):∃o,s.heap.get? b=some o/\fz A s.heap H b=some (.frz o (.lst xs)):=by
 obtain⟨_,its,n,_,q⟩:=I.hok b _ e;exact⟨_,q,fz_in z e q⟩
theorem zfe(I:Inv X pins σ H s):Inv X pins σ (fz A s.heap H) s:=by
 have nf:∀{b},H b=none->fz A s.heap H b=none:=λ{b} e=>by
  rw[Ha (λxs q=>by rw[e]at q;cases q)];exact e
 have nl:∀{b} {u},H b=some u->(∀xs,u≠.lst xs)->fz A s.heap H b=some u:=λ{b u} e n=>by
  rw[Ha (λxs q=>by rw[e]at q;exact n xs (yao q))];exact e
 refine { I with base:=⟨I.base.keep,I.base.slot,λb o e n hx=>nf (I.base.free b o e n hx),I.base.there,λb xs e=>nl (I.base.tups b xs e) (λ_ z=>by cases z),λb o u e=>nl (I.base.frzs b o u e) (λ_ z=>by cases z),λb ps e=>?_⟩,free:=nf I.free,freeC:=λx c e=>nf (I.freeC x c e),pin:=λp hp=>?_,hok:=λa o e=>?_ }
 .obtain⟨more,q⟩:=I.base.tbls b ps e;exact⟨more,nl q (λ_ z=>by cases z)⟩
 .obtain⟨h1,h2,h3⟩:=I.pin p hp;exact⟨h1,nf h2,h3⟩
 .have st:=λ{u} q=>(I.hok a u q).stay (H':=fz A s.heap H) (λ_ _ _ e=>e) (λb e=>nl e (λ_ z=>by cases z)) λb xs e=>nl e (λ_ z=>by cases z)
  by_cases z:A a/\∃xs,H a=some (.lst xs)
  .obtain⟨z,xs,q⟩:=z;obtain⟨ob,ho,w⟩:=Fc I z q;rw[w]at e;cases e;exact⟨ho,st q⟩
  .by_cases zA:A a
   .rw[Ha (λxs q=>z ⟨zA,xs,q⟩)]at e
    exact st e
   .rw[Ra zA]at e;exact st e
theorem zfd(I:Inv X pins σ H s)(hA:∀a,A a->(∃xs,H a=some (.lst xs))\/∃xs,H a=some (.tup xs))(J:Inv X pins σ' H' s')(hk:∀b,A b->H' b=fz A s.heap H b):Inv X pins σ' (th A H H') s':=by
 have nf:∀{b},(A b->H b=none)->H' b=none->th A H H' b=none:=λ{b} e1 e2=>by
  by_cases z:A b
  .rw[Ft z];exact e1 z
  .rw[Dz z];exact e2
 have tp:∀{b xs},A b->H b=some (.tup xs)->H' b=some (.tup xs):=λ{b xs} z e=>by
  rw[hk b z,Ha (λys q=>by rw[e]at q;cases q)];exact e
 have nl:∀{b} {u},H' b=some u->(∀o xs,u≠.frz o (.lst xs))->th A H H' b=some u:=λ{b u} e n=>by
  by_cases z:A b
  .rcases hA b z with ⟨xs,q⟩|⟨xs,q⟩
   .obtain⟨o,_,w⟩:=Fc I z q;rw[hk b z,w]at e;exact absurd (yao e).symm (n o xs)
   .rw[Ft z,q,<- tp z q];exact e
  .rw[Dz z];exact e
 refine { J with base:=⟨J.base.keep,J.base.slot,λb o e n hx=>nf (λ_=>I.base.free b o e n hx) (J.base.free b o e n hx),J.base.there,λb xs e=>nl (J.base.tups b xs e) (λ_ _ z=>by cases z),λb o u e=>?_,λb ps e=>?_⟩,free:=nf (λ_=>I.free) J.free,freeC:=λx c e=>nf (λ_=>I.freeC x c e) (J.freeC x c e),pin:=λp hp=>?_,hok:=λa o e=>?_ }
 .by_cases z:A b
  .rw[Ft z];exact I.base.frzs b o u e
  .rw[Dz z];exact J.base.frzs b o u e
 .obtain⟨more,q⟩:=J.base.tbls b ps e;exact⟨more,nl q (λ_ _ z=>by cases z)⟩
 .obtain⟨h1,h2,h3⟩:=J.pin p hp;exact⟨h1,nf (λ_=>(I.pin p hp).2.1) h2,h3⟩
 .have st:=λ{u} (q:Bl X.prog X.w H' s'.heap a u)=>q.stay (H':=th A H H') (λ_ _ _ e=>e) (λb e=>nl e (λ_ _ z=>by cases z)) λb xs e=>nl e (λ_ _ z=>by cases z)
  by_cases z:A a
  .rcases hA a z with ⟨xs,q⟩|⟨xs,q⟩
   .obtain⟨ob,ho,w⟩:=Fc I z q;rw[Ft z,q]at e;cases e;have:=J.hok a _ ((hk a z).trans w);exact st this.2
   .rw[Ft z,q]at e;cases e;exact st (J.hok a _ (tp z q))
  .rw[Dz z]at e;exact st (J.hok a o e)
end
def kYng:Kd->Bool
 |.rl=>false
 |.rt=>false
 |_=>true
def oYng:Ob->Bool
 |.lab _=>false
 |_=>true
mutual
def T.noR:T->Bool
 |.nd _ k l=>kYng k && BY l
 |.dic _ l=>BY l
 |.pdc _ l=>BY l
 |.odc _ l=>BY l
 |.obj k l=>oYng k && BY l
 |.oob _ _ _ l=>BY l
 |.osd _ l=>BY l
 |.non=>true
 |.bl _=>true
 |.int _=>true
 |.str _=>true
def BY:List T->Bool
 |[]=>true
 |t::r=>t.noR && BY r
end
theorem EG:∀{l},BY l=true->∀{i:Nat} {t},l[i]?=some t->t.noR=true
 |[],_,i,t,e=>by simp at e
 |a::r,h,i,t,e=>by
  rw[BY,ya1]at h;cases i with
  |zero=>cases e;exact h.1
  |succ j=>exact EG h.2 (by simpa using e)
theorem zkj{K}(r:Rp K F H t (.ref c) A)(n:t.noR=true)(hf:F c=some (.frz o (.lst ys))):False:=by
 cases r with
 |@shr k0 p xs l hn e kk =>
  rw[T.noR,ya1]at n;cases k0 with
  |lst=>have h:F c=some (.lst xs):=hn;rw[hf]at h;cases h
  |pin q=>have h:F c=some (.lst xs):=hn;rw[hf]at h;cases h
  |tup=>have h:F c=some (.tup xs):=hn;rw[hf]at h;cases h
  |rl=>cases n.1
  |rt=>cases n.1
 |dic hn e ek c=>rw[hf]at hn;cases hn
 |pdc hn e ek c=>rw[hf]at hn;cases hn
 |odc f hn e ek c=>rw[hf]at f;cases f
 |@obj k0 p xs l hn e c =>
  rw[T.noR,ya1]at n;cases k0 with
  |ins C fs=>obtain⟨dx,q⟩:=hn;rw[hf]at q;cases q
  |exn C=>obtain⟨dx,⟨ob,q,_⟩,_⟩:=hn;rw[hf]at q;cases q
  |sdc ks=>have q:=hn.2;rw[hf]at q;cases q
  |lab q=>cases n.1
 |oob R f hn e c d dp o=>rw[hf]at f;cases f
 |osd R f hn e ek c d dp o=>rw[hf]at f;cases f
 |own hk R f hn e c d dp o=>rw[hf]at f;cases f
theorem Rp.noR{K}{H0:Hp}{A:Rg}(r:Rp K F H t x B)(n:t.noR=true)(hf:∀b,A b->(∃o xs,F b=some (.frz o (.lst xs)))\/∃xs,F b=some (.tup xs)/\∃(j:Nat) (c:Addr) (o:Obj) (ys:List V),xs[j]?=some (.ref c)/\F c=some (.frz o (.lst ys)))(hB:∀b,B b->¬ A b):Rp K (Di A F) (th A H0 H) t x B:=by
 have nl:∀{b} {u},F b=some u->(∀o xs,u≠.frz o (.lst xs))->(∀xs,u≠.tup xs)->Di A F b=some u:=λ{b u} e m m2=>by
  unfold Di;rw[if_neg (λz=>?_)]
  .exact e
  .rcases hf b z with ⟨o,xs,q⟩|⟨xs,q,_⟩
   .rw[e]at q;exact m o xs (yao q)
   .rw[e]at q;exact m2 xs (yao q)
 have nn:∀{b},F b=none->Di A F b=none:=λ{b} e=>by unfold Di;split;rfl;exact e
 induction r with
 |non=>exact .non
 |bl b=>exact .bl b
 |int i=>exact .int i
 |str y=>exact .str y
 |@shr k0 p xs l hn e c ih =>
  rw[T.noR,ya1]at n;refine .shr ?_ e λi t x h1 h2=>ih i t x h1 h2 (EG n.2 h1) λb z=>z.elim
  cases k0 with
  |lst=>exact nl hn (λ_ _ z=>by cases z) (λ_ z=>by cases z)
  |pin q=>exact nl hn (λ_ _ z=>by cases z) (λ_ z=>by cases z)
  |tup =>
   have hF:F p=some (.tup xs):=hn;show Di A F p=some (.tup xs);unfold Di;rw[if_neg (λz=>?_)]
   .exact hF
   .rcases hf p z with ⟨o,ys,q⟩|⟨zs,q,j,c',o,ys,h1,h2⟩
    .rw[hF]at q;cases q
    .rw[hF]at q;cases q;have hj:j<l.length:=by rw[e];exact(ya3.mp h1).1
     exact zkj (c j _ _ (ya0 hj) h1) (EG n.2 (ya0 hj)) h2
  |rl=>cases n.1
  |rt=>cases n.1
 |dic hn e ek c ih=>exact .dic (nl hn (λ_ _ z=>by cases z) (λ_ z=>by cases z)) e ek λi t x h1 h2=>ih i t x h1 h2 (EG n h1) λb z=>z.elim
 |pdc hn e ek c ih=>exact .pdc (nl hn (λ_ _ z=>by cases z) (λ_ z=>by cases z)) e ek λi t x h1 h2=>ih i t x h1 h2 (EG n h1) λb z=>z.elim
 |odc f hn e ek c ih=>exact .odc (nn f) ((Dz (hB _ rfl)).trans hn) e ek λi t x h1 h2=>ih i t x h1 h2 (EG n h1) λb z=>z.elim
 |@obj k0 p xs l hn e c ih =>
  rw[T.noR,ya1]at n;refine .obj ?_ e λi t x h1 h2=>ih i t x h1 h2 (EG n.2 h1) λb z=>z.elim
  cases k0 with
  |ins C fs=>exact hn.elim λdx q=>⟨dx,nl q (λ_ _ z=>by cases z) (λ_ z=>by cases z)⟩
  |exn C =>
   obtain⟨dx,⟨ob,q,r⟩,s⟩:=hn;exact⟨dx,⟨ob,nl q (λ_ _ z=>by cases z) (λ_ z=>by cases z),r⟩,λv hv=>let ⟨d,od,u,e,h1,r⟩:=s v hv;⟨d,od,u,e,nl h1 (λ_ _ z=>by cases z) (λ_ z=>by cases z),r⟩⟩
  |sdc ks=>exact⟨hn.1,nl hn.2 (λ_ _ z=>by cases z) (λ_ z=>by cases z)⟩
  |lab q=>exact hn
 |oob R f hn e c d dp o ih=>exact .oob R (nn f) ((Dz (hB _ (.inl rfl))).trans hn) e (λi t x h1 h2=>ih i t x h1 h2 (EG n h1) λb z=>hB b (.inr ⟨i,z⟩)) d dp o
 |osd R f hn e ek c d dp o ih=>exact .osd R (nn f) ((Dz (hB _ (.inl rfl))).trans hn) e ek (λi t x h1 h2=>ih i t x h1 h2 (EG n h1) λb z=>hB b (.inr ⟨i,z⟩)) d dp o
 |own hk R f hn e c d dp o ih =>
  rw[T.noR,ya1]at n;exact .own hk R (nn f) ((Dz (hB _ (.inl rfl))).trans hn) e (λi t x h1 h2=>ih i t x h1 h2 (EG n.2 h1) λb z=>hB b (.inr ⟨i,z⟩)) d dp o
def DW(i:Nat)(m:AD):AD:=λτ=>match τ[i]? with
 |some (some t)=>if t.lnd then (match m (τ.set i (some t.lend)) with
  |some (.v v false)=>if v.noR then some (.v v false) else none
  |_=>none) else none
 |_=>none
theorem zd9(h:DW i m τ=some r):∃t v,τ[i]?=some (some t)/\t.lnd=true/\m (τ.set i (some t.lend))=some (.v v false)/\v.noR=true/\r=.v v false:=by
 unfold DW at h
 grind
theorem RE{X:Cx}{E:L2.St->XK}{ca:Str->Value}{m:AD}{i:Nat}{pins:List (Addr×Obj)}{s:Shared}{σ:L2.St}{H:Hp}{Q:VK}(I:Inv X pins σ H s)(h:tM X.K E ca (DW i m) σ H Q) :
  ∃A:Rg,Inv X pins σ (fz A s.heap H) s/\tM X.K E ca m σ (fz A s.heap H) (λv H'=>(∀b,A b->H' b=fz A s.heap H b)/\Q v (th A H H'))/\∀{σ':L2.St} {H':Hp} {s':Shared},Inv X pins σ' H' s'->(∀b,A b->H' b=fz A s.heap H b)->Inv X pins σ' (th A H H') s':=by
 obtain⟨F,τ,R,S,q⟩:=h;cases hm:DW i m τ with
 |none=>rw[hm]at q;exact q.elim
 |some r =>
  obtain⟨t,v,ht,hl,hv,hn,rfl⟩:=zd9 hm;rw[hm]at q;obtain⟨x,ex,r⟩:=S.rep i t ht;have hi:i<τ.length:=(ya3.mp ht).1;have hA:=r.lnd hl;have hA':∀a,R i a->(∃xs,H a=some (.lst xs))\/∃xs,H a=some (.tup xs):=λa z=>(hA a z).imp_right λ⟨xs,e,_⟩=>⟨xs,e⟩
  have fA:∀a,R i a->F a=none:=λa z=>(r.dom z).1
  have nG:∀{b},¬ R i b->fz (R i) s.heap H b=H b:=λz=>Ra z
  have tG:∀{b xs},H b=some (.tup xs)->fz (R i) s.heap H b=some (.tup xs):=λ{b xs} e=>by rw[Ha (λys z=>by rw[e]at z;cases z)];exact e
  have sF:AL F (frz F (fz (R i) s.heap H) (R i)):=D0 fA
  have fh:AL (frz F (fz (R i) s.heap H) (R i)) (fz (R i) s.heap H):=λb u e=>by
   by_cases z:R i b
   .rw[Cz z]at e;exact e
   .rw[DZ z]at e;rw[nG z];exact S.fh b u e
  have S':StR X.K (frz F (fz (R i) s.heap H) (R i)) (fz (R i) s.heap H) σ (τ.set i (some t.lend)) (λj=>if j=i then R0 else R j):=by
   refine⟨fh,by simpa using S.len,λj t' e=>?_,λj a z=>?_,λj k a hjk z1 z2=>?_⟩
   .by_cases hj:j=i
    .subst hj;rw[yaa hi]at e;cases e;refine⟨x,ex,?_⟩;simp only[ydn];refine r.lend hl sF (λa xs z e1=>?_) λa xs z e1=>?_
     .obtain⟨o,_,w⟩:=Fc (A:=R j) I z e1;exact⟨o,by rw[Cz z];exact w⟩
     .rw[Cz z];exact tG e1
    .rw[ya5 (yah hj)]at e;obtain⟨y,e1,r1⟩:=S.rep j t' e;refine⟨y,e1,?_⟩;simp only[hj,ydw];exact r1.frame sF λa z=>⟨nG λw=>S.dis j i a hj z w,by rw[DZ (λw=>S.dis j i a hj z w)];exact(r1.dom z).1⟩
   .by_cases hj:j=i
    .simp only[hj,ydn]at z;exact z.elim
    .simp only[hj,ydw]at z;obtain⟨t',e⟩:=S.out j a z;exact⟨t',by rw[ya5 (yah hj)];exact e⟩
   .by_cases hj:j=i
    .simp only[hj,ydn]at z1;exact z1.elim
    .by_cases hk:k=i
     .simp only[hk,ydn]at z2;exact z2.elim
     .simp only[hj,ydw]at z1;simp only[hk,ydw]at z2;exact S.dis j k a hjk z1 z2
  have gin:∀b,R i b->∃u,fz (R i) s.heap H b=some u:=λb z=>by
   rcases hA' b z with ⟨xs,e⟩|⟨xs,e⟩
   .obtain⟨o,_,w⟩:=Fc (A:=R i) I z e;exact⟨_,w⟩
   .exact⟨_,tG e⟩
  refine⟨R i,zfe I,⟨_,_,_,S',?_⟩,λJ hk=>zfd I hA' J hk⟩
  rw[hv];intro F' H' y B e g;have g':Rp X.K F' H' v y B:=g
  have nB:∀b,B b->¬ R i b:=λb z w=>by
   obtain⟨u,q1⟩:=gin b w;rw[e.nb b z]at q1;cases q1
  refine⟨λb z=>?_,q (Di (R i) F') (th (R i) H H') y B ⟨λb u w=>?_,λb u w=>?_,λb u w=>?_,λb z=>?_,λb u w=>?_⟩ ?_⟩
  .obtain⟨u,q1⟩:=gin b z;rw[q1];exact e.hh b _ q1
  .by_cases z:R i b
   .rw[Ft z];exact w
   .rw[Dz z];exact e.hh b u (by rw[nG z];exact w)
  .have z:¬ R i b:=λz=>by rw[fA b z]at w;cases w
   unfold Di;rw[if_neg z];exact e.ff b u (sF b u w)
  .unfold Di at w
   by_cases z:R i b
   .rw[if_pos z]at w;cases w
   .rw[if_neg z]at w;rw[Dz z];exact e.fh b u w
  .rw[<- nG (nB b z)];exact e.nb b z
  .unfold Di at w
   by_cases z:R i b
   .rw[if_pos z]at w;cases w
   .rw[if_neg z]at w
    rcases e.nf b u w with w|w
    .rw[DZ z]at w;exact .inl w
    .rw[nG z]at w;exact .inr w
  .refine g'.noR hn (λb z=>?_) nB
   rcases hA b z with ⟨xs,e1⟩|⟨xs,e1,j,c,ys,h1,h2,h3⟩
   .obtain⟨o,_,w⟩:=Fc (A:=R i) I z e1;exact .inl ⟨o,xs,e.ff b _ (by rw[Cz z];exact w)⟩
   .obtain⟨o,_,w⟩:=Fc (A:=R i) I h2 h3;exact .inr ⟨xs,e.ff b _ (by rw[Cz z];exact tG e1),j,c,o,ys,h1,e.ff c _ (by rw[Cz h2];exact w)⟩
theorem zjg{X:Cx}{E:L2.St->XK}{ca:Str->Value}{m:AD}{e:Expr}{i:Nat}(he:PE X e (tM X.K E ca m)):PE X e (tM X.K E ca (DW i m)):=by
 intro pins s σ H Q I h;obtain⟨A,I',h',back⟩:=RE I h;refine yda (he pins s σ _ _ I' h') (λu s' hx=>?_) λ_ _ z=>z
 obtain⟨v',H',J,rv,hk,hq⟩:=hx;exact⟨v',_,back J hk,rv,hq⟩
theorem zj2{X:Cx}{E:L2.St->XK}{ca:Str->Value}{m:AD}{st:Stmt}{i j:Nat}(hs:PS X st (Ea (tM X.K E ca m) (DY j))):PS X st (Ea (tM X.K E ca (DW i m)) (DY j)):=by
 intro pins s σ H D I h;obtain⟨A,I',h',back⟩:=RE I h;refine yda (hs pins s σ _ { nx:=λσ' H'=>(∀b,A b->H' b=fz A s.heap H b)/\D.nx σ' (th A H H'),rt:=λ_ _=>False,bk:=λ_ _=>False,ct:=λ_ _=>False } I' h') (λf s' hx=>?_) λ_ _ z=>z
 cases f with
 |next =>
  obtain⟨σ',H',J,hk,hq⟩:=hx;exact⟨σ',_,back J hk,hq⟩
 |brk=>obtain⟨_,_,_,z⟩:=hx;exact z.elim
 |cont=>obtain⟨_,_,_,z⟩:=hx;exact z.elim
 |ret u=>obtain⟨_,_,_,_,_,z⟩:=hx;exact z.elim
def Kk(c:Int):T->Bool
 |.nd o k r=>match o,k with
  |true,.tup=>(match AV r c with
   |some t=>(match Dj (some t) with
    |some w=>decide (w.length<1000000)
    |none=>false)
   |none=>false)
  |_,_=>false
 |_=>false
theorem zgi(h:Kk c t=true):∃r w,t=.nd true .tup r/\AV r c=some (.nd true .lst w)/\w.length<1000000:=by
 cases t with
 |nd o k r =>
  cases o with
  |false=>cases h
  |true =>
   cases k with
   |tup =>
    have h':(match AV r c with
     |some t=>(match Dj (some t) with
      |some w=>decide (w.length<1000000)
      |none=>false)
     |none=>false)=true:=h
    cases ht:AV r c with
    |none=>rw[ht]at h';cases h'
    |some t =>
     rw[ht]at h';simp only at h';unfold Dj at h';split at h'
     .rename_i l hl;split at hl
      .rename_i e2;cases hl;cases e2;exact⟨r,l,rfl,ht,ydv h'⟩
      .cases hl
     .cases h'
   |_=>cases h
 |_=>cases h
def Gr(c:Int)(i j:Nat)(m:AD):AH:=λτ=>match CJ τ i with
 |some (_,l)=>if (l.all (Kk c))=true/\i≠j/\j<τ.length then (match m ((τ.set i none).set j none) with
  |some (.v _ false)=>some (.nx ((τ.set i none).set j none))
  |_=>none) else none
 |none=>none
theorem zcy(h:Gr c i j m τ=some o):∃kd l t,CJ τ i=some (kd,l)/\l.all (Kk c)=true/\i≠j/\j<τ.length/\m ((τ.set i none).set j none)=some (.v t false)/\o=.nx ((τ.set i none).set j none):=by
 unfold Gr at h;split at h
 .split at h
  .rename_i hc;split at h
   .rename_i t ht;cases h;exact⟨_,_,t,by assumption,hc.1,hc.2.1,hc.2.2,ht,rfl⟩
   .cases h
  .cases h
 .cases h
theorem PZ{i:Int}{k:Nat}{p:Pos}(h:true=true):Fj (.Constant (.int i) k p):=λo i=>rfl
section
variable {X:Cx}{E:L2.St->XK}{ca:Str->Value}{mu:Bool}{i j k2:Nat}{tg it e:Expr}{m:AD}{p1 p2 p3 p4 sp apos cpos pos bpos apos2 cpos2 pos2:Pos}{x y:Str}{c:Int}{Al:List Stmt}{w:AH}
theorem ziy(hp:PassesOwn (model X.prog X.w) X.A X.env X.xe)(hc:X.calm=true)(hNi:X.N[i]?=some y)(hvi:Bs X.env.scope y)(hdi:(y == ("__debug__":Str))=false)(hcdi:(y == ("__classdict__":Str))=false)(hg:PG X tg (DY j))(hN:X.N[j]?=some x)(hv:Bs X.env.scope x)(hd:(x == ("__debug__":Str))=false)(hcd:(x == ("__classdict__":Str))=false)
  (he:PE X e (tM X.K E ca m)) (hs:starEach [e] X.env=[(false,eval e X.env)]) (hline:(apos.endLine == cpos.line)=true) (hline2:(apos2.endLine == cpos2.line)=true) (hr:Aq X Al (tS X.K E ca mu w)) :
  Aq X (.For tg (.Name y p3) [.Expr (.Call (.Attribute (.Subscript (.Name x p1) (.Constant (.int c) k2 p2) sp) "append" apos) [e] [] cpos) bpos] [] pos::.Expr (.Call (.Attribute (.Name y p4) "clear" apos2) [] [] cpos2) pos2::Al) (tS X.K E ca mu (AG (Gr c i j m) w)):=by
 refine Aq.weak (Ks (Ku hp hc (Kv (DD hNi hvi hdi hcdi)) hg (Kr (EU (GF yas ybc ybd HG (GD HW (DD hN hv hd hcd) Iy (PZ rfl)) (CI he Ct hs) rfl (by rw[hs];rfl) hline hs rfl) rfl)) (λ_=>rfl)) (Ks (EU (Ky yas ycg ych LL (DD hNi hvi hdi hcdi) rfl hline2) rfl) hr)) λD σ H h=>?_
 obtain⟨F,τ,R,S,q⟩:=h;unfold AG at q;cases hq:Gr c i j m τ with
 |none=>rw[hq]at q;exact q.elim
 |some o =>
  obtain⟨kd,l,t,ho,hro,hij,hjl,hm,rfl⟩:=zcy hq;rw[hq]at q;simp only at q;have hi:=Gy ho;obtain⟨v,ev,r⟩:=S.rep i _ hi;obtain⟨p,xs,Rr,rfl,hA,fp,hH,ro,dp,_⟩:=r.own_inv (GG ho);have inR:∀a,(a=p\/∃k,Rr k a)->R i a:=λa z=>by rw[hA];exact z
  refine⟨.ref p,ev,p,rfl,⟨xs,AM.of hH⟩,?_⟩;have S0:=Ie (i:=j) (Ie (i:=i) S)
  have t0:∀a,tot (λk=>if k=j then R0 else if k=i then R0 else R k) a->∃k,k≠i/\R k a:=λa ⟨k,z⟩=>by
   by_cases hk:k=j
   .simp only[hk,ydn]at z;exact z.elim
   .by_cases hk2:k=i
    .simp only[hk,ydw,hk2,ydn]at z
     by_cases hij2:i=j
     .exact absurd hij2 hij
     .simp only[hij2,ydw]at z;exact z.elim
    .simp only[hk,hk2,ydw]at z;exact⟨k,hk2,z⟩
  have no0:∀a,R i a->¬ tot (λk=>if k=j then R0 else if k=i then R0 else R k) a:=λa z w=>by
   obtain⟨k,hk,w⟩:=t0 a w;exact S.dis k i a hk w z
  have hlen:((τ.set i none).set j none).length=τ.length:=by simp
  have hjn:∀t,((τ.set i none).set j none)[j]?≠some (some t):=λt z=>by
   rw[yaa (by simpa using hjl)]at z
   cases z
  have rows:∀(k:Nat) (y:V),xs[k]?=some y->∃(a:Addr) (zs:List V) (b:Addr) (ys:List V),y=.ref a/\H a=some (.tup zs)/\AV zs c=some (.ref b)/\H b=some (.lst ys)/\ys.length<1000000/\F a=none/\F b=none/\Rr k a/\Rr k b/\b≠p:=λk y hk=>by
   have hkl:k<l.length:=by rw[ro.len];exact(ya3.mp hk).1
   obtain⟨rr,w,e1,e2,e3⟩:=zgi (yan.mp hro _ (yar hkl));have rk:=ro.rep k _ _ (ya0 hkl) hk;rw[e1]at rk;generalize hRk:Rr k=B at *;cases rk with
   |@own k0 a zs l0 hk0 Rq fa ha el cc d dq o =>
    obtain⟨n,dd,h1,h2,h3⟩:=TK el e2;have rb:=cc n _ _ h1 h2;obtain⟨b,ys,Ry,rfl,hAb,fb,hb,ry,dy,_⟩:=rb.own_inv rfl;have rnb:Rq n b:=by rw[hAb];exact .inl rfl
    exact⟨a,zs,b,ys,rfl,ha,h3,hb,by rw[<- ry.len];exact e3,fa,fb,.inl rfl,.inr ⟨n,rnb⟩,λz=>dp k (by rw[hRk,<- z];exact .inr ⟨n,rnb⟩)⟩
  refine⟨λn mm σ' H'=>mm=xs.length - n/\n<=xs.length/\∃F' R',Stp F H (tot R) F' H' (tot R')/\StR X.K F' H' σ' ((τ.set i none).set j none) R'/\σ'[i]?=some (some (.ref p))/\H' p=some (.lst xs)/\F' p=none/\¬ tot R' p /\
   ∀k y,xs[k]?=some y->∃a zs b ys,y=.ref a/\H' a=some (.tup zs)/\AV zs c=some (.ref b)/\H' b=some (.lst ys)/\(n<=k->ys.length<1000000)/\F' b=none/\¬ tot R' b/\Rr k b/\b≠p,⟨xs.length,by simp,ybf _,F,_,(Stp.refl S.fh).mono λa z=>(t0 a z).elim λk w=>⟨k,w.2⟩,S0,ev,hH,fp,no0 p (inR p (.inl rfl)),λk y hk=>?_⟩,?_⟩
  .obtain⟨a,zs,b,ys,e1,e2,e3,e4,e5,e6,e7,e8,e9,e10⟩:=rows k y hk;exact⟨a,zs,b,ys,e1,e2,e3,e4,λ_=>e5,e7,no0 b (inR b (.inr ⟨k,e9⟩)),e9,e10⟩
  rintro n mm σ' H' ⟨rfl,hle,F',R',st,S',es,hp',fp',np',rw'⟩
  by_cases hlt:n<xs.length
  .refine .inr ⟨⟨xs,xs[n],AM.of hp',ya0 hlt⟩,λσ2 H2=>n+1<=xs.length/\∃F' R',Stp F H (tot R) F' H2 (tot R')/\StR X.K F' H2 σ2 ((τ.set i none).set j none) R'/\σ2[i]?=some (some (.ref p))/\H2 p=some (.lst xs)/\F' p=none/\¬ tot R' p /\
    ∀k y,xs[k]?=some y->∃a zs b ys,y=.ref a/\H2 a=some (.tup zs)/\AV zs c=some (.ref b)/\H2 b=some (.lst ys)/\(n+1<=k->ys.length<1000000)/\F' b=none/\¬ tot R' b/\Rr k b/\b≠p,λσ2 H2 n2=>⟨xs.length - (n+1),by omega,rfl,n2⟩,λy H'' yl=>?_⟩
   obtain⟨rfl,yx⟩:=yl;have hxx:=yx xs (AM.of hp');obtain⟨a,zs,b,ys,rfl,ha,hat,hb,hz,fb,nb,rkb,bp⟩:=rw' n _ hxx;have S1:=K6 (v:=some (.ref a)) S' hjn;have hjs:j<σ'.length:=by rw[S'.len,hlen];exact hjl
   refine⟨.ref a,yaa hjs,.inr (.inl ⟨a,zs,c,.ref b,rfl,rfl,BD.of ha,hat,.inl ⟨rfl,ys,AM.of hb⟩,F',_,R',S1,?_⟩)⟩;rw[hm];intro F1 H1 y1 B e1 g1;have hb1:=e1.hh _ _ hb
   have fr:∀b u,H'' b=some u->F' b=none->F1 b=none:=λb u hb fb=>by
    cases hF:F1 b with
    |none=>rfl
    |some w =>
     rcases e1.nf b w hF with z|z
     .rw[fb]at z;cases z
     .rw[hb]at z;cases z
   have fb1:F1 b=none:=fr b _ hb fb;have S2:=S1.ext e1;have S3:=Ig (a:=b) (o:=.lst (ys++[y1])) S2 fb1 nb;refine⟨b,ys,y1,rfl,rfl,hb1,yab (hz (ya6 _)) (by decide),hlt,F1,R',?_,S3,?_,?_,fr p _ hp' fp',np',λk y hk=>?_⟩
   .have st2:=st.trans e1.stp0;refine⟨st2.ff,λb' u z=>?_,λb' u nb z=>?_,st2.nw,st2.nf⟩
    .rw[AZ (λw=>by rw[w,fb1]at z;cases z)]
     exact st2.fh b' u z
    .rw[AZ (λ(w:b'=b)=>nb (by rw[w];exact⟨i,inR b (.inr ⟨n,rkb⟩)⟩))]
     exact st2.kp b' u nb z
   .rw[ya5 (yah hij)];exact es
   .rw[AZ (yah bp)];exact e1.hh _ _ hp'
   .obtain⟨a',zs',b',ys',rfl,ha',hat',hb',hz',fb',nb',rkb',bp'⟩:=rw' k y hk;have hab:a'≠b:=λz=>by rw[z,hb]at ha';cases ha'
    by_cases hba:b'=b
    .subst hba;have hkn:k=n:=Classical.byContradiction λz=>ro.dis k n _ z rkb' rkb
     exact⟨a',zs',b',ys++[y1],rfl,by rw[AZ hab];exact e1.hh _ _ ha',hat',Be,λz=>by omega,fb1,nb',rkb',bp'⟩
    .exact⟨a',zs',b',ys',rfl,by rw[AZ hab];exact e1.hh _ _ ha',hat',by rw[AZ hba];exact e1.hh _ _ hb',λz=>hz' (by omega),fr b' _ hb' fb',nb',rkb',bp'⟩
  .have hn:n=xs.length:=by omega
   subst hn;refine .inl ⟨⟨xs,AM.of hp',ya6 _⟩,⟨_,es,.inl ⟨rfl,xs,AM.of hp'⟩,p,xs,rfl,rfl,hp',F',_,R',Ig (o:=.lst []) S' fp' np',?_⟩⟩
   have st2:Stp F H (tot R) F' (upd H' p (.lst [])) (tot R'):=by
    refine⟨st.ff,λb' u z=>?_,λb' u nb z=>?_,st.nw,st.nf⟩
    .rw[AZ (λw=>by rw[w,fp']at z;cases z)]
     exact st.fh b' u z
    .rw[AZ (λ(w:b'=p)=>nb (by rw[w];exact⟨i,inR p (.inl rfl)⟩))]
     exact st.kp b' u nb z
   cases hw:w ((τ.set i none).set j none) with
   |none=>rw[hw]at q;exact q.elim
   |some o =>
    rw[hw]at q;cases o with
    |nx _=>exact λF' H' σ' R' s S=>q F' H' σ' R' (st2.trans s) S
    |bk _=>exact λF' H' σ' R' s S=>q F' H' σ' R' (st2.trans s) S
    |ct _=>exact λF' H' σ' R' s S=>q F' H' σ' R' (st2.trans s) S
    |rt _=>exact λF' H' x B s r=>q F' H' x B (st2.trans s) r
    |xc _ _=>exact λF' H' σ' R' s S=>q F' H' σ' R' (st2.trans s) S
end
def T.atP:T->List Nat->Option T
 |t,[]=>some t
 |t,j::π=>(match t with
  |.nd o _ l=>if o then (match l[j]? with
   |some c=>c.atP π
   |none=>none) else none
  |_=>none)
def T.setP(u:T):T->List Nat->T
 |_,[]=>u
 |t,j::π=>(match t with
  |.nd o k l=>(match l[j]? with
   |some c=>.nd o k (l.set j (T.setP u c π))
   |none=>t)
  |_=>t)
def IA(H:Hp):V->List Nat->Addr->Prop
 |x,[],q=>x=.ref q
 |x,j::π,q=>∃p xs y,x=.ref p/\(H p=some (.lst xs)\/H p=some (.tup xs))/\xs[j]?=some y/\p≠q/\IA H y π q
theorem Rp.deepU{K}{F H:Hp}{m:List T}:∀(π:List Nat) {t:T} {x:V} {A:Rg},Rp K F H t x A->t.atP π=some (.nd true .lst m)->∃q ys Rq,A q/\IA H x π q/\H q=some (.lst ys)/\F q=none/\RpO K F H m ys Rq/\(∀j,¬ Rq j q) /\
  ∀m' ys' Rq',RpO K F (L2.upd H q (.lst ys')) m' ys' Rq'->(∀j,¬ Rq' j q)->(∀j a,Rq' j a->∃j',Rq j' a)->∃A',Rp K F (L2.upd H q (.lst ys')) (T.setP (.nd true .lst m') t π) x A'/\∀a,A' a->A a
 |[],t,x,A,r,e=>by
  cases e;cases r with
  |@own k p xs l hk R f h e c d dp o =>
   refine⟨p,xs,R,.inl rfl,rfl,h,f,⟨e,c,d,o⟩,dp,λm' ys' Rq' ro dq sub=>⟨_,LA trivial ro f Be dq rfl,λa z=>?_⟩⟩
   rcases z with z|⟨j,z⟩
   .exact .inl z
   .exact .inr (sub j a z)
 |j::π,t,x,A,r,e=>by
  cases t with
  |nd o k l =>
   have e':(if o then (match l[j]? with|some c=>c.atP π|none=>none) else none)=some (.nd true .lst m):=e
   cases o with
   |false=>cases e'
   |true =>
    rw[if_pos rfl]at e';cases hc:l[j]? with
    |none=>rw[hc]at e';cases e'
    |some c =>
     rw[hc]at e';have hj:=(ya3.mp hc).1;cases r with
     |@own k0 p xs l0 hk R f h el cc d dp o =>
      have hx:j<xs.length:=by omega
      obtain⟨q,ys,Rq,h1,h2,h3,h4,h5,h6,up⟩:=Rp.deepU π (cc j c _ hc (ya0 hx)) e';have pq:p≠q:=λz=>dp j (z▸h1)
      have hk':H p=some (.lst xs)\/H p=some (.tup xs):=by
       cases k with
       |tup=>exact .inr h
       |_=>exact .inl h
      refine⟨q,ys,Rq,.inr ⟨j,h1⟩,⟨p,xs,_,rfl,hk',ya0 hx,pq,h2⟩,h3,h4,h5,h6,λm' ys' Rq' ro dq sub=>?_⟩
      obtain⟨A',r',sA⟩:=up m' ys' Rq' ro dq sub
      have es:T.setP (.nd true .lst m') (.nd true k l) (j::π)=.nd true k (l.set j (T.setP (.nd true .lst m') c π)):=by
       show(match l[j]? with|some c=>T.nd true k (l.set j (T.setP (.nd true .lst m') c π))|none=>.nd true k l)=_
       rw[hc]
      rw[es];refine⟨_,.own hk (λi=>if i=j then A' else R i) f ((AZ pq).trans h) (by rw[ybl];exact el) (λi t x g1 g2=>?_) (λi i' a hne z1 z2=>?_) (λi z=>?_) (λi a z=>?_),λa z=>?_⟩
      .by_cases hi:i=j
       .subst hi;rw[yaa hj]at g1;cases g1;rw[ya0 hx]at g2;cases g2
        simpa using r'
       .rw[ya5 (yah hi)]at g1;have:=(cc i t x g1 g2).upd (p:=q) (o:=.lst ys') (λz=>d i j q hi z h1)
        simpa[hi] using this
      .by_cases hi:i=j
       .simp only[hi,ydn]at z1;have hi':¬ i'=j:=λw=>hne (hi.trans w.symm)
        simp only[hi',ydw]at z2;exact d j i' a (yah hi') (sA a z1) z2
       .simp only[hi,ydw]at z1
        by_cases hi':i'=j
        .simp only[hi',ydn]at z2;exact d i j a hi z1 (sA a z2)
        .simp only[hi',ydw]at z2;exact d i i' a hne z1 z2
      .by_cases hi:i=j
       .simp only[hi,ydn]at z;exact dp j (sA p z)
       .simp only[hi,ydw]at z;exact dp i z
      .rw[ybl]
       by_cases hi:i=j
       .subst hi;exact hj
       .simp only[hi,ydw]at z;exact o i a z
      .rcases z with z|⟨i,z⟩
       .exact .inl z
       .by_cases hi:i=j
        .simp only[hi,ydn]at z;exact .inr ⟨j,sA a z⟩
        .simp only[hi,ydw]at z;exact .inr ⟨i,z⟩
  |_=>cases e
theorem Gw{K}{F H:Hp}{σ:L2.St}{τ:AI}{R:Nat->Rg}{i:Nat}{t:T}{π:List Nat}{m:List T}(S:StR K F H σ τ R)(ht:τ[i]?=some (some t))(hπ:t.atP π=some (.nd true .lst m)):∃x q ys Rq,σ[i]?=some (some x)/\IA H x π q/\H q=some (.lst ys)/\F q=none/\RpO K F H m ys Rq/\(∀j,¬ Rq j q) /\
  ∀m' ys' Rq',RpO K F (upd H q (.lst ys')) m' ys' Rq'->(∀j,¬ Rq' j q)->(∀j a,Rq' j a->∃j',Rq j' a)->∃R',StR K F (upd H q (.lst ys')) σ (τ.set i (some (T.setP (.nd true .lst m') t π))) R'/\Stp F H (tot R) F (upd H q (.lst ys')) (tot R'):=by
 obtain⟨x,ex,r⟩:=S.rep i t ht;obtain⟨q,ys,Rq,h1,h2,h3,h4,h5,h6,up⟩:=r.deepU π hπ;refine⟨x,q,ys,Rq,ex,h2,h3,h4,h5,h6,λm' ys' Rq' ro dq sub=>?_⟩
 obtain⟨A',r',sA⟩:=up m' ys' Rq' ro dq sub;obtain⟨S3,st3⟩:=S.upd (B:=R0) ht ex h1 r' (λa z=>.inl (sA a z)) (λ_ _ _ z=>z.elim)
 have eO:(λa=>tot R a\/R0 a)=tot R:=funext λa=>propext ⟨λz=>z.elim id λz=>z.elim,.inl⟩
 rw[eO]at st3;exact⟨_,S3,st3⟩
theorem TN{K}{F H:Hp}{q:Addr}{m:List T}{ys:List V}{Rq:Nat->Rg}{te:T}{y:V}(ro:RpO K F H m ys Rq)(dq:∀j,¬ Rq j q)(ry:∀H',Rp K F H' te y R0):RpO K F (upd H q (.lst (ys++[y]))) (m++[te]) (ys++[y]) (λj=>if j=m.length then R0 else Rq j)/\(∀j,¬ (if j=m.length then R0 else Rq j) q)/\∀j a,(if j=m.length then R0 else Rq j) a->∃j',Rq j' a:=by
 refine⟨(ro.upd dq).snoc (ry _) λ_ _ _ z=>z,λj z=>?_,λj a z=>?_⟩
 .by_cases hj:j=m.length
  .simp only[hj,ydn]at z;exact z
  .simp only[hj,ydw]at z;exact dq j z
 .by_cases hj:j=m.length
  .simp only[hj,ydn]at z;exact z.elim
  .simp only[hj,ydw]at z;exact⟨j,z⟩
def ET(i:Nat)(mk m:AD):AH:=λτ=>match CJ τ i with
 |some (kd,l)=>(match mk τ with
  |some (.v (.int k) _)=>(match CZ l.length k with
   |some j=>(match Dj l[j]? with
    |some r=>(match m τ with
     |some (.v te false)=>if te.sh=true/\r.length<AW then some (.nx (τ.set i (some (.nd true kd (l.set j (.own (r++[te]))))))) else none
     |_=>none)
    |none=>none)
   |none=>none)
  |_=>none)
 |none=>none
def Ee(i:Nat)(mk:AD):AH:=λτ=>match CJ τ i with
 |some (kd,l)=>(match mk τ with
  |some (.v (.int k) _)=>(match CZ l.length k with
   |some j=>(match Dj l[j]? with
    |some _=>some (.nx (τ.set i (some (.nd true kd (l.set j (.own []))))))
    |none=>none)
   |none=>none)
  |_=>none)
 |none=>none
theorem LB(h:Dj o=some r):o=some (.nd true .lst r):=by
 unfold Dj at h;split at h
 .cases h;rfl
 .cases h
theorem Mt{kd:Kd}(h:l[j]?=some (T.nd true .lst r)):(T.nd true kd l).atP [j]=some (.nd true .lst r):=by
 show(if true then (match l[j]? with|some c=>c.atP []|none=>none) else none)=_
 rw[if_pos rfl,h]
 rfl
theorem Nz{kd:Kd}{u:T}(h:l[j]?=some c):T.setP u (T.nd true kd l) [j]=.nd true kd (l.set j u):=by
 show(match l[j]? with|some c=>T.nd true kd (l.set j (T.setP u c []))|none=>.nd true kd l)=_
 rw[h]
 rfl
theorem zep(h:ET i mk m τ=some o):∃kd l k b j r te,CJ τ i=some (kd,l)/\mk τ=some (.v (.int k) b)/\CZ l.length k=some j/\l[j]?=some (.nd true .lst r)/\m τ=some (.v te false)/\te.sh=true/\r.length<AW/\o=.nx (τ.set i (some (.nd true kd (l.set j (.own (r++[te])))))):=by
 unfold ET at h;split at h
 .split at h
  .split at h
   .split at h
    .split at h
     .split at h
      .rename_i hc;cases h;exact⟨_,_,_,_,_,_,_,by assumption,by assumption,by assumption,LB (by assumption),by assumption,hc.1,hc.2,rfl⟩
      .cases h
     .cases h
    .cases h
   .cases h
  .cases h
 .cases h
theorem zeo(h:Ee i mk τ=some o):∃kd l k b j r,CJ τ i=some (kd,l)/\mk τ=some (.v (.int k) b)/\CZ l.length k=some j/\l[j]?=some (.nd true .lst r)/\o=.nx (τ.set i (some (.nd true kd (l.set j (.own []))))):=by
 unfold Ee at h;split at h
 .split at h
  .split at h
   .split at h
    .cases h;exact⟨_,_,_,_,_,_,by assumption,by assumption,by assumption,LB (by assumption),rfl⟩
    .cases h
   .cases h
  .cases h
 .cases h
section
variable {X:Cx}{E:L2.St->XK}{ca:Str->Value}{mu:Bool}{i:Nat}{x:Str}{k e:Expr}{mk m:AD}{p1 sp apos cpos pos:Pos}
theorem Kq{H:Hp}{v:V}{j:Nat}{q:Addr}(h:IA H v [j] q)(hp:∃p xs,v=.ref p/\H p=some (.lst xs)):∃p xs,v=.ref p/\H p=some (.lst xs)/\xs[j]?=some (.ref q):=by
 obtain⟨p,xs,y,rfl,hl,hy,_,hq⟩:=h;have hq:y=.ref q:=hq;subst hq;obtain⟨p',xs',e,h'⟩:=hp;cases e
 rcases hl with hl|hl
 .exact⟨p,xs,rfl,hl,hy⟩
 .rw[h']at hl;cases hl
theorem s_apP(hN:X.N[i]?=some x)(hv:Bs X.env.scope x)(hd:(x == ("__debug__":Str))=false)(hcd:(x == ("__classdict__":Str))=false)(hk:PE X k (tM X.K E ca mk))(hpl:Fj k)(he:PE X e (tM X.K E ca m))(hs:starEach [e] X.env=[(false,eval e X.env)])(hline:(apos.endLine == cpos.line)=true) :
  PS X (.Expr (.Call (.Attribute (.Subscript (.Name x p1) k sp) "append" apos) [e] [] cpos) pos) (tS X.K E ca mu (ET i mk m)):=by
 refine PS.weak (EU (GF yas ybc ybd HG (GD HW (DD hN hv hd hcd) hk hpl) (CI he Ct hs) rfl (by rw[hs];rfl) hline hs rfl) rfl) λD σ H h=>?_
 obtain⟨F,τ,R,S,q⟩:=h;cases hq:ET i mk m τ with
 |none=>rw[hq]at q;exact q.elim
 |some o =>
  obtain⟨kd,l,kk,b,j,r,te,ho,hmk,hj,hl,hm,hsh,hz,rfl⟩:=zep hq;rw[hq]at q;have ht:=Gy ho;obtain⟨v0,ev0,r0⟩:=S.rep i _ ht;obtain⟨p,xs,Rr,rfl,hA,fp,hp,ro,dp,hOw⟩:=r0.own_inv (GG ho);refine⟨_,ev0,F,τ,R,S,?_⟩;rw[hmk];intro F1 H1 y1 B1 e1 g1;have hy1:y1=.int kk:=R6 g1;subst hy1;have S1:=S.ext e1;obtain⟨v,qq,ys,Rq,ev,pt,hqq,fq,rq,dq,up⟩:=Gw S1 ht (Mt hl);rw[ev0]at ev;cases ev;have hp1:=e1.hh _ _ hp;obtain⟨p',xs',e',hp',hy⟩:=Kq pt ⟨p,xs,rfl,hp1⟩;cases e';rw[hp1]at hp';cases hp'
  have EI:AV xs kk=some (.ref qq):=by
   unfold AV;rw[<- ro.len,hj];exact hy
  refine .inl ⟨p,xs,kk,.ref qq,rfl,rfl,AM.of hp1,EI,.inl ⟨rfl,ys,AM.of hqq⟩,F1,τ,R,S1,?_⟩;rw[hm];intro F2 H2 y2 B2 e2 g2;have g2':Rp X.K F2 H2 te y2 B2:=g2;have S2:=S1.ext e2;obtain⟨v3,q3,ys3,Rq3,ev3,pt3,hqq3,fq3,rq3,dq3,up3⟩:=Gw S2 ht (Mt hl);rw[ev0]at ev3;cases ev3;have hp2:=e2.hh _ _ hp1;obtain⟨p',xs',e',hp',hy3⟩:=Kq pt3 ⟨p,xs,rfl,hp2⟩;cases e';rw[hp2]at hp';cases hp';rw[hy]at hy3;cases hy3;have hqq2:=e2.hh _ _ hqq;rw[hqq2]at hqq3;cases hqq3;obtain⟨a1,a2,a3⟩:=TN rq3 dq3 (te:=te) (y:=y2) λH'=>g2'.move hsh (.refl _)
  obtain⟨R',S3,st3⟩:=up3 _ _ _ a1 a2 a3;rw[Nz hl]at S3;refine⟨qq,ys,y2,rfl,rfl,hqq2,by rw[<- rq.len,<- Dm];exact hz,?_⟩
  exact q F2 _ σ R' ((e1.stp0.trans e2.stp0).trans st3) S3
theorem s_clP(hN:X.N[i]?=some x)(hv:Bs X.env.scope x)(hd:(x == ("__debug__":Str))=false)(hcd:(x == ("__classdict__":Str))=false)(hk:PE X k (tM X.K E ca mk))(hpl:Fj k)(hline:(apos.endLine == cpos.line)=true) :
  PS X (.Expr (.Call (.Attribute (.Subscript (.Name x p1) k sp) "clear" apos) [] [] cpos) pos) (tS X.K E ca mu (Ee i mk)):=by
 refine PS.weak (EU (Ky yas ycg ych LL (GD HW (DD hN hv hd hcd) hk hpl) rfl hline) rfl) λD σ H h=>?_
 obtain⟨F,τ,R,S,q⟩:=h;cases hq:Ee i mk τ with
 |none=>rw[hq]at q;exact q.elim
 |some o =>
  obtain⟨kd,l,kk,b,j,r,ho,hmk,hj,hl,rfl⟩:=zeo hq;rw[hq]at q;have ht:=Gy ho;obtain⟨v0,ev0,r0⟩:=S.rep i _ ht;obtain⟨p,xs,Rr,rfl,hA,fp,hp,ro,dp,hOw⟩:=r0.own_inv (GG ho);refine⟨_,ev0,F,τ,R,S,?_⟩;rw[hmk];intro F1 H1 y1 B1 e1 g1;have hy1:y1=.int kk:=R6 g1;subst hy1;have S1:=S.ext e1;obtain⟨v,qq,ys,Rq,ev,pt,hqq,fq,rq,dq,up⟩:=Gw S1 ht (Mt hl);rw[ev0]at ev;cases ev;have hp1:=e1.hh _ _ hp;obtain⟨p',xs',e',hp',hy⟩:=Kq pt ⟨p,xs,rfl,hp1⟩;cases e';rw[hp1]at hp';cases hp'
  have EI:AV xs kk=some (.ref qq):=by
   unfold AV;rw[<- ro.len,hj];exact hy
  obtain⟨R',S3,st3⟩:=up [] [] (λ_=>R0) RpO.nil (λ_ z=>z) (λ_ _ z=>z.elim)
  rw[Nz hl]at S3;refine .inl ⟨p,xs,kk,.ref qq,rfl,rfl,AM.of hp1,EI,.inl ⟨rfl,ys,AM.of hqq⟩,qq,ys,rfl,rfl,hqq,?_⟩;exact q F1 _ σ R' (e1.stp0.trans st3) S3
end
def DN(m ma:AD):AH:=λτ=>match m τ with
 |some (.v (.nd true .lst l) false)=>(match ma τ with
  |some (.v _ false)=>if l.length<AW then some (.nx τ) else none
  |_=>none)
 |_=>none
def FQ(m:AD):AH:=λτ=>match m τ with
 |some (.v (.nd true .lst _) false)=>some (.nx τ)
 |_=>none
theorem zel(h:DN m ma τ=some o):∃l t,m τ=some (.v (.nd true .lst l) false)/\ma τ=some (.v t false)/\l.length<AW/\o=.nx τ:=by
 unfold DN at h;split at h
 .split at h
  .split at h
   .cases h;exact⟨_,_,by assumption,by assumption,by assumption,rfl⟩
   .cases h
  .cases h
 .cases h
theorem zek(h:FQ m τ=some o):∃l,m τ=some (.v (.nd true .lst l) false)/\o=.nx τ:=by
 unfold FQ at h;split at h
 .cases h;exact⟨_,by assumption,rfl⟩
 .cases h
section
variable {X:Cx}{E:L2.St->XK}{ca:Str->Value}{mu:Bool}{o e:Expr}{m ma:AD}{apos cpos pos:Pos}
theorem s_tmA(hm:PE X o (tM X.K E ca m))(he:PE X e (tM X.K E ca ma))(hbase:attributeBase o "append" X.env (eval o X.env)=eval o X.env)(hs:starEach [e] X.env=[(false,eval e X.env)])(hline:(apos.endLine == cpos.line)=true) :
  PS X (.Expr (.Call (.Attribute o "append" apos) [e] [] cpos) pos) (tS X.K E ca mu (DN m ma)):=by
 refine PS.weak (EU (GF yas ybc ybd HG hm (CI he Ct hs) hbase (by rw[hs];rfl) hline hs rfl) rfl) λD σ H h=>?_
 obtain⟨F,τ,R,S,q⟩:=h;cases hq:DN m ma τ with
 |none=>rw[hq]at q;exact q.elim
 |some oo =>
  obtain⟨l,t,h1,h2,hz,rfl⟩:=zel hq;rw[hq]at q;refine⟨F,τ,R,S,?_⟩;rw[h1];intro F1 H1 y1 B1 e1 g1;have g1':Rp X.K F1 H1 (.nd true .lst l) y1 B1:=g1;obtain⟨p,xs,Rr,rfl,hA,fp,hp,ro,dp,_⟩:=g1'.own_inv rfl;have S1:=S.ext e1;refine⟨.inl ⟨rfl,xs,AM.of hp⟩,F1,τ,R,S1,?_⟩;rw[h2];intro F2 H2 y2 B2 e2 g2;have S2:=S1.ext e2;have pB:B1 p:=by rw[hA];exact .inl rfl
  have np:¬ tot R p:=λ⟨k,z⟩=>S.apart e1 pB k z
  have fp2:F2 p=none:=((g1'.ext e2).dom (by rw[hA];exact .inl rfl)).1
  refine⟨p,xs,y2,rfl,rfl,e2.hh _ _ hp,by rw[<- ro.len,<- Dm];exact hz,?_⟩
  refine q F2 _ σ R ?_ (Ig S2 fp2 np);have st:=e1.stp0.trans (e2.stp0 (O:=tot R));refine⟨st.ff,λb u z=>?_,λb u nb z=>?_,st.nw,st.nf⟩
  .rw[AZ (λw=>by rw[w,fp2]at z;cases z)]
   exact st.fh b u z
  .rw[AZ (λ(w:b=p)=>by rw[w,e1.nb p pB]at z;cases z)]
   exact st.kp b u nb z
theorem s_tmC(hm:PE X o (tM X.K E ca m))(hbase:attributeBase o "clear" X.env (eval o X.env)=eval o X.env)(hline:(apos.endLine == cpos.line)=true) :
  PS X (.Expr (.Call (.Attribute o "clear" apos) [] [] cpos) pos) (tS X.K E ca mu (FQ m)):=by
 refine PS.weak (EU (Ky yas ycg ych LL hm hbase hline) rfl) λD σ H h=>?_
 obtain⟨F,τ,R,S,q⟩:=h;cases hq:FQ m τ with
 |none=>rw[hq]at q;exact q.elim
 |some oo =>
  obtain⟨l,h1,rfl⟩:=zek hq;rw[hq]at q;refine⟨F,τ,R,S,?_⟩;rw[h1];intro F1 H1 y1 B1 e1 g1;have g1':Rp X.K F1 H1 (.nd true .lst l) y1 B1:=g1;obtain⟨p,xs,Rr,rfl,hA,fp,hp,ro,dp,_⟩:=g1'.own_inv rfl;have S1:=S.ext e1;have pB:B1 p:=by rw[hA];exact .inl rfl
  have np:¬ tot R p:=λ⟨k,z⟩=>S.apart e1 pB k z
  refine⟨.inl ⟨rfl,xs,AM.of hp⟩,p,xs,rfl,rfl,hp,?_⟩;refine q F1 _ σ R ?_ (Ig S1 fp np);have st:=e1.stp0 (O:=tot R);refine⟨st.ff,λb u z=>?_,λb u nb z=>?_,st.nw,st.nf⟩
  .rw[AZ (λw=>by rw[w,fp]at z;cases z)]
   exact st.fh b u z
  .rw[AZ (λ(w:b=p)=>by rw[w,e1.nb p pB]at z;cases z)]
   exact st.kp b u nb z
end
def FV(t:T):Option (T×List T):=match t with
 |.nd true .tup [u,.nd true .lst m]=>if u.sh && decide (m.length<1000000) then some (u,m) else none
 |_=>none
theorem zgj(h:FV t=some (u,m)):t=.nd true .tup [u,.nd true .lst m]/\u.sh=true/\m.length<1000000:=by
 unfold FV at h;split at h
 .split at h
  .rename_i hc;cases h;rw[ya1,yds]at hc;exact⟨rfl,hc⟩
  .cases h
 .cases h
def FE(te t:T):T:=match FV t with
 |some (u,m)=>.nd true .tup [u,.nd true .lst (m++[te])]
 |none=>t
def FR(c:Int)(i a b:Nat)(te:T):AH:=λτ=>match CJ τ i with
 |some (kd,l)=>(match CZ l.length c with
  |some j=>(match Dj l[j]? with
   |some rows=>if (rows.all λt=>(FV t).isSome)=true/\(i≠a/\i≠b/\a≠b)/\(a<τ.length/\b<τ.length)/\te.sh=true then some (.nx (((τ.set i (some (.nd true kd (l.set j (.own (rows.map (FE te))))))).set a none).set b none)) else none
   |none=>none)
  |none=>none)
 |none=>none
theorem zem(h:FR c i a b te τ=some o):∃kd l j rows,CJ τ i=some (kd,l)/\CZ l.length c=some j/\l[j]?=some (.nd true .lst rows)/\(rows.all λt=>(FV t).isSome)=true/\(i≠a/\i≠b/\a≠b)/\(a<τ.length/\b<τ.length)/\te.sh=true/\o=.nx (((τ.set i (some (.nd true kd (l.set j (.own (rows.map (FE te))))))).set a none).set b none):=by
 unfold FR at h;split at h
 .split at h
  .split at h
   .split at h
    .rename_i hc;cases h;exact⟨_,_,_,_,by assumption,by assumption,LB (by assumption),hc.1,hc.2.1,hc.2.2.1,hc.2.2.2,rfl⟩
    .cases h
   .cases h
  .cases h
 .cases h
def BE(te:T)(rows:List T)(n:Nat):List T:=(rows.take n).map (FE te)++rows.drop n
theorem zj4{te:T}{rows:List T}{n:Nat}(h:n<rows.length):(BE te rows n)[n]?=some rows[n]:=by
 unfold BE;rw[yaz (by simp;omega),ya2,yb4,Nat.min_eq_left (by omega),yd8,yby,Nat.add_zero,ya0 h]
theorem zgh{te:T}{rows:List T}{n:Nat}(h:n<rows.length){u:T}{m:List T}(e:FV rows[n]=some (u,m)):(BE te rows n).set n (.nd true .tup [u,.nd true .lst (m++[te])])=BE te rows (n+1):=by
 unfold BE;have hl:((rows.take n).map (FE te)).length=n:=by rw[ya2,yb4];omega
 rw[List.set_append_right _ _ (by omega),hl,yd8,yb9 h,List.set_cons_zero,List.take_succ_eq_append_getElem h,ybn,yd5]
 have:FE te rows[n]=.nd true .tup [u,.nd true .lst (m++[te])]:=by unfold FE;rw[e]
 rw[List.map_singleton,this]
 rfl
theorem zhg{K}{F H:Hp}{kd:Kd}{l rows:List T}{p:Addr}{A:Rg}{j n:Nat}{u:T}{m:List T}(r:Rp K F H (.nd true kd l) (.ref p) A)(h1:l[j]?=some (.nd true .lst rows))(h2:rows[n]?=some (.nd true .tup [u,.nd true .lst m])) :
  ∃xs q1 vs w z0 bb,(H p=some (.lst xs)\/H p=some (.tup xs))/\xs[j]?=some (.ref q1)/\H q1=some (.lst vs)/\rows.length=vs.length/\vs[n]?=some (.ref w)/\H w=some (.tup [z0,.ref bb]):=by
 cases r with
 |@own k0 p xs l0 hk R f h e c d dp o =>
  have hj:=(ya3.mp h1).1;have hx:j<xs.length:=by omega
  have rj:=c j _ _ h1 (ya0 hx);generalize hy:xs[j]=y at rj;generalize R j=B at rj;cases rj with
  |@own k1 q1 vs l1 hk1 R1 f1 g1 e1 c1 d1 dp1 o1 =>
   have hn:=(ya3.mp h2).1;have hv:n<vs.length:=by omega
   have rn:=c1 n _ _ h2 (ya0 hv);generalize hz:vs[n]=z at rn;generalize R1 n=B1 at rn;cases rn with
   |@own k2 w zs l2 hk2 R2 f2 g2 e2 c2 d2 dp2 o2 =>
    have hz2:zs.length=2:=by rw[<- e2];rfl
    match zs,hz2,g2,c2 with
    |[z0,z1],_,g2,c2 =>
     have rb:=c2 1 (.nd true .lst m) z1 rfl rfl;obtain⟨bb,rfl⟩:=rb.ref_inv;refine⟨xs,q1,vs,w,z0,bb,?_,by rw[ya0 hx,hy],g1,e1,by rw[ya0 hv,hz],g2⟩
     cases kd with
     |tup=>exact .inr h
     |_=>exact .inl h
theorem PV{H:Hp}{p q1 w bb b':Addr}{xs vs:List V}{z0:V}{j n:Nat}(h:IA H (.ref p) [j,n,1] b')(h1:H p=some (.lst xs))(h2:xs[j]?=some (.ref q1))(h3:H q1=some (.lst vs))(h4:vs[n]?=some (.ref w))(h5:H w=some (.tup [z0,.ref bb])):b'=bb/\p≠bb/\q1≠bb:=by
 obtain⟨p0,xs0,y0,e0,l0,g0,n0,q0,vs0,y1,e1,l1,g1,n1,w0,zs0,y2,e2,l2,g2,n2,hb⟩:=h;cases e0;have hx:xs0=xs:=by rcases l0 with l0|l0<;>rw[h1]at l0<;>cases l0;rfl
 subst hx;rw[h2]at g0;cases g0;cases e1;have hv:vs0=vs:=by rcases l1 with l1|l1<;>rw[h3]at l1<;>cases l1;rfl
 subst hv;rw[h4]at g1;cases g1;cases e2;have hz:zs0=[z0,.ref bb]:=by rcases l2 with l2|l2<;>rw[h5]at l2<;>cases l2;rfl
 subst hz;cases g2;have hb':V.ref bb=.ref b':=hb;cases hb';exact⟨rfl,n0,n1⟩
section
variable {X:Cx}{E:L2.St->XK}{ca:Str->Value}{mu:Bool}{i a b k2 tk:Nat}{x xa xb:Str}{e:Expr}{m:AD}{te:T}{c:Int}{p1 p2 p3 pa pb tp sp apos cpos bpos pos:Pos}
theorem s_rwP(hp:PassesOwn (model X.prog X.w) X.A X.env X.xe)(hc:X.calm=true)(hN:X.N[i]?=some x)(hv:Bs X.env.scope x)(hd:(x == ("__debug__":Str))=false)(hcd:(x == ("__classdict__":Str))=false)(ga:PG X (.Name xa pa) (DY a))(gb:PG X (.Name xb pb) (DY b))(hst:(assignEach [.Name xa pa,.Name xb pb] X.env).findIdx? (·.1)=none)
  (hNb:X.N[b]?=some xb) (hvb:Bs X.env.scope xb) (hdb:(xb == ("__debug__":Str))=false) (hcdb:(xb == ("__classdict__":Str))=false) (he:PE X e (tM X.K E ca m)) (hm:∀τ,m τ=some (.v te false)) (hs:starEach [e] X.env=[(false,eval e X.env)]) (hline:(apos.endLine == cpos.line)=true) :
  PS X (.For (.Tuple [.Name xa pa,.Name xb pb] tk tp) (.Subscript (.Name x p1) (.Constant (.int c) k2 p2) sp) [.Expr (.Call (.Attribute (.Name xb p3) "append" apos) [e] [] cpos) bpos] [] pos) (tS X.K E ca mu (FR c i a b te)):=by
 refine PS.weak (Ku hp hc (Kv (GD HW (DD hN hv hd hcd) Iy (PZ rfl))) (P4 (n:=2) hc (Kw ga (Kw gb P1)) rfl hst) (Kr (EU (GF yas ybc ybd HG (DD hNb hvb hdb hcdb) (CI he Ct hs) rfl (by rw[hs];rfl) hline hs rfl) rfl)) (λ_=>rfl)) λD σ H h=>?_
 obtain⟨F,τ,R,S,q⟩:=h;cases hq:FR c i a b te τ with
 |none=>rw[hq]at q;exact q.elim
 |some o =>
  obtain⟨kd,l,j,rows,ho,hj,hl,hro,⟨hia,hib,hab⟩,⟨hal,hbl⟩,hsh,rfl⟩:=zem hq;rw[hq]at q;have ht:=Gy ho;obtain⟨v0,ev0,r0⟩:=S.rep i _ ht;obtain⟨p,xs,Rr,rfl,hA,fp,hH,ro,dp,_⟩:=r0.own_inv (GG ho);have hjl:=(RP hj).2.1;have hjx:j<xs.length:=by have:=ro.len;omega
  have rj:=ro.rep j _ _ hl (ya0 hjx);obtain⟨q1,vs,R1,eq1,hA1,fq1,hq1,rv,dq1,_⟩:=rj.own_inv rfl;have hxj:xs[j]?=some (.ref q1):=by rw[ya0 hjx,eq1]
  have EI:AV xs c=some (.ref q1):=by
   unfold AV;rw[<- ro.len,hj];exact hxj
  have hil:i<τ.length:=(ya3.mp ht).1
  have nmn:∀(t0:T) k t,k=a\/k=b->(((τ.set i (some t0)).set a none).set b none)[k]?≠some (some t):=λt0 k t hk z=>by
   rcases hk with rfl|rfl
   .rw[ya5 (yah hab),yaa (by simpa using hal)]at z
    cases z
   .rw[yaa (by simpa using hbl)]at z
    cases z
  have Gh:∀t0:T,(((τ.set i (some t0)).set a none).set b none)[i]?=some (some t0):=λt0=>by
   rw[ya5 (yah hib),ya5 (yah hia),yaa hil]
  refine⟨.ref p,ev0,.inl ⟨p,xs,c,.ref q1,rfl,rfl,AM.of hH,EI,q1,rfl,⟨vs,AM.of hq1⟩,?_⟩⟩
  have S0:StR X.K F H σ (((τ.set i (some (.nd true kd (l.set j (.own (BE te rows 0)))))).set a none).set b none) (λk=>if k=b then R0 else if k=a then R0 else R k):=by
   have e0:l.set j (.own (BE te rows 0))=l:=by
    have:(l.set j (.own (BE te rows 0)))= l.set j l[j]:=by
     congr 1
     have:=(ya3.mp hl).2;rw[this]
     rfl
    rw[this,List.set_getElem_self]
   have e1:τ.set i (some (.nd true kd l))=τ:=by
    have:=(ya3.mp ht).2;rw[<- this,List.set_getElem_self]
   rw[e0,e1];exact Ie (Ie S)
  have st0:Stp F H (tot R) F H (tot λk=>if k=b then R0 else if k=a then R0 else R k):=(Stp.refl S.fh).mono λy ⟨k,z⟩=>by
   by_cases h1:k=b
   .simp only[h1,ydn]at z;exact z.elim
   .by_cases h2:k=a
    .simp only[h2,ydn]at z
     by_cases h3:a=b
     .exact absurd h3 hab
     .simp only[h3,ydw]at z;exact z.elim
    .simp only[h1,h2,ydw]at z;exact⟨k,z⟩
  refine⟨λn mm σ' H'=>mm=vs.length - n/\n<=vs.length/\∃F' R',Stp F H (tot R) F' H' (tot R')/\StR X.K F' H' σ' (((τ.set i (some (.nd true kd (l.set j (.own (BE te rows n)))))).set a none).set b none) R'/\σ'[i]?=some (some (.ref p))/\H' p=some (.lst xs)/\H' q1=some (.lst vs),⟨vs.length,by simp,ybf _,F,_,st0,S0,ev0,hH,hq1⟩,?_⟩
  rintro n mm σ' H' ⟨rfl,hle,F',R',st,S',es,hp',hq'⟩
  by_cases hlt:n<vs.length
  .refine .inr ⟨⟨vs,vs[n],AM.of hq',ya0 hlt⟩,λσ2 H2=>n+1<=vs.length/\∃F' R',Stp F H (tot R) F' H2 (tot R')/\StR X.K F' H2 σ2 (((τ.set i (some (.nd true kd (l.set j (.own (BE te rows (n+1))))))).set a none).set b none) R'/\σ2[i]?=some (some (.ref p))/\H2 p=some (.lst xs)/\H2 q1=some (.lst vs),λσ2 H2 n2=>⟨vs.length - (n+1),by omega,rfl,n2⟩,λy H'' yl=>?_⟩
   obtain⟨rfl,yx⟩:=yl;have hxx:=yx vs (AM.of hq');have hnr:n<rows.length:=by rw[rv.len];exact hlt
   have hso:=yan.mp hro _ (yar hnr);obtain⟨⟨u,m0⟩,hrow⟩:=yca.mp hso;obtain⟨er,hu,hm0⟩:=zgj hrow;have hLj:(l.set j (.own (BE te rows n)))[j]?=some (.own (BE te rows n)):=yaa hjl;have hLn:(BE te rows n)[n]?=some (.nd true .tup [u,.nd true .lst m0]):=by rw[zj4 hnr,er]
   obtain⟨v1,ev1,r1⟩:=S'.rep i _ (Gh _);rw[es]at ev1;cases ev1;obtain⟨xs',q1',vs',w,z0,bb,k1,k2,k3,k4,k5,k6⟩:=zhg r1 hLj hLn;have hx':xs'=xs:=by rcases k1 with k1|k1<;>rw[hp']at k1<;>cases k1;rfl
   subst hx';rw[hxj]at k2;cases k2;rw[hq']at k3;cases k3;rw[k5]at hxx;cases hxx
   have hπ:(T.nd true kd (l.set j (.own (BE te rows n)))).atP [j,n,1]=some (.nd true .lst m0):=by
    show(if true then (match (l.set j (.own (BE te rows n)))[j]? with|some c=>c.atP [n,1]|none=>none) else none)=_
    rw[if_pos rfl,hLj];show(if true then (match (BE te rows n)[n]? with|some c=>c.atP [1]|none=>none) else none)=_
    rw[if_pos rfl,hLn]
    rfl
   obtain⟨v2,b2,ys,Rq,ev2,pt,hbb,fb,rq,dq,up⟩:=Gw S' (Gh _) hπ;rw[es]at ev2;cases ev2;obtain⟨rfl,npb,nqb⟩:=PV pt hp' hxj hq' k5 k6;refine⟨w,[z0,.ref b2],rfl,BD.of k6,rfl,z0,[.ref b2],rfl,.ref b2,[],rfl,rfl,?_⟩;have S1:=K6 (v:=some (.ref b2)) (K6 (v:=some z0) S' (λt=>nmn _ a t (.inl rfl))) (λt=>nmn _ b t (.inr rfl))
   have hbs:b<(σ'.set a (some z0)).length:=by rw[ybl,S'.len];simpa using hbl
   refine⟨.ref b2,yaa hbs,.inl ⟨rfl,ys,AM.of hbb⟩,F',_,R',S1,?_⟩;rw[hm];intro F1 H1 y1 B e1 g1;have g1':Rp X.K F1 H1 te y1 B:=g1;have S2:=S1.ext e1;obtain⟨v3,b3,ys3,Rq3,ev3,pt3,hbb3,fb3,rq3,dq3,up3⟩:=Gw S2 (Gh _) hπ
   have es2:((σ'.set a (some z0)).set b (some (.ref b2)))[i]?=some (some (.ref p)):=by
    rw[ya5 (yah hib),ya5 (yah hia)];exact es
   rw[es2]at ev3;cases ev3;obtain⟨rfl,_,_⟩:=PV pt3 (e1.hh _ _ hp') hxj (e1.hh _ _ hq') k5 (e1.hh _ _ k6);have hb1:=e1.hh _ _ hbb;rw[hb1]at hbb3;cases hbb3;obtain⟨a1,a2,a3⟩:=TN rq3 dq3 (te:=te) (y:=y1) λH'=>g1'.move hsh (.refl _)
   obtain⟨R3,S3,st3⟩:=up3 _ _ _ a1 a2 a3
   have eset:T.setP (.nd true .lst (m0++[te])) (T.nd true kd (l.set j (.own (BE te rows n)))) [j,n,1]=.nd true kd (l.set j (.own (BE te rows (n+1)))):=by
    show(match (l.set j (.own (BE te rows n)))[j]? with|some c=>T.nd true kd ((l.set j (.own (BE te rows n))).set j (T.setP (.nd true .lst (m0++[te])) c [n,1]))|none=>_)=_
    rw[hLj];show T.nd true kd ((l.set j (.own (BE te rows n))).set j (match (BE te rows n)[n]? with|some c=>T.nd true .lst ((BE te rows n).set n (T.setP (.nd true .lst (m0++[te])) c [1]))|none=>_))=_
    rw[hLn,List.set_set];show T.nd true kd (l.set j (T.nd true .lst ((BE te rows n).set n (.nd true .tup [u,.nd true .lst (m0++[te])]))))=_;rw[zgh hnr hrow]
   have ecom:((((τ.set i (some (.nd true kd (l.set j (.own (BE te rows n)))))).set a none).set b none).set i (some (.nd true kd (l.set j (.own (BE te rows (n+1)))))))=(((τ.set i (some (.nd true kd (l.set j (.own (BE te rows (n+1))))))).set a none).set b none):=by
    rw[List.set_comm _ _ (yah hib),List.set_comm _ _ (yah hia),List.set_set]
   rw[eset,ecom]at S3;refine⟨_,ys,y1,rfl,rfl,hb1,yab (by rw[<- rq.len];exact hm0) (by decide),hlt,F1,R3,(st.trans e1.stp0).trans st3,S3,es2,(AZ npb).trans (e1.hh _ _ hp'),(AZ nqb).trans (e1.hh _ _ hq')⟩
  .have hn:n=vs.length:=by omega
   subst hn
   have efin:BE te rows vs.length=rows.map (FE te):=by
    unfold BE;rw[<- rv.len,yco,yd6,yc6]
   rw[efin]at S';exact .inl ⟨⟨vs,AM.of hq',ya6 _⟩,q F' H' σ' R' st S'⟩
end
def FU(i j:Nat)(m1 m2:AD):AH:=λτ=>match m1 τ with
 |some (.v t1 false)=>(match m2 τ with
  |some (.v t2 false)=>(match τ[j]? with
   |some (some ty)=>if i≠j/\i<τ.length then some (.nx ((τ.set j none).set i (some (.own [t1,t2,ty])))) else none
   |_=>none)
  |_=>none)
 |_=>none
theorem zen{i j:Nat}{m1 m2:AD}{τ:AI}{o:Out}(h:FU i j m1 m2 τ=some o):∃t1 t2 ty,m1 τ=some (.v t1 false)/\m2 τ=some (.v t2 false)/\τ[j]?=some (some ty)/\i≠j/\i<τ.length/\o=.nx ((τ.set j none).set i (some (.own [t1,t2,ty]))):=by
 unfold FU at h;split at h
 .split at h
  .split at h
   .split at h
    .rename_i hc;cases h;exact⟨_,_,_,by assumption,by assumption,by assumption,hc.1,hc.2,rfl⟩
    .cases h
   .cases h
  .cases h
 .cases h
section
variable {X:Cx}{E:L2.St->XK}{ca:Str->Value}{mu:Bool}{i j:Nat}{x y:Str}{e1 e2:Expr}{m1 m2:AD}{px py lp pos:Pos}
theorem s_mvL(hNd:X.N.Nodup)(hi:X.N[i]?=some x)(hx:E7 X.env.scope x)(hf:X.fn x=true\/X.env.scope.names.lookup x=some .local)(hN:X.N[j]?=some y)(hv:Bs X.env.scope y)(hd:(y == ("__debug__":Str))=false)(hcd:(y == ("__classdict__":Str))=false)
  (h1:PE X e1 (tM X.K E ca m1)) (h2:PE X e2 (tM X.K E ca m2)) (hs1:starEach [e1,e2,.Name y py] X.env=(false,eval e1 X.env)::starEach [e2,.Name y py] X.env) (hs2:starEach [e2,.Name y py] X.env=(false,eval e2 X.env)::starEach [.Name y py] X.env) (hsw:swapsWith (.List [e1,e2,.Name y py] lp) (some (.Name x px)) pos.line X.env=pure false) :
  PS X (.Assign [.Name x px] (.List [e1,e2,.Name y py] lp) pos) (tS X.K E ca mu (FU i j m1 m2)):=by
 refine PS.weak (Kt hNd hi hx (P7 (CI h1 (CI h2 (CI (DD hN hv hd hcd) Ct rfl) hs2) hs1)) hsw hf) λD σ H h=>?_
 obtain⟨F,τ,R,S,q⟩:=h;cases hq:FU i j m1 m2 τ with
 |none=>rw[hq]at q;exact q.elim
 |some o =>
  obtain⟨t1,t2,ty,g1,g2,hj,hij,hil,rfl⟩:=zen hq;rw[hq]at q;refine⟨F,τ,R,S,?_⟩;rw[g1];intro F1 H1 x1 B1 e1 r1;have r1:Rp X.K F1 H1 t1 x1 B1:=r1;have S1:=S.ext e1;refine⟨F1,τ,R,S1,?_⟩;rw[g2];intro F2 H2 x2 B2 e2 r2;have r2:Rp X.K F2 H2 t2 x2 B2:=r2;have S2:=S1.ext e2;obtain⟨v,ev,ry⟩:=S2.rep j ty hj;have dB1:∀k a,R k a->¬ B1 a:=λk a z w=>S.apart e1 w k z
  have dB2:∀k a,R k a->¬ B2 a:=λk a z w=>S1.apart e2 w k z
  have d12:∀a,B2 a->¬ B1 a:=λa z w=>r1.apart e2 z w
  have ro1:RpO X.K F2 H2 [ty] [v] _:=(RpO.nil (K:=X.K) (F:=F2) (H:=H2)).cons ry λ_ _ z=>z.elim
  have ro2:RpO X.K F2 H2 [t2,ty] [x2,v] _:=ro1.cons r2 λk a z w=>by
   cases k with
   |zero=>exact dB2 j a z w
   |succ k=>exact z.elim
  have ro3:RpO X.K F2 H2 [t1,t2,ty] [x1,x2,v] _:=ro2.cons (r1.ext e2) λk a z w=>by
   cases k with
   |zero=>exact d12 a z w
   |succ k =>
    cases k with
    |zero=>exact dB1 j a z w
    |succ k=>exact z.elim
  refine⟨v,ev,by show 3<=sizeLine;decide,λp hp=>?_⟩
  obtain⟨rl,el⟩:=ro3.list S2.fh hp;have S3:=(S2.ext el).drop j
  have inA:∀a,(a=p\/∃k,((λk:Nat=>match k with|0=>B1|k+1=>(match k with|0=>B2|k+1=>(match k with|0=>R j|_+1=>R0))):Nat->Rg) k a)->a=p\/B1 a\/B2 a\/R j a:=λa z=>by
   rcases z with z|⟨k,z⟩
   .exact .inl z
   .match k,z with
    |0,z=>exact .inr (.inl z)
    |1,z=>exact .inr (.inr (.inl z))
    |2,z=>exact .inr (.inr (.inr z))
    |_+3,z=>exact z.elim
  have S4:=S3.set (i:=i) rl (λk a hk z w=>by
   have hkj:¬ k=j:=λw2=>by simp only[w2,ydn]at z;exact z
   simp only[hkj,ydw]at z
   rcases inA a w with w|w|w|w
   .obtain⟨_,u,hu⟩:=S2.dom z;rw[w,hp]at hu;cases hu
   .exact dB1 k a z w
   .exact dB2 k a z w
   .exact S.dis k j a hkj z w) (by simpa using hil)
  refine q F2 _ _ _ (((e1.stp (O:=tot R)).trans (e2.stp)).trans (el.stp) |>.mono ?_) S4
  rintro a ⟨k,z⟩
  by_cases hk:k=i
  .simp only[hk,ydn]at z
   rcases inA a z with w|w|w|w
   .exact .inr w
   .exact .inl (.inl (.inr w))
   .exact .inl (.inr w)
   .exact .inl (.inl (.inl ⟨j,w⟩))
  .simp only[hk,ydw]at z
   by_cases hkj:k=j
   .simp only[hkj,ydn]at z;exact z.elim
   .simp only[hkj,ydw]at z;exact .inl (.inl (.inl ⟨k,z⟩))
end
section
variable {X:Cx}{E:L2.St->XK}{ca:Str->Value}{ms:Ad}{a b:Expr}{pos p p2 pos2:Pos}
theorem zau:BW X (.type "range") (λxs H Q=>∃i j,xs=[.int i,.int j]/\∀r,H r=none->Q (.ref r) (upd H r (.rng i j))):=by
 intro pins s σ H xs us Q I r h;obtain⟨i,j,rfl,q⟩:=h;obtain⟨u,w,rfl,⟨t1,rfl⟩,⟨t2,rfl⟩⟩:=Fp r;refine call_range_2 ?_;exact⟨.ref s.heap.objs.size,upd H s.heap.objs.size (.rng i j),I.laid (λb o e=>ya4 _ e) (ya6 _) ⟨_,_,_,yai _ rfl⟩,rfl,q _ (I.hok.fresh (ya6 _))⟩
theorem NU:∀(n:Nat) (lo:Int) (l:List Value),l.length=n->(∀(j:Nat) (v:Value),l[j]?=some v->∃t,v=.int (lo+j * 1) t)->AK ((List.range n).map λ(i:Nat)=>V.int (lo+i)) l
 |0,lo,l,e,_=>by
  cases l with
  |nil=>exact .nil
  |cons _ _=>cases e
 |n+1,lo,l,e,h=>by
  cases l with
  |nil=>cases e
  |cons v r =>
   obtain⟨t,ht⟩:=h 0 v rfl
   have ih:=NU n (lo+1) r (by simpa using e) λj v hj=>by
    obtain⟨t',ht'⟩:=h (j+1) v (by simpa using hj)
    exact⟨t',by rw[ht'];congr 1;omega⟩
   have eq:((λ(i:Nat)=>V.int (lo+i)) ∘ Nat.succ)=λ(i:Nat)=>V.int (lo+1+i):=funext λi=>by
    show V.int _=V.int _
    congr 1
    omega
   rw[List.range_succ_eq_map,yal,ybs,eq];exact .cons ⟨t,by rw[ht];simp⟩ ih
theorem zb3(hc:X.calm=true):BW X (.type "list") (λxs H Q=>∃r i j,xs=[.ref r]/\H r=some (.rng i j)/\-(2 ^ 62)<=i/\i<2 ^ 62/\-(2 ^ 62)<=j/\j<2 ^ 62/\(j - i).toNat<=AW/\∀l,H l=none->Q (.ref l) (upd H l (.lst ((List.range (j - i).toNat).map λ(k:Nat)=>.int (i+k))))):=by
 intro pins s σ H xs us Q I rv h;obtain⟨r,i,j,rfl,hr,h1,h2,h3,h4,hz,q⟩:=h;obtain⟨u,rfl,ru⟩:=FJ rv;cases ru;obtain⟨t0,u0,v0,e0⟩:=I.hok r _ hr;refine call_list_range (n:=(j - i).toNat) (I.ok.hd hc) e0 (small_one h1 h2 h3 h4) (by rw[rangeSize_one];split<;>omega) (by unfold AW at hz;omega) λh' tk acc c hk hD hI=>?_
 have rl:=NU (j - i).toNat i acc.toList (by exact hI.1) λk v hv=>hI.2 k v (by simpa using hv)
 refine⟨.ref s.heap.objs.size,_,I.laid hk (ya6 _) (show Bl X.prog X.w _ h' _ (.lst _) from⟨?_,acc.toList,c,rl,?_⟩),rfl,q _ (I.hok.fresh (ya6 _))⟩
 .rw[ya2,List.length_range,<- Dm];exact hz
 .exact hD
def HJ(ms:Ad):AD:=λτ=>match ms τ with
 |some (.v [.int i,.int j] _)=>if (Bg i && Bg j)=true/\(j - i).toNat<=AW then some (.v (.own (Bb i (j - i).toNat)) false) else none
 |some (.x c)=>some (.x c)
 |_=>none
theorem r_lr2(hc:X.calm=true)(hg:Gl X "list")(hm:X.mg "list"=none)(hg2:Gl X "range")(hm2:X.mg "range"=none)(ha:PA X [a,b] (BX X.K E ca ms))(hs:starEach [a,b] X.env=(false,eval a X.env)::starEach [b] X.env)(hs2:(backTo pos2 (starEach [b] X.env)).any (·.1)=false) :
  PE X (.Call (.Name "list" p) [.Call (.Name "range" p2) [a,b] [] pos2] [] pos) (tM X.K E ca (HJ ms)):=by
 refine PE.weak (Iz (zb3 hc) hg hm ybg (CI (Iz zau hg2 hm2 boot_range ha (by decide) (by decide) hs hs2) Ct rfl) (by decide) (by decide) rfl rfl) λσ H Q h=>?_
 obtain⟨F,τ,R,S,q⟩:=h;refine⟨F,τ,R,S,?_⟩;unfold HJ at q;cases hq:ms τ with
 |none=>simp only[hq]at q<;>exact q.elim
 |some r =>
  simp only[hq]at q;cases r with
  |x c=>exact q
  |v ts bb =>
   intro F1 H1 xs e1 rs;split at q
   .rename_i i j b' heq;cases heq;obtain⟨x,xs',rfl,r1,rs1⟩:=rs.inv;obtain⟨y,xs'',rfl,r2,rs2⟩:=rs1.inv;cases rs2.inv0;rw[r1.int_inv,r2.int_inv]
    by_cases hj:(Bg i && Bg j)=true/\(j - i).toNat<=AW
    .rw[if_pos hj]at q;have hk:=hj.1;rw[ya1]at hk;have k1:=LD hk.1;have k2:=LD hk.2;refine⟨i,j,rfl,λr hr=>⟨r,i,j,rfl,Be,k1.1,k1.2,k2.1,k2.2,hj.2,λl hl=>?_⟩⟩
     have S1:=S.ext e1;have e2:=Ext.new (o:=.rng i j) S1.fh hr;have g:=q (upd F1 r (.rng i j)) (upd (upd H1 r (.rng i j)) l (.lst ((List.range (j - i).toNat).map λ(k:Nat)=>.int (i+k)))) (.ref l)
     have hro:RpO X.K (upd F1 r (.rng i j)) (upd H1 r (.rng i j)) (Bb i (j - i).toNat) ((List.range (j - i).toNat).map λ(k:Nat)=>V.int (i+k)) (λ_=>R0):=by
      refine⟨by simp[Bb],λk t x h1 h2=>?_,λ_ _ _ _ z=>z.elim,λ_ _ z=>z.elim⟩
      unfold Bb at h1;rw[ya9]at h1 h2;obtain⟨i1,a1,rfl⟩:=yad.mp h1;obtain⟨i2,a2,rfl⟩:=yad.mp h2;rw[a1]at a2;cases a2;exact .int _
     obtain⟨g1,g2⟩:=hro.list e2.fh hl;refine g _ (((e1.trans0 e2).trans0 g2).mono ?_) g1;rintro x (z|⟨_,z⟩)
     .exact z
     .exact z.elim
    .rw[if_neg hj]at q;exact q.elim
   .rename_i heq;cases heq
   .exact q.elim
end
end Pu
namespace Zx
open PySem PySem.Spec PyProof.Rows L2 Zw
section
variable {M:Model}{prog:Program}{w:World}{A:Around}{E:Value->Shared->Prop}{env:Env}{nm q:Str}{C N:Addr}{bs bm:List Value}{hdct:Bool}{sn:List Str}{sub:List Value}{ab:Bool}{col:Option Bool}{dd:Option Addr}{k0 k1 k2 k3 k5:Option Value}{newId:String}
end
section
variable {K:k7}{prog:Program}{w:World}{A:Around}{E:Value->Shared->Prop}{s:Shared}{e C:Addr}{vs:Array Value}{sl:Array (Option Value)}{name:Str}{v:Value}
end
section
variable {K:k7}{prog:Program}{w:World}{A:Around}{E:Value->Shared->Prop}{s:Shared}{a C:Addr}{name:Str}{u:Value}
end
section
variable {X:Cx}{pins:List (Addr×Obj)}{σ:L2.St}{H:Hp}{s:Shared}{A:Around}{E:Value->Shared->Prop}{a C t:Addr}
end
section
variable {X:Cx}{E:L2.St->XK}{C:Addr}{x:Str}{p pos:Pos}{e:Expr}{t:TA}{k j:Nat}
end
section
variable {X:Cx}{pins:List (Addr×Obj)}{σ:L2.St}{H:Hp}{s:Shared}{a C t:Addr}{dx:Option Addr}
end
section
variable {X:Cx}{E:L2.St->XK}{e:Expr}{pos:Pos}{te:TE}
end
end Zx
noncomputable section
namespace Pu
open PySem PySem.Spec PyProof.Rows L2 Zw Zx
structure Fn where
 lv:Nat
 ps:List Str
 g:List T->Option Ru
structure Gx where
 co:List (Str×T)
 cl:List (Str×Addr×List Str)
 mt:List (Str×Addr×List Str×Fn)
 nw:List (Str×Fn×List (Nat×List T))
 nr:Bool
 tx:Bool
 df:Bool
 sf:Option (Addr×List Str)
 xs:List (Str×List (Str×Addr))
 sb:List (Str×List (Addr×Bool))
 sv:List (Str×List (Addr×Bool))
 no:Bool
 fo:List Str
 ci:List (Str×List (Addr×Bool))
 x2:List (Str×Str×List (Str×Addr))
 gt:List Str
 wd:List (Str×Fn)
 pn:List Str
 ti:List Addr
 dn:List (Str×Fn×List T)
 rn:Option (Addr×Nat)
noncomputable abbrev CN:Gx:=⟨[],[],[],[],false,true,true,none,[],[],[],true,[],[],[],[],[],[],[],[],none⟩
structure Gm where
 N:List Str
 nm:List (Str×NameKind)
 ce:List Str
 lv:Nat
 fns:List (Str×Fn)
 bl:List Str
 ex:List Str
 ow:List Str
 pk:List Str
 mu:Bool
 mus:List (Str×Fn)
 mv:List Str
 dc:List Str
 ox:Gx
noncomputable def CT(x:Str):Bool:=!(x == ("__debug__":Str)) && !(x == ("__classdict__":Str)) && !(x == ("__name__":Str))
def KJ(nm:List (Str×NameKind))(x:Str):Bool:=nm.lookup x == some .local || nm.lookup x == some .cell || nm.lookup x == some .free
def Bc(nm:List (Str×NameKind))(x:Str):Bool:=nm.lookup x == some .globalImplicit
noncomputable def Ca(N:List Str)(x:Str):Option Nat:=N.findIdx? (· == x)
def Gm.var(Γ:Gm)(x:Str):Option Nat:=if CT x && KJ Γ.nm x then Ca Γ.N x else none
def Gm.loc(Γ:Gm)(x:Str):Bool:=CT x && (Γ.nm.lookup x == some .local || Γ.ce.contains x)
def CU:Expr->Bool
 |.Starred ..=>false
 |_=>true
def Ek:Expr->Bool
 |.IfExp ..=>false
 |.NamedExpr ..=>false
 |_=>true
noncomputable def nmOf:Expr->Option (Str×Pos)
 |.Name x p=>some (x,p)
 |_=>none
def KU:List Expr->List Str
 |[]=>[]
 |e::es=>(match nmOf e with
  |some (x,_)=>x::KU es
  |none=>KU es)
def C1:Expr->List Str
 |.Name x _=>[x]
 |.Tuple es _ _=>KU es
 |_=>[]
def zl5:Expr->Bool
 |.Tuple ..=>true
 |_=>false
def GN:Expr->Bool
 |.Slice ..=>true
 |_=>false
def Cb(nm:List (Str×NameKind)):List Str:=nm.filterMap λ(y,k)=>if k == .free then some y else none
def M4(nm:List (Str×NameKind)):List Str:=nm.filterMap λ(y,k)=>if k == .cell then some y else none
noncomputable def Gu(inner outer:List (Str×NameKind)):List (Str×NameKind):=inner.map λ(n,k)=>if (k == .free && outer.lookup n == some .cell) then (n,.cell) else (n,k)
def Hj(N:List Str):List Str->Option (List Nat)
 |[]=>some []
 |y::r=>(match Ca N y with
  |some i=>(match Hj N r with
   |some l=>some (i::l)
   |none=>none)
  |none=>none)
def Hl(Γ:Gm)(scope:Scope)(N':List Str):Bool :=
 (scope.kind == .function) && scope.names.all (λx=>!(x.2 == .local) || scope.names.lookup x.1 == some .local) &&
 scope.names.all (λx=>!(x.2 == .free) || (scope.names.lookup x.1 == some .free && (Γ.nm.lookup x.1 == some .cell || Γ.nm.lookup x.1 == some .free) && !(scope.names.contains (x.1,NameKind.cell)))) &&
 decide N'.Nodup && (M4 scope.names).all (λy=>(Gu scope.names Γ.nm).lookup y == some .cell)
def Gm.blk(Γ:Gm)(scope:Scope)(N':List Str):Gm:={ Γ with N:=N',nm:=Gu scope.names Γ.nm,ce:=(M4 scope.names).filter λy=>scope.names.lookup y == some .cell,ow:=[],ox:={ Γ.ox with df:=false,nr:=true } }
def LH:Expr->Bool
 |.Set ..=>false
 |_=>true
def GP:Expr->Bool
 |.ListComp ..=>true
 |.SetComp ..=>true
 |.DictComp ..=>true
 |_=>false
noncomputable def RV:Expr->Bool
 |.Attribute ..=>true
 |_=>false
def gtN(Γ:Gm):Expr->Bool
 |.Name x _=>Γ.ox.gt.contains x
 |_=>false
def Ej:Expr->Bool
 |.Call _ es _ _=>!es.isEmpty
 |_=>true
theorem Mq(h:Ej o=true):attributeBase o f env (eval o env)=eval o env:=by
 cases o with
 |Call g es ks c =>
  cases es with
  |nil=>cases h
  |cons e es=>cases g<;>rfl
 |_=>rfl
theorem zd7(h:Ej o=true)(hf:((backTo pos (starEach es env)).all λx=>!x.1)=true)(hn:es.length<30)(hl:(ap.endLine == pos.line)=true):∃pl ,eval (.Call (.Attribute o f ap) es [] pos) env=(do
   let ov <- eval o env
   standAt ap.atName
   let (f,first) <- holding [ov] (getMethod ov f pl)
   callWith pos f first (backTo pos (starEach es env)) (backToKw pos (keywordEach [] env))):=by
 refine⟨do let b <- importBound o env;pure (b.getD true),?_⟩
 have e:methodCallForm (es.length+([]:List Keyword).length) (backTo pos (starEach es env)) (backToKw pos (keywordEach [] env))=true:=by
  unfold methodCallForm;rw[hf];show(true && true && decide (es.length+0+0<30))=true
  grind
 rw[arm_eval_Call,Mq h];unfold methodCall calleeOf methodCallPos;grind
structure GxOk(G:Gx)(lv:Nat)(P:Program)(w:World)(K:k7)(mg:Str->Option Value)(base:Heap)(ca:Str->Value):Prop where
 co:∀x t,G.co.lookup x=some t->∃u v,mg x=some u/\AN v u/\∀F:Hp,Rp K F F t v R0
 cl:∀c∈G.cl,Cls K c.2.1/\∀f∈c.2.2,Bd K c.2.1 f
 mt:∀c∈G.mt,c.2.2.2.lv<=lv/\Nonempty (MetX P w K mg base c.2.1 c.1 c.2.2.2.lv c.2.2.2.ps (BC K ca c.2.2.2.g))
 nw:∀x F ds,G.nw.lookup x=some (F,ds)->F.lv+1<=lv/\∃(C:Addr) (D:NewX P w K mg base x C F.lv F.ps (Gn K ca C F.g)),∀k dts,ds.lookup k=some dts->∃dvs us,Ba K D.fd F.ps us/\AK dvs us/\∀H:Hp,A2 K H dts dvs
 sf:∀C fs,G.sf=some (C,fs)->Cls K C/\∀f∈fs,Bd K C f
 xs:∀W cs,G.xs.lookup W=some cs->∃T:ECls K mg W,∀c C,cs.lookup c=some C->ca c=.ref C/\PySem.W.subIn K (.ref C) (.ref T.C)=some true
 sb:∀D tb,G.sb.lookup D=some tb->∃A:Addr,mg D=some (.ref A)/\∀C b,tb.lookup C=some b->ExcK K C/\PySem.W.kitOne K (.ref C) (.ref A)=some b
 sv:∀D tb,G.sv.lookup D=some tb->mg D=none/\∃t,bootBuiltins D=some (.type t)/\∀C b,tb.lookup C=some b->ExcK K C/\PySem.W.kitOne K (.ref C) (.type t)=some b
 ci:∀x tb,G.ci.lookup x=some tb->∃D:Addr,mg x=some (.ref D)/\(∀C b,tb.lookup C=some b->ICls K C/\PySem.W.kitOne K (.ref C) (.ref D)=some b)/\(IQ.all λa=>PySem.W.kitOne K (.type a) (.ref D) == some false)=true
 x2:∀W1 W2 cs,(W1,W2,cs)∈G.x2->∃(T1:ECls K mg W1) (T2:ECls K mg W2),∀c C,cs.lookup c=some C->ca c=.ref C/\PySem.W.subIn K (.ref C) (.ref T1.C)=some false/\PySem.W.subIn K (.ref C) (.ref T2.C)=some true
 wd:∀x F,G.wd.lookup x=some F->F.lv<=lv/\∃p,F.ps=[p]/\Nonempty (DefS P w K mg base F.lv x p (BC K ca F.g))
 ti:∀C∈G.ti,TiOk K C
 dn:∀x y,G.dn.lookup x=some y->y.1.lv<=lv/\∃(D:DefX P w K mg base y.1.lv x y.1.ps (BC K ca y.1.g)) (dvs:List V),DefsX K D.fd y.1.ps dvs/\∀H:Hp,A2 K H y.2 dvs
 rn:True
structure CxOk(Γ:Gm)(X:Cx)(E:L2.St->XK)(ca:Str->Value):Prop where
 N:X.N=Γ.N
 nd:Γ.N.Nodup
 nm:X.env.scope.names=Γ.nm
 kd:X.env.scope.kind=.function
 calm:X.calm=true
 room:Room Γ.lv X.A
 ce:∀x∈Γ.ce,X.fn x=true/\Γ.nm.lookup x=some .cell
 bl:∀b∈Γ.bl,X.mg b=none
 ps:Aw X E
 po:Γ.ox.nr=false->PassesOwn (model X.prog X.w) X.A X.env X.xe
 md:Γ.ox.nr=false->NG X E
 mn:True
 fs:∀f F,Γ.fns.lookup f=some F->F.lv<=Γ.lv/\Nonempty (DefX X.prog X.w X.K X.mg X.base F.lv f F.ps (BC X.K ca F.g))
 ex:∀c∈Γ.ex,∃T:ECls X.K X.mg c,ca c=.ref T.C/\DI X.K T.C=some none
 ms:∀f F,Γ.mus.lookup f=some F->F.lv<=Γ.lv/\Nonempty (DefX X.prog X.w X.K X.mg X.base F.lv f F.ps (EO X.K ca F.g))
 gx:GxOk Γ.ox Γ.lv X.prog X.w X.K X.mg X.base ca
 tr:Γ.ox.df=true->X.stack=X.env::X.outer/\X.env.frame=some X.env.locals
 fr:Fk X
theorem HX(h:Ca N x=some i):N[i]?=some x:=by
 obtain⟨h1,h2,_⟩:=yb0.mp h
 grind
theorem Cg(h:CT x=true):(x == "__debug__")=false/\(x == "__classdict__")=false/\x≠"__name__":=by
 unfold CT at h
 grind
theorem NT(h:KJ sc.names x=true):Bs sc x:=by
 unfold KJ at h;simp only[ybx,beq_iff_eq]at h
 rcases h with (h|h)|h
 .exact .inl h
 .exact .inr (.inl h)
 .exact .inr (.inr h)
theorem CH(h:CU e=true):starEach (e::es) env=(false,eval e env)::starEach es env:=by
 cases e<;>first|rfl|cases h
theorem EN:∀{es} {env} {pos},(∀e∈es,CU e=true)->(backTo pos (starEach es env)).any (·.1)=false
 |[],env,pos,_=>rfl
 |e::es,env,pos,h=>by
  rw[CH (h e (yac ..))];have ih:=EN (env:=env) (pos:=pos) λx hx=>h x (ya7 _ hx)
  show(false || (backTo pos (starEach es env)).any (·.1))=false
  grind
section
variable {Γ:Gm}{X:Cx}{E:L2.St->XK}{ca:Str->Value}
theorem CxOk.var(C:CxOk Γ X E ca){pos:Pos}(h:Γ.var x=some i):X.N[i]?=some x/\Bs X.env.scope x/\(x == "__debug__")=false/\(x == "__classdict__")=false:=by
 unfold Gm.var at h;split at h
 .rename_i hp;rw[ya1]at hp;obtain⟨p1,p2,p3⟩:=Cg hp.1;exact⟨by rw[C.N];exact HX h,NT (by rw[C.nm];exact hp.2),p1,p2⟩
 .cases h
theorem CxOk.gl(C:CxOk Γ X E ca)(h:Bc Γ.nm x=true):Gl X x:=by
 show X.env.scope.names.lookup x=some .globalImplicit;rw[C.nm];exact eq_of_beq h
theorem CxOk.loc(C:CxOk Γ X E ca)(h:Γ.loc x=true)(hi:Ca Γ.N x=some i):X.N[i]?=some x/\E7 X.env.scope x/\(X.fn x=true\/X.env.scope.names.lookup x=some .local):=by
 unfold Gm.loc at h;simp only[ya1,ybx,beq_iff_eq]at h;refine⟨by rw[C.N];exact HX hi,?_⟩
 rcases h.2 with h|h
 .exact⟨.inl (by rw[C.nm];exact h),.inr (by rw[C.nm];exact h)⟩
 .obtain⟨c1,c2⟩:=C.ce x (yam.mp h);exact⟨.inr (by rw[C.nm];exact c2),.inl c1⟩
theorem CxOk.nodup(C:CxOk Γ X E ca):X.N.Nodup:=by rw[C.N];exact C.nd
theorem RA(C:CxOk Γ X E ca)(h1:Γ.loc x=true)(h2:Ca Γ.N x=some i):PG X (.Name x pos) (DC X.K (AF i)):=by
 obtain⟨g1,g2,g3⟩:=C.loc h1 h2;exact g_nm C.nodup g1 g2 g3
theorem Sq:∀{ys} {caps},Hj N ys=some caps->ys.length=caps.length/\∀(k j:Nat),caps[k]?=some j->∃y,ys[k]?=some y/\N[j]?=some y
 |[],caps,h=>by cases h;simp
 |y::r,caps,h=>by
  unfold Hj at h;split at h
  .rename_i i hi;split at h
   .rename_i l hl;cases h;obtain⟨h1,h2⟩:=Sq hl;refine⟨by simp[h1],λk j e=>?_⟩
    cases k with
    |zero=>simp at e;subst e;exact⟨y,rfl,HX hi⟩
    |succ k=>grind
   .cases h
  .cases h
theorem zds(h:y∈Cb nm):(y,NameKind.free)∈nm:=by
 unfold Cb at h
 grind
theorem Sx(C:CxOk Γ X E ca)(h:Hl Γ scope (C1 tg++Cb scope.names)=true)(hc:Hj Γ.N (Cb scope.names)=some caps):BlkOk X scope (C1 tg++Cb scope.names) (C1 tg).length caps:=by
 unfold Hl at h;simp only[ya1]at h;obtain⟨⟨⟨⟨h1,h2⟩,h3⟩,h4⟩,h5⟩:=h;obtain⟨l1,l2⟩:=Sq hc
 have free:∀y∈scope.names,y.2=.free->scope.names.lookup y.1=some .free/\(Γ.nm.lookup y.1=some .cell\/Γ.nm.lookup y.1=some .free)/\(y.1,NameKind.cell)∉scope.names:=λy hy hf=>by
  grind
 refine⟨eq_of_beq h1,λy hy hl=>?_,by simp[l1],λk j e=>?_,λy hy hf=>?_⟩
 .grind
 .obtain⟨y,e1,e2⟩:=l2 k j e;have fm:=zds (ybb e1);obtain⟨f1,_,f3⟩:=free _ fm rfl;refine⟨y,by rw[C.N];exact e2,?_,f1,f3⟩
  rw[yaz (by omega)]
  simpa using e1
 .obtain⟨f1,f2,_⟩:=free y hy hf;refine⟨f1,?_⟩;rw[C.nm];exact f2
theorem zes(hk:env.scope.kind=.function):(relabel scope env).names=Gu scope.names env.scope.names:=by
 unfold relabel Gu;have e:(env.scope.kind == ScopeKind.function)=true:=by rw[hk];rfl
 simp only[e,Bool.and_true]
 rfl
theorem mn0:True:=trivial
theorem Sz(C:CxOk Γ X E ca){scope:Scope}{N':List Str}(h:Hl Γ scope N'=true)(cl)(A:Addr)(s₀:Shared)(H₀:Hp)(ex:List Addr)(xb)(hp:Aw (A9 X scope cl N' A s₀ H₀ ex xb) E'):CxOk (Γ.blk scope N') (A9 X scope cl N' A s₀ H₀ ex xb) E' ca:=by
 unfold Hl at h;simp only[ya1]at h;obtain⟨⟨⟨⟨h1,h2⟩,h3⟩,h4⟩,h5⟩:=h;refine⟨rfl,ydv h4,?_,?_,C.calm,C.room,λx hx=>?_,C.bl,hp,λz=>(by cases z),λz=>(by cases z),mn0,C.fs,C.ex,C.ms,⟨C.gx.co,C.gx.cl,C.gx.mt,C.gx.nw,C.gx.sf,C.gx.xs,C.gx.sb,C.gx.sv,C.gx.ci,C.gx.x2,C.gx.wd,C.gx.ti,C.gx.dn,C.gx.rn⟩,λz=>(by cases z),C.fr⟩
 .show(relabel scope X.env).names=Gu scope.names Γ.nm;rw[zes C.kd,C.nm]
 .exact eq_of_beq h1
 .have hx':x∈(M4 scope.names).filter λy=>scope.names.lookup y == some .cell:=hx
  rw[List.mem_filter]at hx';refine⟨ydp (eq_of_beq hx'.2),?_⟩;exact eq_of_beq (yan.mp h5 x hx'.1)
end
theorem MD(h:LH e=true)(x):foldedSetIterable e env x=pure x:=by
 cases e<;>first|rfl|cases h
theorem Iv(h:GN k=false):Fj k:=λo i=>by
 cases k<;>first|rfl|cases h
theorem DE{b:Bool}(h:(!b)=true):b=false:=by cases b<;>first|rfl|cases h
noncomputable def gd{α:Type}:(b:Bool)->(b=true->Option α)->Option α
 |true,k=>k rfl
 |false,_=>none
noncomputable def oe{α β:Type}:(o:Option α)->((a:α)->o=some a->β)->β->β
 |some a,k,_=>k a rfl
 |none,_,d=>d
abbrev ob{α β:Type}(o:Option α)(k:(a:α)->o=some a->Option β):Option β:=oe o k none
structure ER(Γ:Gm)(e:Expr) where
 m:AD
 ok:∀{X:Cx} {E:L2.St->XK} {ca:Str->Value},CxOk Γ X E ca->PE X e (tM X.K E ca m)/\(Ek e=true->PT X e (Ak X.K E ca m))
structure AR(Γ:Gm)(es:List Expr) where
 m:Ad
 ok:∀{X:Cx} {E:L2.St->XK} {ca:Str->Value},CxOk Γ X E ca->PA X es (BX X.K E ca m)
 st:∀e∈es,CU e=true
 nl:es=[]->m=AE
structure OR(Γ:Gm)(es:List Expr) where
 m:Ad
 ok:∀{X:Cx} {E:L2.St->XK} {ca:Str->Value},CxOk Γ X E ca->PA X es (Fv X.K E ca m)
structure BR(Γ:Gm)(op:BoolOp)(es:List Expr) where
 m:AD
 ok:∀{X:Cx} {E:L2.St->XK} {ca:Str->Value} {pos:Pos},CxOk Γ X E ca->PE X (.BoolOp op es pos) (tM X.K E ca m)/\PW X (.BoolOp op es pos) (Ak X.K E ca m)
structure PR(Γ:Gm)(o:Option Expr) where
 m:Option (AD)
 ok:∀{X:Cx} {E:L2.St->XK} {ca:Str->Value},CxOk Γ X E ca->PO X o (E9 X.K m)
structure LR(Γ:Gm)(elt tg iter:Expr)(ifs:List Expr)(scope:Scope) where
 m:AD
 ok:∀{X:Cx} {E:L2.St->XK} {ca:Str->Value},CxOk Γ X E ca->∃caps mi b mt me,m=BL (C1 tg).length caps mi b mt me/\BlkOk X scope (C1 tg++Cb scope.names) (C1 tg).length caps/\PI X tg iter (tI X.K E ca mi) /\
   (∀ cl A s₀ H₀ ex xb E', Aw (A9 X scope cl (C1 tg ++ Cb scope.names) A s₀ H₀ ex xb) E' -> PG (A9 X scope cl (C1 tg ++ Cb scope.names) A s₀ H₀ ex xb) tg (DC X.K b) /\ FH (A9 X scope cl (C1 tg ++ Cb scope.names) A s₀ H₀ ex xb) ifs (Ak X.K E' ca mt) /\
    PE (A9 X scope cl (C1 tg++Cb scope.names) A s₀ H₀ ex xb) elt (tM X.K E' ca me))/\∀x,foldedSetIterable iter X.env x=pure x
structure IR(Γ:Gm)(tg e:Expr) where
 m:Ad
 ok:∀{X:Cx} {E:L2.St->XK} {ca:Str->Value},CxOk Γ X E ca->PI X tg e (tI X.K E ca m)
 ns:LH e=true
structure GR(Γ:Gm)(tg:Expr) where
 m:T->AI->Option AI
 ok:∀{X:Cx} {E:L2.St->XK} {ca:Str->Value},CxOk Γ X E ca->PG X tg (DC X.K m)
structure GsR(Γ:Gm)(es:List Expr) where
 m:List T->AI->Option AI
 ok:∀{X:Cx} {E:L2.St->XK} {ca:Str->Value},CxOk Γ X E ca->Co X es (FO X.K m)/\(assignEach es X.env).length=es.length/\(assignEach es X.env).findIdx? (·.1)=none
structure SR(Γ:Gm)(s:Stmt) where
 m:AH
 ok:∀{X:Cx} {E:L2.St->XK} {ca:Str->Value},CxOk Γ X E ca->PS X s (tS X.K E ca Γ.mu m)
structure QR(Γ:Gm)(ss:List Stmt) where
 m:AH
 ok:∀{X:Cx} {E:L2.St->XK} {ca:Str->Value},CxOk Γ X E ca->Aq X ss (tS X.K E ca Γ.mu m)
structure Dc where
 e:(Γ:Gm)->(e:Expr)->Option (ER Γ e)
 a:(Γ:Gm)->(es:List Expr)->Option (AR Γ es)
 o:(Γ:Gm)->(es:List Expr)->Option (OR Γ es)
 b:(Γ:Gm)->(op:BoolOp)->(es:List Expr)->Option (BR Γ op es)
 s:(Γ:Gm)->(s:Stmt)->Option (SR Γ s)
 q:(Γ:Gm)->(ss:List Stmt)->Option (QR Γ ss)
theorem ER.t(r:ER Γ e)(h:Ek e=true)(C:CxOk Γ X E ca):PT X e (Ak X.K E ca r.m):=(r.ok C).2 h
def KS:Expr->Prop
 |.UnaryOp ..=>False
 |.BoolOp ..=>False
 |.IfExp ..=>False
 |.Compare ..=>False
 |_=>True
theorem zg2(h:KS e)(whole):isTrue e env whole=(do let v <- whole;standAt e.pos;holding [v] (truthy v)):=by
 cases e<;>first|rfl|exact False.elim h
noncomputable def vl{Γ:Gm}{e:Expr}(m:AD)(h:∀{X:Cx} {E:L2.St->XK} {ca:Str->Value},CxOk Γ X E ca->PE X e (tM X.K E ca m))(t:KS e:=by trivial):Option (ER Γ e):=some ⟨m,λC=>⟨h C,λ_=>Oz (h C) (zg2 t)⟩⟩
structure OG(op:Operator) where
 g:T->T->Option T
 ok:∀{X:Cx},AX X (binaryOp op) (BH X.K g)
def opF:(op:Operator)->Option (OG op)
 |.Add=>some ⟨BA,zhd⟩
 |.Sub=>some ⟨Gj,zh8⟩
 |.Mult=>some ⟨C9,zha⟩
 |.Mod=>some ⟨Am,zhb⟩
 |.FloorDiv=>some ⟨CD,zf4⟩
 |.Pow=>some ⟨Ei,zh9⟩
 |_=>none
structure CG(op:CmpOp) where
 g:T->T->Option T
 ok:∀{Γ:Gm} {X:Cx} {E:L2.St->XK} {ca:Str->Value},CxOk Γ X E ca->AX X (compareOp op) (BH X.K g)
def Sl:(op:CmpOp)->Option (CG op)
 |.Eq=>some ⟨B5,λC=>zkf C.room.units⟩
 |.NotEq=>some ⟨B0,λC=>zkc C.room.units⟩
 |.Lt=>some ⟨DA λi j=>decide (i<j),λ_=>JC op_lt⟩
 |.LtE=>some ⟨DA λi j=>decide (i<=j),λ_=>JC Pf⟩
 |.Gt=>some ⟨DA λi j=>decide (j<i),λ_=>JC op_gt⟩
 |.GtE=>some ⟨DA λi j=>decide (j<=i),λ_=>JC op_ge⟩
 |.Is=>some ⟨F7 false,λ_=>zkd⟩
 |.IsNot=>some ⟨F7 true,λ_=>zd4⟩
 |.In=>some ⟨Dp,λC=>zke C.room.units⟩
 |.NotIn=>some ⟨FY,λC=>zd3 C.room.units⟩
def Sn:(op:CmpOp)->Option (CG op)
 |.LtE=>some ⟨EH,λ_=>zhc⟩
 |op=>Sl op
def eCst(Γ:Gm)(c:Const)(k:Nat)(pos:Pos):Option (ER Γ (.Constant c k pos)):=match c with
 |.int i=>vl (mC (.int i)) λ_=>FW Iy λ_ _=>.int i
 |.bool b=>vl (mC (.bl b)) λ_=>FW pe_bl λ_ _=>.bl b
 |.none=>vl (mC .non) λ_=>FW zk1 λ_ _=>.non
 |.str x=>vl (mC (.str x)) λ_=>FW Kx λ_ _=>.str x
 |_=>none
theorem CxOk.v(C:CxOk Γ X E ca)(h:Γ.var x=some i):PE X (.Name x pos) (tM X.K E ca (AA i)) :=
 let ⟨h1,h2,h3,h4⟩:=C.var (pos:=pos) h
 r_var h1 h2 h3 h4
def eNam(Γ:Gm)(x:Str)(pos:Pos):Option (ER Γ (.Name x pos)):=oe (Γ.var x) (λi hi=>vl (AA i) λC=>C.v hi) (gd (CT x && Bc Γ.nm x) λhp=>ob (Γ.ox.co.lookup x) λt ht=>vl (mC t) λC=>by
 rw[ya1]at hp;obtain⟨u,v,k1,k2,k3⟩:=C.gx.co x t ht;exact r_con (C.gl hp.2) k1 k2 (Cg hp.1).1 k3)
def SX{Γ:Gm}{e:Expr}(t:KS e)(a:Option (ER Γ e))(b:Option (ER Γ e)):Option (ER Γ e):=a.bind λa=>match b with
 |some b=>vl (Bp a.m b.m) (λC=>Kp (a.ok C).1 (b.ok C).1) t
 |none=>some a
def MW{Γ:Gm}{o:Expr}{f:Str}{pos:Pos}(r:ER Γ o)(hp:Ej o=true):(L:List (Str×Addr×List Str))->(∀c∈L,c∈Γ.ox.cl)->Option (ER Γ (.Attribute o f pos))
 |[],_=>none
 |c::L,hL=>oe (c.2.2.findIdx? (· == f)) (λj hj=>SX trivial (vl (B3 c.2.1 c.2.2 j r.m) λC=>by
   obtain⟨h1,h2⟩:=C.gx.cl _ (hL _ (yac ..))
   have hf:f∈c.2.2:=by
    obtain⟨q1,q2,_⟩:=yb0.mp hj;rw[<- eq_of_beq q2];exact yar q1
   exact r_fld h1 (h2 f hf) hj (r.ok C).1 (Mq hp)) (MW r hp L λc h=>hL c (ya7 _ h))) (MW r hp L λc h=>hL c (ya7 _ h))
theorem zhl       (r:ER Γ o)(a:AR Γ es)(hpo:Ej o=true)(hln:(ap.endLine == pos.line)=true)(hlen:es.length<30)(hm:(f,g)∈Γ.ox.mt)(hnf:g.2.1.contains f=false){X:Cx}   (C:CxOk Γ X E ca) :
  PE X (.Call (.Attribute o f ap) es [] pos) (tM X.K E ca (Bi g.1 g.2.1 g.2.2.g r.m a.m)):=by
 obtain⟨hlv,⟨D⟩⟩:=C.gx.mt _ hm;have ho:=(r.ok C).1;have ha:=a.ok C;have hst:=a.st;have hnil:=a.nl;generalize a.m=ms at ha hnil
 clear a
 obtain⟨pl,ht⟩:=zd7 (env:=X.env) hpo (by
  have:=EN (env:=X.env) (pos:=pos) hst
  grind) hlen hln
 cases es with
 |cons e es=>exact zjf D hnf C.room C.ps ho ha hlv (CH (hst e (yac ..))) (EN λx hx=>hst x (ya7 e hx)) ht
 |nil =>
  refine PE.weak (pmx0 D C.room C.ps ho hlv ht) λσ H Q h=>?_
  obtain⟨F,τ,R,S,q⟩:=Nd hnf h;refine⟨F,τ,R,S,?_⟩;cases hm:r.m τ with
  |none=>rw[hm]at q;exact q
  |some r =>
   rw[hm]at q;cases r with
   |x c=>exact q
   |v t b =>
    intro F1 H1 x B e1 g1;obtain⟨a,dx,fs',h1,h2,h3,h4⟩:=q F1 H1 x B e1 g1;refine⟨a,dx,fs',h1,h2,h3,?_⟩;rw[hnil rfl]at h4;exact FK h4
def MV{Γ:Gm}{o:Expr}{f:Str}{ap pos:Pos}{es:List Expr}(r:ER Γ o)(a:AR Γ es)(hpo:Ej o=true)(hln:(ap.endLine == pos.line)=true)(hlen:es.length<30):(L:List (Str×Addr×List Str×Fn))->(∀c∈L,c∈Γ.ox.mt)->Option (ER Γ (.Call (.Attribute o f ap) es [] pos))
 |[],_=>none
 |c::L,hL=>if h:c.1=f/\c.2.2.1.contains f=false then SX trivial (vl (Bi c.2.1 c.2.2.1 c.2.2.2.g r.m a.m) λC=>zhl r a hpo hln hlen (g:=c.2) (h.1▸hL c (yac ..)) h.2 C) (MV r a hpo hln hlen L λc h=>hL c (ya7 _ h)) else MV r a hpo hln hlen L λc h=>hL c (ya7 _ h)
def eAtt(D:Dc)(Γ:Gm)(o:Expr)(f:Str)(ap:Pos)(es:List Expr)(ks:List Keyword)(c:Pos):Option (ER Γ (.Call (.Attribute o f ap) es ks c)):=match ks with
 |[]=>gd (Ej o && (ap.endLine == c.line) && decide (es.length<30)) λhc=>(D.e Γ o).bind λr=>(D.a Γ es).bind λa =>
  have hc:(Ej o=true/\(ap.endLine == c.line)=true)/\es.length<30:=by
   rw[ya1,ya1,yds]at hc;exact hc
  if hf:f="index" then (match es,a with
   |[k],a=>(D.e Γ k).bind λmk=>vl (HL r.m mk.m) λC=>by
    subst hf;exact zgn (r.ok C).1 (mk.ok C).1 (Mq hc.1.1) (CH (es:=[]) (a.st k (yac ..))) hc.1.2
   |_,_=>none) else
  MV r a hc.1.1 hc.1.2 hc.2 Γ.ox.mt λ_ h=>h
 |_=>none
def cmpB(op:CmpOp)(b:Expr):Option (CG op) :=
 Sl op
def eCmp(D:Dc)(Γ:Gm)(a:Expr)(ops:List CmpOp)(bs:List Expr)(pos:Pos):Option (ER Γ (.Compare a ops bs pos)):=match ops,bs with
 |[op],[b]=>gd (!(behindInMarks op b)) λhm=>(cmpB op b).bind λg=>(D.e Γ a).bind λra=>(D.e Γ b).bind λrb=>some ⟨BG (g2 g.g) (AB ra.m (AB rb.m AE)),λC =>
  have hm:=DE hm
  ⟨r_cmp (g.ok C) (ra.ok C).1 (rb.ok C).1 hm,λ_=>zjc (g.ok C) (ra.ok C).1 (rb.ok C).1 hm⟩⟩
 |[op,op'],[b,c]=>gd (!(lastMarks [op,op'] [b,c])) λhm=>(Sn op).bind λg=>(Sn op').bind λg'=>(D.e Γ a).bind λra=>(D.e Γ b).bind λrb=>(D.e Γ c).bind λrc=>some ⟨EY g.g g'.g ra.m rb.m rc.m,λC =>
  have hm:=DE hm
  ⟨r_chn (g.ok C) (g'.ok C) (ra.ok C).1 (rb.ok C).1 (rc.ok C).1 hm,λ_=>zjd (g.ok C) (g'.ok C) (ra.ok C).1 (rb.ok C).1 (rc.ok C).1 hm⟩⟩
 |_,_=>none
def eUn(D:Dc)(Γ:Gm)(op:UnaryOp)(a:Expr)(pos:Pos):Option (ER Γ (.UnaryOp op a pos)):=match op with
 |.USub=>(D.e Γ a).bind λr=>some ⟨BG (g1 Em) (AB r.m AE),λC =>
  have hp:=r_un (pos:=pos) zg1 (r.ok C).1
  ⟨hp,λ_=>Oz hp λ_=>rfl⟩⟩
 |.Not=>gd (Ek a) λh=>(D.e Γ a).bind λr=>some ⟨Ay r.m,λC=>⟨r_not (r.ok C).1,λ_=>zjb (r.t h C)⟩⟩
 |_=>none
def dP(D:Dc)(Γ:Gm):(o:Option Expr)->Option (PR Γ o)
 |none=>some ⟨none,λ_=>r_po0⟩
 |some e=>(D.e Γ e).bind λr=>some ⟨some r.m,λC=>PD (r.ok C).1⟩
def eIx(D:Dc)(Γ:Gm)(a k:Expr)(pos:Pos):Option (ER Γ (.Subscript a k pos)):=gd (!(GN k)) λhs=>(D.e Γ a).bind λr=>(D.e Γ k).bind λrk =>
 if RV a || gtN Γ a then vl (HM r.m rk.m) λC=>r_gt (by have:=C.room.units;omega) (r.ok C).1 (rk.ok C).1 (Iv (DE hs)) else
 vl (AU r.m rk.m) λC=>r_ix (r.ok C).1 (rk.ok C).1 (Iv (DE hs))
def eSub(D:Dc)(Γ:Gm)(a k:Expr)(pos:Pos):Option (ER Γ (.Subscript a k pos)):=match k with
 |.Slice lo hi st p=>(match st with
  |none=>(D.e Γ a).bind λr=>(dP D Γ lo).bind λrl=>(dP D Γ hi).bind λrh=>if Γ.ox.tx then vl (Bp (DG r.m rl.m rh.m) (DV r.m rl.m rh.m)) λC=>Kp (PC (r.ok C).1 (rl.ok C) (rh.ok C)) (zev (r.ok C).1 (rl.ok C) (rh.ok C)) else vl (DG r.m rl.m rh.m) λC=>PC (r.ok C).1 (rl.ok C) (rh.ok C)
  |some st=>(match lo,hi with
   |none,none=>(D.e Γ a).bind λr=>(D.e Γ st).bind λrs=>vl (HI r.m rs.m) λC=>r_rv (r.ok C).1 (PD (rs.ok C).1)
   |_,_=>none)
  )
 |k=>eIx D Γ a k pos
theorem FT(h:CU e=true):starEach [e] env=[(false,eval e env)]:=CH h
section
variable {Γ:Gm}{f:Str}{p:Pos}{e:Expr}{es:List Expr}{pos:Pos}{X:Cx}{E:L2.St->XK}{ca:Str->Value}
theorem bF(a:AR Γ (e::es))(hp:CT f=true)(hg:Bc Γ.nm f=true)(hb:Γ.bl.contains f=true)(C:CxOk Γ X E ca){id}(hc:BW X (.builtin id) (DR X.K g))(hv:bootBuiltins f=some (.builtin id)):PE X (.Call (.Name f p) (e::es) [] pos) (tM X.K E ca (BG g a.m)) :=
 zjk hc (C.gl hg) (C.bl f (yam.mp hb)) hv (a.ok C) (Cg hp).2.2 (Cg hp).1 (CH (a.st e (yac ..))) (EN λx hx=>a.st x (ya7 e hx))
theorem bTy(a:AR Γ (e::es))(hp:CT f=true)(hg:Bc Γ.nm f=true)(hb:Γ.bl.contains f=true)(C:CxOk Γ X E ca){id}(hc:BW X (.type id) (DR X.K g))(hv:bootBuiltins f=some (.type id)):PE X (.Call (.Name f p) (e::es) [] pos) (tM X.K E ca (BG g a.m)) :=
 PH hc (C.gl hg) (C.bl f (yam.mp hb)) hv (a.ok C) (Cg hp).2.2 (Cg hp).1 (CH (a.st e (yac ..))) (EN λx hx=>a.st x (ya7 e hx))
def J8(a:AR Γ (e::es))(hp:CT f=true)(hg:Bc Γ.nm f=true)(hb:Γ.bl.contains f=true):Option (ER Γ (.Call (.Name f p) (e::es) [] pos)) :=
 if hf:f="len" then vl (BG (g1 BS) a.m) λC=>by subst hf;exact bF a hp hg hb C ze6 PySem.boot_len else
 if hf:f="list" then vl (BG (g1 CA) a.m) λC=>by subst hf;exact bTy a hp hg hb C Ss ybg else
 if hf:f="abs" then vl (BG (g1 Jh) a.m) λC=>by subst hf;exact bF a hp hg hb C ze9 PyProof.Rows.boot_abs else
 if hf:f="all" then vl (BG (g1 Du) a.m) λC=>by subst hf;exact bF a hp hg hb C (ze8 C.calm) PyProof.Rows.boot_all else
 none
end
structure TyR(c:Str) where
 t:String
 ok:bootBuiltins c=some (.type t)
noncomputable def tyF(c:Str):Option (TyR c) :=
 if h:c="int" then some ⟨"int",by subst h;exact PyProof.Rows.boot_int⟩ else if h:c="bool" then some ⟨"bool",by subst h;exact PyProof.Rows.boot_bool⟩ else if h:c="str" then some ⟨"str",by subst h;exact PyProof.Rows.boot_str⟩ else
 if h:c="list" then some ⟨"list",by subst h;exact ybg⟩ else if h:c="tuple" then some ⟨"tuple",by subst h;exact PyProof.Rows.boot_tuple⟩ else none
def eIs(D:Dc)(Γ:Gm)(p:Pos)(e:Expr)(es:List Expr)(pos:Pos)(hg:Bc Γ.nm "isinstance"=true)(hb:Γ.bl.contains "isinstance"=true):Option (ER Γ (.Call (.Name "isinstance" p) (e::es) [] pos)):=match es with
 |[.Name c p2]=>gd (Bc Γ.nm c && CT c && CU e) λhc=>(D.e Γ e).bind λr =>
  have hc:(Bc Γ.nm c=true/\CT c=true)/\CU e=true:=by
   rw[ya1,ya1]at hc;exact hc
  if hm:Γ.bl.contains c=true then (tyF c).bind λt=>vl (BG (g1 (Bk t.t)) (AB r.m AE)) λC =>
   r_isT t.ok (C.gl hg) (C.bl _ (yam.mp hb)) (C.gl hc.1.1) (C.bl _ (yam.mp hm)) (Cg hc.1.2).2.2 (Cg hc.1.2).1 (r.ok C).1 (CH hc.2)
  else ob (Γ.ox.ci.lookup c) λtb ht=>vl (BG (g1 (F8 tb)) (AB r.m AE)) λC=>by
   obtain⟨_,k1,k2⟩:=C.gx.ci c tb ht;exact r_isC k2 (C.gl hg) (C.bl _ (yam.mp hb)) (C.gl hc.1.1) k1 (Cg hc.1.2).1 (r.ok C).1 (CH hc.2)
 |_=>none
def eSet(D:Dc)(Γ:Gm)(p:Pos)(e:Expr)(pos:Pos)(hg:Bc Γ.nm "len"=true)(hb:Γ.bl.contains "len"=true):Option (ER Γ (.Call (.Name "len" p) [e] [] pos)):=match e with
 |.Call (.Name x p2) [a] [] p3=>if h:x="set" then gd (Bc Γ.nm "set" && Γ.bl.contains "set" && CU a) λhc=>(D.e Γ a).bind λr=>vl (BG (g1 Gf) (AB r.m AE)) λC=>by
   rw[ya1,ya1]at hc;subst h;exact r_unq C.calm (C.gl hg) (C.bl _ (yam.mp hb)) (C.gl hc.1.1) (C.bl _ (yam.mp hc.1.2)) (r.ok C).1 (FT hc.2)
  else none
 |_=>none
def eKys(D:Dc)(Γ:Gm)(p:Pos)(e:Expr)(pos:Pos)(hp:CT "list"=true)(hg:Bc Γ.nm "list"=true)(hb:Γ.bl.contains "list"=true):Option (ER Γ (.Call (.Name "list" p) [e] [] pos)):=if h:RV e=true then (D.e Γ e).bind λr=>vl (Bp (BG (g1 CA) (AB r.m AE)) (Es r.m)) λC=>by
  have hns:CU e=true:=by cases e<;>first|rfl|cases h
  have hst:=λenv=>FT (env:=env) hns
  have b:=yam.mp hb;exact Kp (PH Ss (C.gl hg) (C.bl _ b) ybg (Gv (r.ok C).1 Kn (hst _)) (Cg hp).2.2 (Cg hp).1 (hst _) rfl) (r_kys C.calm (C.gl hg) (C.bl _ b) (r.ok C).1 (hst _))
 else none
def eLr2(D:Dc)(Γ:Gm)(p:Pos)(e:Expr)(pos:Pos)(hg:Bc Γ.nm "list"=true)(hb:Γ.bl.contains "list"=true):Option (ER Γ (.Call (.Name "list" p) [e] [] pos)):=match e with
 |.Call (.Name f p2) [a,b] [] pos2=>if hf:f="range" then gd (Bc Γ.nm "range" && Γ.bl.contains "range") λh=>(D.a Γ [a,b]).bind λr=>vl (HJ r.m) λC=>by
   subst hf;rw[ya1]at h;exact r_lr2 C.calm (C.gl hg) (C.bl _ (yam.mp hb)) (C.gl h.1) (C.bl _ (yam.mp h.2)) (r.ok C) (CH (r.st a (yac ..))) (EN λx hx=>r.st x (ya7 a hx)) else none
 |_=>none
def eFn1(Γ:Gm)(f:Str)(p:Pos)(e:Expr)(es:List Expr)(pos:Pos)(a:AR Γ (e::es))(hp:CT f=true)(hg:Bc Γ.nm f=true):Option (ER Γ (.Call (.Name f p) (e::es) [] pos)) :=
 ob (Γ.fns.lookup f) λF hF=>vl (A7 F.g a.m) λC=>by
  obtain⟨hl,⟨D⟩⟩:=C.fs f F hF;exact zjj D C.room C.ps (a.ok C) hl (C.gl hg) (Cg hp).1 (CH (a.st e (yac ..))) (EN λx hx=>a.st x (ya7 e hx))
def eFn(Γ:Gm)(f:Str)(p:Pos)(e:Expr)(es:List Expr)(pos:Pos)(a:AR Γ (e::es))(hp:CT f=true)(hg:Bc Γ.nm f=true):Option (ER Γ (.Call (.Name f p) (e::es) [] pos)) :=
 oe (Γ.ox.nw.lookup f) (λF hF=>ob (F.2.lookup (e::es).length) λdts hd=>vl (F6 F.1.g dts a.m) λC=>by
   obtain⟨hl,CC,D,hD⟩:=C.gx.nw f F.1 F.2 hF;obtain⟨dvs,us,k1,k2,k3⟩:=hD _ _ hd;exact r_new D k1 k2 k3 C.room C.ps (a.ok C) hl (C.gl hg) (Cg hp).1 (CH (a.st e (yac ..))) (EN λx hx=>a.st x (ya7 e hx))) <|
 eFn1 Γ f p e es pos a hp hg
def eCal(D:Dc)(Γ:Gm)(f:Str)(p:Pos)(es:List Expr)(ks:List Keyword)(pos:Pos):Option (ER Γ (.Call (.Name f p) es ks pos)):=match es,ks with
 |e::es,[]=>gd (CT f && Bc Γ.nm f) λhc =>
  have hc:CT f=true/\Bc Γ.nm f=true:=by
   rw[ya1]at hc;exact hc
  if hb:Γ.bl.contains f=true then
   (if hf : f = "isinstance" then (match f, hf, hc, hb with
    |_,rfl,hc,hb=>eIs D Γ p e es pos hc.2 hb) else
   match es with
   |[] =>
    (if hf : f = "len" then (match f, hf, hc, hb with
     |_,rfl,hc,hb=>(eSet D Γ p e pos hc.2 hb).orElse λ_=>(D.a Γ [e]).bind λa=>J8 a hc.1 hc.2 hb) else
    if hf:f="list" then (match f,hf,hc,hb with
     |_,rfl,hc,hb =>
      (eLr2 D Γ p e pos hc.2 hb).orElse λ_ =>
      (eKys D Γ p e pos hc.1 hc.2 hb).orElse λ_=>(D.a Γ [e]).bind λa=>J8 a hc.1 hc.2 hb) else
    (D.a Γ [e]).bind λa=>J8 a hc.1 hc.2 hb)
   |_=>(D.a Γ _).bind λa=>J8 a hc.1 hc.2 hb)
  else (D.a Γ (e::es)).bind λa=>eFn Γ f p e es pos a hc.1 hc.2
 |_,_=>none
def Sj(Γ:Gm):(es:List Expr)->Option (GsR Γ es)
 |[]=>some ⟨DM,λ_=>⟨g_nil,rfl,rfl⟩⟩
 |e::es=>(match e with
  |.Name x p=>gd (Γ.loc x) λhl=>ob (Ca Γ.N x) λi hi=>(Sj Γ es).bind λr=>some ⟨B8 (AF i) r.m,λ{X} {E} {ca} C=>by
   obtain⟨q1,q2,q3⟩:=r.ok C;refine⟨zla (RA C hl hi) q1 rfl,?_,?_⟩
   .show(assignEach es X.env).length+1=es.length+1;rw[q2]
   .show List.findIdx? (·.1) ((false,assign (.Name x p) X.env)::assignEach es X.env)=none
    rw[yd0,q3]
    rfl⟩
  |_=>none)
def dG(Γ:Gm):(tg:Expr)->Option (GR Γ tg)
 |.Name x _=>gd (Γ.loc x) λhl=>ob (Ca Γ.N x) λi hi=>some ⟨AF i,λC=>RA C hl hi⟩
 |.Tuple es _ _=>(Sj Γ es).bind λr=>some ⟨DB es.length r.m,λC=>g_tup C.calm (r.ok C).1 (r.ok C).2.1 (r.ok C).2.2⟩
 |_=>none
def iV(D:Dc)(Γ:Gm)(tg e:Expr):Option (IR Γ tg e):=gd (LH e) λh=>(D.e Γ e).bind λr=>if Γ.ox.tx then some ⟨BP r.m,λC=>zjh (r.ok C).1,h⟩ else some ⟨GS r.m,λC=>PF (r.ok C).1,h⟩
theorem J4(C:CxOk Γ X E ca)(h:(Bc Γ.nm f && Γ.bl.contains f)=true):Gl X f/\X.mg f=none:=by
 rw[ya1]at h;exact⟨C.gl h.1,C.bl f (yam.mp h.2)⟩
def iRg(D:Dc)(Γ:Gm)(tg a:Expr)(p c:Pos):Option (IR Γ tg (.Call (.Name "range" p) [a] [] c)):=gd (Bc Γ.nm "range" && Γ.bl.contains "range") λh=>(D.a Γ [a]).bind λr=>some ⟨CB r.m,λC=>zew (J4 C h).1 (J4 C h).2 (r.ok C) (CH (r.st a (yac ..))),rfl⟩
def iZp(D:Dc)(Γ:Gm)(tg a b:Expr)(p c:Pos):Option (IR Γ tg (.Call (.Name "zip" p) [a,b] [] c)):=match tg with
 |.Tuple ..=>gd (Bc Γ.nm "zip" && Γ.bl.contains "zip") λh=>(D.a Γ [a,b]).bind λr=>some ⟨Fb r.m,λC =>
   have s2:=λenv=>FT (env:=env) (r.st b (ya7 _ (yac ..)))
   r_zip (J4 C h).1 (J4 C h).2 (r.ok C) (by rw[CH (r.st a (yac ..)),s2]) (s2 _),rfl⟩
 |_=>none
def dI(D:Dc)(Γ:Gm)(tg e:Expr):Option (IR Γ tg e):=match e with
 |.Call (.Name f p) es ks c=>(match es,ks with
  |[a],[]=>if h:f="range" then (match f,h with|_,rfl=>iRg D Γ tg a p c) else
   iV D Γ tg _
  |[a,b],[] =>
   if h:f="zip" then (match f,h with|_,rfl=>iZp D Γ tg a b p c) else
   iV D Γ tg _
  |_,_=>iV D Γ tg _)
 |e=>iV D Γ tg e
def dC(D:Dc)(Γ:Gm)(elt tg iter:Expr)(ifs:List Expr)(scope:Scope):Option (LR Γ elt tg iter ifs scope) :=
 gd (Hl Γ scope (C1 tg++Cb scope.names)) λhb=>ob (Hj Γ.N (Cb scope.names)) λcaps hc=>(dI D Γ tg iter).bind λri=>(dG (Γ.blk scope (C1 tg++Cb scope.names)) tg).bind λrg=>(D.e (Γ.blk scope (C1 tg++Cb scope.names)) elt).bind λre=>match ifs with
  |[]=>some ⟨BL (C1 tg).length caps ri.m rg.m (mC (.bl true)) re.m,λ{X} {E} {ca} C=>⟨caps,ri.m,rg.m,_,re.m,rfl,Sx C hb hc,ri.ok C,λcl A s₀ H₀ ex xb E' hp =>
    have C':=Sz C hb cl A s₀ H₀ ex xb (E':=E') hp
    ⟨rg.ok C',λpins s σ H Q I q=>zgs pins s σ H Q I (K1 (K:=X.K) (E:=E') (ca:=ca) q),(re.ok C').1⟩,MD ri.ns⟩⟩
  |[c]=>gd (Ek c) λhk=>(D.e (Γ.blk scope (C1 tg++Cb scope.names)) c).bind λrt=>some ⟨BL (C1 tg).length caps ri.m rg.m rt.m re.m,λ{X} {E} {ca} C=>⟨caps,ri.m,rg.m,rt.m,re.m,rfl,Sx C hb hc,ri.ok C,λcl A s₀ H₀ ex xb E' hp =>
    have C':=Sz C hb cl A s₀ H₀ ex xb (E':=E') hp
    ⟨rg.ok C',zgr (rt.t hk C'),(re.ok C').1⟩,MD ri.ns⟩⟩
  |_=>none
def eLC(D:Dc)(Γ:Gm)(elt:Expr)(gens:List Comprehension)(scope:Scope)(pos:Pos):Option (ER Γ (.ListComp elt gens scope pos)):=match gens with
 |[⟨tg,iter,ifs,0⟩]=>(dC D Γ elt tg iter ifs scope).bind λr=>vl r.m λC=>by
  obtain⟨caps,mi,b,mt,me,h,B,hi,hg,hs⟩:=r.ok C;rw[h];exact r_lcV B (cq:=λX=>X.calm=true) (λ_ _ _ _ _ _ _ _ _=>C.calm) (P0 hi) C.ps C.fr (λcl A s H ex xb E' hp=>(hg cl A s H ex xb E' hp).1) (λcl A s H ex xb E' hp=>(hg cl A s H ex xb E' hp).2.1) (λcl A s H ex xb E' hp=>(hg cl A s H ex xb E' hp).2.2) hs
 |_=>none
def eIf(D:Dc)(Γ:Gm)(c a b:Expr)(pos:Pos):Option (ER Γ (.IfExp c a b pos)):=gd (Ek c) λh=>(D.e Γ c).bind λrc=>(D.e Γ a).bind λra=>(D.e Γ b).bind λrb=>some ⟨Dl rc.m ra.m rb.m,λC=>⟨r_ife (rc.t h C) (ra.ok C).1 (rb.ok C).1,λz=>by cases z⟩⟩
def zl6:Expr->Bool
 |.Call ..=>true
 |.List ..=>true
 |.BinOp ..=>true
 |.ListComp ..=>true
 |_=>false
def dEs(D:Dc)(Γ:Gm):(e:Expr)->Option (ER Γ e)
 |.Constant c k pos=>eCst Γ c k pos
 |.Name x pos=>eNam Γ x pos
 |.Attribute o f pos=>gd (Ej o) λh=>(D.e Γ o).bind λr=>MW r h Γ.ox.cl λ_ h=>h
 |.Call f es ks c=>(match f with
  |.Attribute o f ap=>eAtt D Γ o f ap es ks c
  |.Name f p=>eCal D Γ f p es ks c
  |_=>none)
 |.Compare a ops bs pos=>eCmp D Γ a ops bs pos
 |.BinOp a op b pos=>(opF op).bind λg=>(D.e Γ a).bind λra=>(D.e Γ b).bind λrb=>vl (BG (g2 g.g) (AB ra.m (AB rb.m AE))) λC=>r_bin g.ok (ra.ok C).1 (rb.ok C).1
 |.UnaryOp op a pos=>eUn D Γ op a pos
 |.BoolOp op vs pos=>(D.b Γ op vs).bind λr=>some ⟨r.m,λC=>⟨(r.ok C).1,λ_=>(r.ok C).2.pt⟩⟩
 |.IfExp c a b pos=>eIf D Γ c a b pos
 |.List es pos=>(D.o Γ es).bind λr=>vl (Cv r.m) λC=>r_lst (r.ok C)
 |.Tuple es k pos=>if Γ.ox.fo.contains "()" && es.any zl6 then (D.o Γ es).bind λr=>vl (HH r.m) λC=>zja (r.ok C) else (D.a Γ es).bind λr=>vl (Dk r.m) λC=>PB (r.ok C)
 |.Subscript a k pos=>eSub D Γ a k pos
 |.ListComp elt gens scope pos=>eLC D Γ elt gens scope pos
 |_=>none
def dAs(D:Dc)(Γ:Gm):(es:List Expr)->Option (AR Γ es)
 |[]=>some ⟨AE,λ_=>Kn,λ_ h=>(by cases h),λ_=>rfl⟩
 |e::es=>gd (CU e) λh=>(D.e Γ e).bind λr=>(D.a Γ es).bind λa=>some ⟨AB r.m a.m,λC=>Gv (r.ok C).1 (a.ok C) (CH h),λx hx=>(yak.mp hx).elim (λz=>z▸h) (a.st x),λz=>by cases z⟩
def dOs(D:Dc)(Γ:Gm):(es:List Expr)->Option (OR Γ es)
 |[]=>some ⟨AE,λ_=>zje⟩
 |e::es=>gd (CU e) λh=>(D.e Γ e).bind λr=>(D.o Γ es).bind λa=>some ⟨Bj r.m a.m,λC=>zgo (r.ok C).1 (a.ok C) (CH h)⟩
def dBs(D:Dc)(Γ:Gm)(op:BoolOp):(es:List Expr)->Option (BR Γ op es)
 |[]=>none
 |[a]=>gd (Ek a) λh=>(D.e Γ a).bind λr=>some ⟨r.m,λC=>⟨r_one (r.ok C).1,by
   cases op with
   |And=>exact zgm (r.t h C)
   |Or=>exact zgl (r.t h C)⟩⟩
 |a::b::es=>gd (Ek a) λh=>(D.e Γ a).bind λr=>(D.b Γ op (b::es)).bind λrb=>match op,rb with
  |.And,rb=>some ⟨Ci r.m rb.m,λC=>⟨r_and (r.ok C).1 (rb.ok C).1,zj9 (r.t h C) (rb.ok C).2⟩⟩
  |.Or,rb=>some ⟨BK r.m rb.m,λC=>⟨r_or (r.ok C).1 (rb.ok C).1,r_wor (r.t h C) (rb.ok C).2⟩⟩
noncomputable def pkB:List Str:=["len","isinstance","all","any","abs","min","max","int"]
def isLC:Expr->Bool
 |.ListComp ..=>true
 |_=>false
def BB:Nat->List Str->Expr->List Str
 |0,_,_=>[]
 |n+1,pk,e =>
  let peek:=λ(x:Expr)=>match x with
   |.Name _ _=>[]
   |x=>BB n pk x
  match e with
  |.Name x _=>[x]
  |.BinOp a _ b _=>BB n pk a++BB n pk b
  |.UnaryOp _ a _=>BB n pk a
  |.BoolOp _ vs _=>vs.flatMap (BB n pk)
  |.Compare a _ bs _=>peek a++bs.flatMap peek
  |.IfExp c a b _=>BB n pk c++BB n pk a++BB n pk b
  |.Call (.Name f _) args [] _=>if pkB.contains f || pk.contains f then args.flatMap peek else args.flatMap (BB n pk)
  |.Call (.Attribute _ _ _) args [] _=>args.flatMap λa=>if isLC a then BB n pk a else []
  |.Subscript a k _=>(match k with
   |.Slice lo hi _ _=>BB n pk a++(match lo with|some e=>BB n pk e|none=>[])++(match hi with|some e=>BB n pk e|none=>[])
   |_=>peek a++BB n pk k)
  |.List es _=>es.flatMap (BB n pk)
  |.Tuple es _ _=>es.flatMap (BB n pk)
  |.ListComp _ [⟨_,iter,_,_⟩] scope _=>BB n pk iter++Cb scope.names
  |_=>[]
def NY(pk:List Str):Stmt->List Str
 |.Expr (.Call (.Attribute (.Name _ _) _ _) [e] [] _) _=>BB 40 pk e
 |.Expr e _=>BB 40 pk e
 |.Return (some (.Name _ _)) _=>[]
 |.Return (some e) _=>BB 40 pk e
 |.Assign [.Subscript (.Subscript _ k _) j _] e _=>BB 40 pk k++BB 40 pk j++BB 40 pk e
 |.Assign [.Subscript _ k _] e _=>BB 40 pk k++BB 40 pk e
 |.Assign [_] e _=>BB 40 pk e
 |.If c _ _ _=>BB 40 pk c
 |.For _ it _ _ _=>BB 40 pk it
 |.While c _ _ _=>BB 40 pk c
 |_=>[]
def isIf:Stmt->Bool
 |.If ..=>true
 |_=>false
def isAsg:Stmt->Bool
 |.Assign [.Name ..] ..=>true
 |_=>false
def mvN:Stmt->Option Str
 |.Assign [.Name ..] (.List [_,_,.Name y _] _) _=>some y
 |_=>none
def frzs(Γ:Gm)(s:Stmt):List Nat:=((if isIf s then Γ.ox.gt++NY Γ.pk s else NY Γ.pk s).filter λx=>Γ.ow.contains x && !(isAsg s && (Γ.mv.contains x || (Γ.ox.fo.contains x && mvN s == some x)))).eraseDups.filterMap (Ca Γ.N)
def subN:Expr->List Str
 |.Call _ es _ _=>es.filterMap fun
  |.Subscript (.Name x _) _ _=>some x
  |_=>none
 |_=>[]
def JP(Γ:Gm)(e:Expr):List Nat:=((BB 40 Γ.pk e++subN e).filter λx=>Γ.ow.contains x && Γ.mv.contains x).eraseDups.filterMap (Ca Γ.N)
def HR(l:List Nat)(m:AD):AD:=l.foldr DW m
theorem Ko{X:Cx}{E:L2.St->XK}{ca:Str->Value}{m:AD}{e:Expr}(he:PE X e (tM X.K E ca m)):∀l,PE X e (tM X.K E ca (HR l m))
 |[]=>he
 |i::r=>zjg (Ko he r)
theorem OD{X:Cx}{E:L2.St->XK}{ca:Str->Value}{m:AD}{st:Stmt}{j:Nat}(hs:PS X st (Ea (tM X.K E ca m) (DY j))):∀l,PS X st (Ea (tM X.K E ca (HR l m)) (DY j))
 |[]=>hs
 |i::r=>zj2 (OD hs r)
def MC(l:List Nat)(m:AH):AH:=l.foldr (λi m=>AG (GA i) m) m
def IW(Γ:Gm)(x:Str)(px:Pos):Expr->Bool
 |.ListComp _ _ scope p=>Γ.nm.lookup x == some .local && px.line == p.line && !(scope.names.any λ(n,k)=>n == x && (k == .local || k == .cell))
 |_=>false
def Nq(Γ:Gm)(x:Str):Bool:=Γ.nm.lookup x == some .cell
def GB(Γ:Gm)(x:Str)(i:Nat)(m:AD):AH:=if Γ.ow.contains x then DO i m else Ae m (AF i)
def C6(c:Str)(ms:Ad):AH:=λτ=>match ms τ with
 |some (.v ts _)=>if ts.length<=AW then some (.xc c τ) else none
 |some (.x c)=>some (.xc c τ)
 |none=>none
section
variable {X:Cx}{E:L2.St->XK}{ca:Str->Value}{Γ:Gm}{mu:Bool}
theorem Kb{Al}(h:Aq X Al (tS X.K E ca mu w)):∀l ,Aq X Al (tS X.K E ca mu (MC l w))
 |[]=>h
 |i::r=>s_frz (Kb h r)
theorem IY(h:GP e=false):swapsWith e t l env=pure false:=by
 cases e<;>first|rfl|cases h
theorem zbt{env:Env}(h:env.scope.kind=.function):env.blockKind=.function:=by
 unfold Env.blockKind;rw[h]
 rfl
theorem zeg(C:CxOk Γ X E ca){p px:Pos}{x:Str}{l:Nat}(h:IW Γ x px (.ListComp elt gens scope p)=true):swapsWith (.ListComp elt gens scope p) (some (.Name x px)) l X.env=pure true:=by
 have e:swapsWith (.ListComp elt gens scope p) (some (.Name x px)) l X.env=pure (X.env.blockKind == .function && X.env.kindOf x == some .local && px.line == p.line && !(scope.names.any λ(n,k)=>n == x && (k == .local || k == .cell))):=rfl
 rw[e];unfold IW at h
 simp only[ya1]at h;have k:X.env.kindOf x=some .local:=by
  show X.env.scope.names.lookup x=some .local;rw[C.nm]
  grind
 rw[zbt C.kd,k,h.1.2,h.2]
 rfl
theorem zg6(C:CxOk Γ X E ca){px}(h:Nq Γ x=true):swapsWith e (some (.Name x px)) l X.env=pure false:=by
 have k:X.env.kindOf x=some .cell:=by
  show X.env.scope.names.lookup x=some .cell;rw[C.nm];exact eq_of_beq h
 have c:(some NameKind.cell == some NameKind.local)=false:=rfl;cases e<;>first|rfl|(unfold swapsWith;grind)
theorem Nu(h:GP e=false):swapsWithSole [t] e l env=pure false:=IY h
theorem zg7(h:GN k=false)(v):assign (.Subscript o k pos) env v=(do
   let ov <- holding [v] (eval o env);let iv <- holding [v,ov] (eval k env)
   standAt pos
   holding [v,ov,iv] (setItem ov iv v)
   release [v,ov,iv] []):=by
 cases k<;>first|rfl|cases h
theorem s_rse(C:CxOk Γ X E ca)(hnr:Γ.ox.nr=false)(hpn:EV c=none)(hc:c∈Γ.ex)(hg:Bc Γ.nm c=true)(hp:CT c=true)(ha:PA X (e::es) (BX X.K E ca ms))(hs:∀x∈e::es,CU x=true) :
  PS X (.Raise (some (.Call (.Name c p) (e::es) [] cpos)) none pos) (tS X.K E ca mu (C6 c ms)):=by
 obtain⟨T,hT,hni⟩:=C.ex c hc;obtain⟨p1,p2,p3⟩:=Cg hp;refine PS.weak (zez T hni C.calm (C.md hnr) ha (C.gl hg) p1 (CH (hs e (yac ..))) (EN hs)) λD σ H h=>?_
 obtain⟨F,τ,R,S,q⟩:=h;refine⟨F,τ,R,S,?_⟩;unfold C6 at q;cases hm:ms τ with
 |none=>simp only[hm]at q<;>exact q.elim
 |some r =>
  simp only[hm]at q;cases r with
  |x c=>exact λF' H' e=>q F' H' σ R e.stp0 (S.ext e)
  |v ts b =>
   intro F' H' xs e1 rs
   by_cases hz:ts.length<=AW
   .simp only[hz,ydn]at q;refine⟨by rw[<- rs.1,<- Dm];exact hz,?_⟩
    have:=(q F' H' σ R e1.stp0 (S.ext e1)).plain hpn;rw[hT]at this;exact this
   .simp only[hz,ydw]at q<;>exact q.elim
end
theorem TM{px pos}(hl:Γ.loc x=true)(hi:Ca Γ.N x=some i)(C:CxOk Γ X E ca)(he:PE X e (tM X.K E ca m))(sw:∀l,swapsWith e (some (.Name x px)) l X.env=pure false) :
  PS X (.Assign [.Name x px] e pos) (tS X.K E ca mu (GB Γ x i m)):=by
 obtain⟨g1,g2,g3⟩:=C.loc hl hi;unfold GB;split
 .exact zj1 C.nodup g1 g2 he (sw _) g3
 .exact ziw C.nodup g1 g2 he (sw _) g3
def aLC(D:Dc)(Γ:Gm)(x:Str)(i:Nat)(px pos:Pos)(hi:Ca Γ.N x=some i):(e:Expr)->Option (SR Γ (.Assign [.Name x px] e pos))
 |.ListComp elt gens scope p=>gd (IW Γ x px (.ListComp elt gens scope p)) λhw=>(match gens,hw with
  |[⟨tg,iter,ifs,0⟩],hw=>(dC D Γ elt tg iter ifs scope).bind λr=>some ⟨
   GB Γ x i (HR (JP Γ (.ListComp elt [⟨tg,iter,ifs,0⟩] scope p)) r.m)
   ,λ{X} {E} {ca} C=>by
   have lx:X.env.scope.names.lookup x=some .local:=by
    unfold IW at hw;simp only[ya1]at hw;rw[C.nm];exact eq_of_beq hw.1.1
   have hN:X.N[i]?=some x:=by rw[C.N];exact HX hi
   obtain⟨caps,mi,b,mt,me,h,B,hi',hg,hs⟩:=r.ok C;rw[h];have main:=r_lcS (pos2:=pos) B C.calm hi' C.ps C.fr (λcl A s H ex xb E' hp=>(hg cl A s H ex xb E' hp).1) (λcl A s H ex xb E' hp=>(hg cl A s H ex xb E' hp).2.1) (λcl A s H ex xb E' hp=>(hg cl A s H ex xb E' hp).2.2) hs C.nodup hN lx (zeg C hw)
   have main:=OD main (JP Γ (.ListComp elt [⟨tg,iter,ifs,0⟩] scope p));unfold GB;split
   .exact PS.weak main λD σ H h=>N8 h
   .exact PS.weak main λD σ H h=>KY (g:=DY i) (λ_ _ _ _ z=>R9 z) h⟩
  |_,_=>none)
 |_=>none
def aNm(D:Dc)(Γ:Gm)(x:Str)(px:Pos)(e:Expr)(pos:Pos):Option (SR Γ (.Assign [.Name x px] e pos)):=gd (Γ.loc x) λhl=>ob (Ca Γ.N x) λi hi =>
 if hc:GP e=false then (D.e Γ e).bind λr=>some ⟨GB Γ x i (HR (JP Γ e) r.m),λC=>TM hl hi C (Ko (r.ok C).1 _) λ_=>IY hc⟩
 else if hn:Nq Γ x=true then (D.e Γ e).bind λr=>some ⟨GB Γ x i (HR (JP Γ e) r.m),λC=>TM hl hi C (Ko (r.ok C).1 _) λ_=>zg6 C hn⟩
 else aLC D Γ x i px pos hi e
def aTup(D:Dc)(Γ:Gm)(ts:List Expr)(kt:Nat)(pt:Pos)(e:Expr)(pos:Pos):Option (SR Γ (.Assign [.Tuple ts kt pt] e pos)):=gd (!(zl5 e || GP e)) λhc=>(dG Γ (.Tuple ts kt pt)).bind λrg=>(D.e Γ e).bind λr=>some ⟨Ae r.m rg.m,λC=>by
 have hc':=DE hc;rw[ybp]at hc';refine zix (r.ok C).1 (rg.ok C) (Nu hc'.2) ?_ rfl;have ht:=hc'.1;cases e<;>first|rfl|cases ht⟩
def aTp(D:Dc)(Γ:Gm)(ts:List Expr)(kt:Nat)(pt:Pos)(e:Expr)(pos:Pos):Option (SR Γ (.Assign [.Tuple ts kt pt] e pos)) :=
 aTup D Γ ts kt pt e pos
theorem Lr{fs:List Str}(h:fs.findIdx? (· == f)=some j):f∈fs/\fs[j]?=some f:=by
 obtain⟨q1,q2,_⟩:=yb0.mp h
 grind
def aDpf(D:Dc)(Γ:Gm)(x f:Str)(p1 p2:Pos)(j:Expr)(p3:Pos)(e:Expr)(pos:Pos):Option (SR Γ (.Assign [.Subscript (.Attribute (.Name x p1) f p2) j p3] e pos)):=gd (!(GN j || GP e)) λhc=>ob Γ.ox.sf λc hs=>ob (Γ.var x) λi hi=>ob (c.2.findIdx? (· == f)) λjj hj=>(D.e Γ j).bind λrk=>(D.e Γ e).bind λr=>some ⟨Gs c.1 c.2 jj i rk.m r.m,λC=>by
 have hc':=DE hc;rw[ybp]at hc';obtain⟨v1,v2,v3,v4⟩:=C.var (pos:=p1) hi;obtain⟨k1,k2⟩:=C.gx.sf c.1 c.2 hs;refine s_dpf (by have:=C.room.units;omega) k1 (k2 f (Lr hj).1) hj v1 v2 v3 v4 (r.ok C).1 (rk.ok C).1 (Nu hc'.2) ?_ (zg7 hc'.1)
 cases e<;>rfl⟩
theorem SJ(hs:Γ.ox.sf=some c)(hi:Γ.var x=some i)(hj:c.2.findIdx? (· == f)=some jj)(hc:(!((c.2.take jj).contains f || !(decide (jj<900))))=true)(C:CxOk Γ X E ca)(he:PE X e (tM X.K E ca m)) :
  PS X (.Assign [.Attribute (.Name x p1) f p2] e pos) (tS X.K E ca Γ.mu (Cr c.1 c.2 jj i m)):=by
 have hc':=DE hc;rw[ybp,Bool.not_eq_false',yds]at hc';obtain⟨c1,c2⟩:=hc';obtain⟨v1,v2,v3,v4⟩:=C.var (pos:=p1) hi;obtain⟨k1,k2⟩:=C.gx.sf c.1 c.2 hs;exact zj3 k1 (k2 f (Lr hj).1) (Lr hj).2 c1 c2 v1 v2 v3 v4 he (by cases e<;>rfl)
def aFl(D:Dc)(Γ:Gm)(x f:Str)(p1 p2:Pos)(e:Expr)(pos:Pos):Option (SR Γ (.Assign [.Attribute (.Name x p1) f p2] e pos)):=ob Γ.ox.sf λc hs=>ob (Γ.var x) λi hi=>ob (c.2.findIdx? (· == f)) λjj hj=>gd (!((c.2.take jj).contains f || !(decide (jj<900)))) λhc=>match e,hc with
 |.Dict [] [] p,hc=>some ⟨Cr c.1 c.2 jj i JN,λC=>SJ hs hi hj hc C zji⟩
 |e,hc=>(D.e Γ e).bind λr=>some ⟨Cr c.1 c.2 jj i r.m,λC=>SJ hs hi hj hc C (r.ok C).1⟩
def aSub(D:Dc)(Γ:Gm)(a j:Expr)(p3:Pos)(e:Expr)(pos:Pos):Option (SR Γ (.Assign [.Subscript a j p3] e pos)):=match a with
 |.Name x p1 =>
  none
 |.Attribute (.Name x p1) f p2=>aDpf D Γ x f p1 p2 j p3 e pos
 |_=>none
def aMv(D:Dc)(Γ:Gm)(x:Str)(px:Pos)(e:Expr)(pos:Pos):Option (SR Γ (.Assign [.Name x px] e pos)):=match e with
 |.List [e1,e2,.Name y py] lp=>gd (Γ.ox.fo.contains y && Γ.ow.contains x && Γ.loc x && CU e1 && CU e2) λhc=>ob (Ca Γ.N x) λi hi=>ob (Γ.var y) λj hj=>(D.e Γ e1).bind λr1=>(D.e Γ e2).bind λr2=>some ⟨FU i j r1.m r2.m,λ{X} {E} {ca} C=>by
   simp only[ya1]at hc;obtain⟨⟨⟨⟨_,_⟩,c3⟩,c4⟩,c5⟩:=hc;obtain⟨l1,l2,l3⟩:=C.loc c3 hi;obtain⟨v1,v2,v3,v4⟩:=C.var (pos:=py) hj;exact s_mvL C.nodup l1 l2 l3 v1 v2 v3 v4 (r1.ok C).1 (r2.ok C).1 (CH c4) (CH c5) (IY rfl)⟩
 |_=>none
def dAsg(D:Dc)(Γ:Gm)(ts:List Expr)(e:Expr)(pos:Pos):Option (SR Γ (.Assign ts e pos)):=match ts with
 |[t]=>(match t with
  |.Name x px=>(aMv D Γ x px e pos).orElse λ_=>aNm D Γ x px e pos
  |.Tuple ts kt pt=>aTp D Γ ts kt pt e pos
  |.Subscript a j p3=>aSub D Γ a j p3 e pos
  |.Attribute o f p2=>(match o with
   |.Name x p1=>aFl D Γ x f p1 p2 e pos
   |_=>none)
  |_=>none)
 |_=>none
def NQ(D:Dc)(Γ:Gm)(e:Expr)(pos:Pos):Option (SR Γ (.Expr e pos)):=gd (!(GP e)) λhc=>(D.e Γ e).bind λr=>some ⟨Ed r.m,λC=>s_exp (r.ok C).1 (IY (DE hc))⟩
def xApp(D:Dc)(Γ:Gm)(x:Str)(p:Pos)(f:Str)(apos:Pos)(a:Expr)(cpos pos:Pos):Option (SR Γ (.Expr (.Call (.Attribute (.Name x p) f apos) [a] [] cpos) pos)):=gd (CU a) λh1=>gd (apos.endLine == cpos.line) λh2=>ob (Γ.var x) λi hi=>(D.e Γ a).bind λr =>
 if hf:f="append" then some ⟨ES i r.m,λC=>by
  subst hf;obtain⟨v1,v2,v3,v4⟩:=C.var (pos:=p) hi;exact s_app v1 v2 v3 v4 (r.ok C).1 (FT h1) h2⟩ else
 NQ D Γ _ pos
def dW(D:Dc)(Γ:Gm)(e:Expr)(pos:Pos):Option (SR Γ (.Expr e pos)):=match e with
 |.Call (.Attribute (.Subscript (.Name x p) k p2) f apos) [a] [] cpos=>gd (Γ.ow.contains x && !(Γ.dc.contains x) && CU a && (apos.endLine == cpos.line) && !(GN k)) λhc=>ob (Γ.var x) λi hi=>(D.e Γ k).bind λrk=>(D.e Γ a).bind λr=>if hf:f="append" then some ⟨ET i rk.m r.m,λC=>by
   subst hf;simp only[ya1,yc0]at hc;obtain⟨⟨⟨⟨_,_⟩,c3⟩,c4⟩,c5⟩:=hc;obtain⟨v1,v2,v3,v4⟩:=C.var (pos:=p) hi;exact s_apP v1 v2 v3 v4 (rk.ok C).1 (Iv c5) (r.ok C).1 (FT c3) c4⟩ else none
 |.Call (.Attribute (.Subscript (.Name x p) k p2) f apos) [] [] cpos=>gd (Γ.ow.contains x && !(Γ.dc.contains x) && (apos.endLine == cpos.line) && !(GN k)) λhc=>ob (Γ.var x) λi hi=>(D.e Γ k).bind λrk=>if hf:f="clear" then some ⟨Ee i rk.m,λC=>by
   subst hf;simp only[ya1,yc0]at hc;obtain⟨⟨⟨_,_⟩,c4⟩,c5⟩:=hc;obtain⟨v1,v2,v3,v4⟩:=C.var (pos:=p) hi;exact s_clP v1 v2 v3 v4 (rk.ok C).1 (Iv c5) c4⟩ else none
 |.Call (.Attribute (.Call (.Attribute o2 f2 a2) es ks c2) f apos) [a] [] cpos=>gd (CU a && (apos.endLine == cpos.line)) λhc=>(D.e Γ (.Call (.Attribute o2 f2 a2) es ks c2)).bind λrm=>(D.e Γ a).bind λr=>if hf:f="append" then some ⟨DN rm.m r.m,λC=>by
   subst hf;rw[ya1]at hc;exact s_tmA (rm.ok C).1 (r.ok C).1 (by cases es<;>rfl) (FT hc.1) hc.2⟩ else none
 |.Call (.Attribute (.Call (.Attribute o2 f2 a2) es ks c2) f apos) [] [] cpos=>gd (apos.endLine == cpos.line) λhc=>(D.e Γ (.Call (.Attribute o2 f2 a2) es ks c2)).bind λrm=>if hf:f="clear" then some ⟨FQ rm.m,λC=>by
   subst hf;exact s_tmC (rm.ok C).1 (by cases es<;>rfl) hc⟩ else none
 |_=>none
def dX(D:Dc)(Γ:Gm)(e:Expr)(pos:Pos):Option (SR Γ (.Expr e pos)) :=
 (dW D Γ e pos).orElse λ_ =>
 match e with
 |.Call (.Attribute (.Name x p) f apos) [a] [] cpos=>xApp D Γ x p f apos a cpos pos
 |e=>NQ D Γ e pos
def xRet(D:Dc)(Γ:Gm)(o:Option Expr)(pos:Pos):Option (SR Γ (.Return o pos)) :=
 gd (!Γ.mu) λhmu=>match o with
 |none=>some ⟨Kc,λC=>by rw[DE hmu];exact ziz⟩
 |some e=>(D.e Γ e).bind λr=>some ⟨A8 r.m,λC=>by rw[DE hmu];exact s_ret (r.ok C).1⟩
def xRse(D:Dc)(Γ:Gm)(a b:Option Expr)(pos:Pos):Option (SR Γ (.Raise a b pos)):=match a,b with
 |some (.Call (.Name c p) (e::es) [] cp),none =>
  gd (!(Γ.ox.nr)) λh1=>gd ((EV c).isNone) λh0=>gd (Γ.ex.contains c) λh2=>gd (Bc Γ.nm c) λh3=>gd (CT c) λh4=>(D.a Γ (e::es)).bind λr=>some ⟨C6 c r.m,λC=>s_rse C (DE h1) (Option.isNone_iff_eq_none.mp h0) (yam.mp h2) h3 h4 (r.ok C) r.st⟩
 |_,_=>none
def xRw(Γ:Gm)(tg it:Expr)(body els:List Stmt)(pos:Pos):Option (SR Γ (.For tg it body els pos)):=match tg,it,body,els with
 |.Tuple [.Name xa pa,.Name xb pb] tk tp,.Subscript (.Name x p1) (.Constant (.int c) k2 p2) sp,[.Expr (.Call (.Attribute (.Name xb' p3) f apos) [.Tuple [.Constant (.str s1) c1 q1,.Constant (.str s2) c2 q2,.Constant (.int n) c3 q3] tk2 tp2] [] cpos) bpos],[] =>
  if hn:xb'=xb/\f="append" then gd (Γ.ox.fo.contains x && !(Γ.ox.nr) && Γ.loc xa && Γ.loc xb && (apos.endLine == cpos.line)) λhc=>ob (Γ.var x) λi hi=>ob (Ca Γ.N xa) λa ha=>ob (Ca Γ.N xb) λb hb=>ob (Γ.var xb) λb' hb'=>gd (b' == b) λhbb=>some ⟨FR c i a b (.tup [.str s1,.str s2,.int n]),λ{X} {E} {ca} C=>by
   obtain⟨rfl,rfl⟩:=hn;simp only[ya1,yc0]at hc;obtain⟨⟨⟨⟨_,c2⟩,c3⟩,c4⟩,c5⟩:=hc;have hbb:=eq_of_beq hbb;subst hbb;obtain⟨v1,v2,v3,v4⟩:=C.var (pos:=p1) hi;obtain⟨l1,l2,l3⟩:=C.loc c3 ha;obtain⟨m1,m2,m3⟩:=C.loc c4 hb;obtain⟨w1,w2,w3,w4⟩:=C.var (pos:=p3) hb';exact s_rwP (E:=E) (ca:=ca) (C.po c2) C.calm v1 v2 v3 v4 (Iw C.nodup l1 l2 l3) (Iw C.nodup m1 m2 m3) rfl w1 w2 w3 w4 (PB (Gv (FW Kx λ_ _=>.str _) (Gv (FW Kx λ_ _=>.str _) (Gv (FW Iy λ_ _=>.int _) Kn rfl) rfl) rfl)) (λτ=>rfl) rfl c5⟩ else none
 |_,_,_,_=>none
def xFor(D:Dc)(Γ:Gm)(tg it:Expr)(body els:List Stmt)(pos:Pos):Option (SR Γ (.For tg it body els pos)) :=
 (xRw Γ tg it body els pos).orElse λ_ =>
 match els with
 |[]=>gd (!(Γ.ox.nr)) λh=>(dI D Γ tg it).bind λri=>(dG Γ tg).bind λrg=>(D.q Γ body).bind λr=>some ⟨CP ri.m rg.m r.m,λC=>s_for (C.po (DE h)) C.calm (ri.ok C) (rg.ok C) (r.ok C) (MD ri.ns)⟩
 |_=>none
def xIf(D:Dc)(Γ:Gm)(c:Expr)(a b:List Stmt)(pos:Pos):Option (SR Γ (.If c a b pos)) :=
 gd (Ek c) λh=>(D.e Γ c).bind λrc=>(D.q Γ a).bind λra=>(D.q Γ b).bind λrb=>some ⟨Aj rc.m ra.m rb.m,λC=>s_if (rc.t h C) (ra.ok C) (rb.ok C)⟩
structure CxS(Γ:Gm)(X:Cx)(ca:Str->Value):Prop where
 N:X.N=Γ.N
 nd:Γ.N.Nodup
 nm:X.env.scope.names=Γ.nm
 rm:Room Γ.lv (Pl X.A)
 bl:∀b∈Γ.bl,X.mg b=none
 gx:GxOk Γ.ox Γ.lv X.prog X.w X.K X.mg X.base ca
theorem CxS.var(C:CxS Γ X ca)(h:Γ.var x=some i):X.N[i]?=some x/\Bs X.env.scope x/\(x == "__debug__")=false/\(x == "__classdict__")=false:=by
 unfold Gm.var at h;split at h
 .rename_i hp;rw[ya1]at hp;obtain⟨p1,p2,p3⟩:=Cg hp.1;exact⟨by rw[C.N];exact HX h,NT (by rw[C.nm];exact hp.2),p1,p2⟩
 .cases h
theorem CxS.gl(C:CxS Γ X ca)(h:Bc Γ.nm x=true):Gl X x:=by
 show X.env.scope.names.lookup x=some .globalImplicit;rw[C.nm];exact eq_of_beq h
def xTry(D:Dc)(Γ:Gm)(body:List Stmt)(hs:List ExceptHandler)(els Ah:List Stmt)(pos:Pos):Option (SR Γ (.Try body hs els Ah pos)):=match hs,els,Ah with
 |_,_,_=>none
def dSt(D:Dc)(Γ:Gm):(s:Stmt)->Option (SR Γ s)
 |.Pass _=>some ⟨Ag,λ_=>zj0⟩
 |.Return o pos=>xRet D Γ o pos
 |.Expr e pos=>dX D Γ e pos
 |.Assign ts e pos=>dAsg D Γ ts e pos
 |.If c a b pos=>xIf D Γ c a b pos
 |.For tg it body els pos=>xFor D Γ tg it body els pos
 |.Raise a b pos=>xRse D Γ a b pos
 |.Try body hs els Ah pos=>xTry D Γ body hs els Ah pos
 |_=>none
def qRow(D:Dc)(Γ:Gm)(s1 s2:Stmt)(r:List Stmt):Option (QR Γ (s1::s2::r)):=match s1,s2 with
 |.For (.Name x pt) (.Name y p3) [.Expr (.Call (.Attribute (.Subscript (.Name x' p1) (.Constant (.int c) k2 p2) sp) f apos) [e] [] cpos) bpos] [] pos,.Expr (.Call (.Attribute (.Name y' p4) g apos2) [] [] cpos2) pos2 =>
  if hn:x'=x/\y'=y/\f="append"/\g="clear" then gd (Γ.ox.fo.contains y && CU e && (apos.endLine == cpos.line) && (apos2.endLine == cpos2.line) && !(Γ.ox.nr) && Γ.loc x) λhc=>ob (Γ.var y) λi hi=>ob (Γ.var x) λj hj=>ob (Ca Γ.N x) λj' hj'=>gd (j' == j) λhjj=>(D.e Γ e).bind λre=>(D.q Γ r).bind λrs=>some ⟨AG (Gr c i j re.m) rs.m,λ{X} {E} {ca} C=>by
   obtain⟨rfl,rfl,rfl,rfl⟩:=hn;simp only[ya1,yc0]at hc;obtain⟨⟨⟨⟨⟨c1,c2⟩,c3⟩,c4⟩,c5⟩,c6⟩:=hc;have hjj:=eq_of_beq hjj;subst hjj;obtain⟨a1,a2,a3,a4⟩:=C.var (pos:=p3) hi;obtain⟨b1,b2,b3,b4⟩:=C.var (pos:=p1) hj;obtain⟨l1,l2,l3⟩:=C.loc c6 hj';exact ziy (C.po c5) C.calm a1 a2 a3 a4 (Iw C.nodup l1 l2 l3) b1 b2 b3 b4 (re.ok C).1 (FT c2) c3 c4 (rs.ok C)⟩ else none
 |_,_=>none
def dSq(D:Dc)(Γ:Gm):(ss:List Stmt)->Option (QR Γ ss)
 |[]=>some ⟨Ag,λ_=>s_nil⟩
 |[s]=>(match D.s Γ s with
  |some r=>some ⟨MC (frzs Γ s) r.m,λC=>Kb (OB (r.ok C)) _⟩
  |none=>if Γ.ox.no then some ⟨Iq,λ_=>OB OC⟩ else none)
 |s::s2::r=>match qRow D Γ s s2 r with
  |some q=>some q
  |none=>(D.q Γ (s2::r)).bind λrs=>match D.s Γ s with
  |some q=>some ⟨MC (frzs Γ s) (AG q.m rs.m),λC=>Kb (OO (q.ok C) (rs.ok C)) _⟩
  |none=>if Γ.ox.no then some ⟨AG Iq rs.m,λC=>OO OC (rs.ok C)⟩ else none
def Ff:Nat->Dc
 |0=>⟨λ_ _=>none,λ_ _=>none,λ_ _=>none,λ_ _ _=>none,λ_ _=>none,λ_ _=>none⟩
 |n+1=>⟨dEs (Ff n),dAs (Ff n),dOs (Ff n),dBs (Ff n),dSt (Ff n),dSq (Ff n)⟩
def J9(n:Nat)(Γ:Gm)(ss:List Stmt):Option (AH):=((Ff n).q Γ ss).map QR.m
structure GoodS(ca:Str->Value)(n:Nat):Prop where
 ss:∀{Γ:Gm} {X:Cx} {E:L2.St->XK} {st:List Stmt} {m:AH},CxOk Γ X E ca->J9 n Γ st=some m->Aq X st (tS X.K E ca Γ.mu m)
theorem R7(ca)(n):GoodS ca n:=⟨λC h=>by
 obtain⟨r,_,rfl⟩:=yad.mp h;exact r.ok C⟩
end Pu
end
namespace Pu
open PySem PySem.Spec PyProof.Rows L2 Zw Zx
theorem Qk:True:=trivial
noncomputable def Ki(n:Nat)(u:AH)(ts:List T):Option Ru:=match u (ts.map some++List.replicate (n - ts.length) none) with
 |some (.rt t)=>some (.ok t)
 |some (.nx _)=>some (.ok .non)
 |some (.xc c _)=>some (.exc c)
 |_=>none
def Ac(k n:Nat)(u:AH)(ts:List T):Option Ru:=if ts.length=k then Ki n u ts else none
theorem K4(hR:∀i a,¬ R i a)(s:Stp F H (tot R) F' H' O'):Ext F H F' H' O' where
 hh:=λb u e=>s.kp b u (λ⟨i,z⟩=>hR i b z) e
 ff:=s.ff
 fh:=s.fh
 nb:=λb z=>(s.nw b z).elim (λ⟨i,w⟩=>absurd w (hR i b)) id
 nf:=λb u e=>(s.nf b u e).elim .inl λz=>z.elim (λ⟨i,w⟩=>absurd w (hR i b)) .inr
theorem zeh{K}(fh:AL F H)(r:A2 K F ts vs):StR K F H (start N vs) (ts.map some++List.replicate (N.length - ts.length) none) (λ_=>R0):=by
 have hl:=r.1;refine⟨fh,by simp[L2.start,hl],λi t e=>?_,λ_ _ z=>z.elim,λ_ _ _ _ z=>z.elim⟩
 unfold L2.start
 by_cases hi:i<ts.length
 .rw[yat (by simpa using hi),ya9]at e
  obtain⟨t',e1,e2⟩:=yad.mp e;cases e2;have hv:i<vs.length:=by omega
  refine⟨vs[i],?_,(r.2 i t vs[i] e1 (ya0 hv)).any⟩
  grind
 grind
theorem zj6{K}{N ps:List Str}(h:BC K ca (Ac ps.length N.length u) vs H Q E):tS K (λ_=>E) ca false u { nx:=λ_ H'=>Q .non H',rt:=Q} (start N vs) H:=by
 obtain⟨F',ts,fh,r,q⟩:=h;refine⟨F',_,_,zeh fh r,?_⟩;unfold Ac at q
 by_cases hl:ts.length=ps.length
 .simp only[hl]at q;unfold Ki at q;cases ho:u (ts.map some++List.replicate (N.length - ts.length) none) with
  |none=>grind
  |some o =>
   simp only[ho]at q;cases o with
   |nx τ=>exact λF1 H1 σ1 R1 s1 S1=>q F1 H1 .non R0 ((K4 (λ_ _ z=>z) s1).mono λ_ z=>z.elim) .non
   |rt t=>exact λF1 H1 x B s1 r1=>q F1 H1 x B (K4 (λ_ _ z=>z) s1) r1
   |bk τ=>exact q.elim
   |ct τ=>exact q.elim
   |xc c τ=>exact λF1 H1 σ1 R1 s1 S1=>q F1 H1 ((K4 (λ_ _ z=>z) s1).mono λ_ z=>z.elim)
 grind
theorem Rh{K}{st:Stmt}{f:Addr}{Γ:Gm}(F:FunD K x qual st f fd)(S:FnScope N ps (BU st))
  (hΓ:Γ.N=N) (hnm:Γ.nm=(BU st).names) (hce:∀x∈Γ.ce,Γ.nm.lookup x=some .cell) (hlv:Γ.lv=k) (hbl:∀b∈Γ.bl,mg b=none)
  (hfs:∀f F,Γ.fns.lookup f=some F->F.lv<=k/\Nonempty (DefX P w K mg base F.lv f F.ps (BC K ca F.g))) (hex:∀c∈Γ.ex,∃T:ECls K mg c,ca c=.ref T.C/\DI K T.C=some none)
  (hms:∀f F,Γ.mus.lookup f=some F->F.lv<=k/\Nonempty (DefX P w K mg base F.lv f F.ps (EO K ca F.g))) (hmu:Γ.mu=false) (hgx:GxOk Γ.ox k P w K mg base ca) (hu:J9 n Γ (Dd st)=some u):FnOk P w K mg base (CO P w) (k+1) f fd ps (BC K ca (Ac ps.length N.length u)):=by
 refine Pk F S (λvs H Q E h=>?_) λcdv A outer s H vs Q E hr h=>?_
 .obtain⟨F',ts,_,r,q⟩:=h;unfold Ac at q
  by_cases hl:ts.length=ps.length
  .rw[<- r.1,hl]
  grind
 .have C:CxOk Γ (De (CO P w) P w K mg base N qual (BU st) f cdv A outer s H E) (λ_=>E) ca:=by
   refine⟨hΓ.symm,by rw[hΓ];exact S.nd,hnm.symm,S.kind,rfl,by rw[hlv];exact hr,λy hy=>⟨rfl,hce y hy⟩,hbl,Pd,λ_=>PassesOwn.leaving,λ_=>Qp,Qk,λf F e=>by rw[hlv];exact hfs f F e,hex,λf F e=>by rw[hlv];exact hms f F e,by rw[hlv];exact hgx,λ_=>⟨rfl,rfl⟩,⟨_,_,rfl,rfl⟩⟩
  have G:=(R7 ca n).ss C hu;rw[hmu]at G;refine⟨_,G,?_⟩;exact zj6 h
def runM(k n:Nat)(u:AH)(ts:List T):Option Ru:=if ts.length=k then (match u (ts.map some++List.replicate (n - ts.length) none) with
 |some (.rt t)=>some (.ok t)
 |some (.nx τ)=>(match Ov .non τ with
  |some (.rt t)=>some (.ok t)
  |_=>none)
 |some (.xc c _)=>some (.exc c)
 |_=>none) else none
theorem zct{K}(fh:AL F H)(r0:Rp K F H t0 x0 A)(r:A2 K F ts vs):StR K F H (start N (x0::vs)) ((t0::ts).map some++List.replicate (N.length - (t0::ts).length) none) (λi=>if i=0 then A else R0):=by
 have hl:=r.1;refine⟨fh,by simp[L2.start,hl],λi t e=>?_,λi a z=>?_,λi j a hij z1 z2=>?_⟩
 .unfold L2.start
  by_cases hi:i<(t0::ts).length
  .rw[yat (by simpa using hi),ya9]at e
   obtain⟨t',e1,e2⟩:=yad.mp e;cases e2;cases i with
   |zero =>
    cases e1;exact⟨x0,by simp,r0⟩
   |succ i =>
    have hi' :=by simpa using hi
    have hv:i<vs.length:=by omega
    refine⟨vs[i],?_,(r.2 i t vs[i] (by simpa using e1) (ya0 hv)).any⟩
    rw[yat (by simpa using hv),ya9,List.getElem?_cons_succ,ya0 hv]
    rfl
  grind
 .by_cases hi:i=0
  .subst hi;exact⟨t0,rfl⟩
  .simp only[hi,ydw]at z;exact z.elim
 .by_cases hi:i=0
  .have hj:¬ j=0:=λz=>hij (hi.trans z.symm)
   simp only[hj,ydw]at z2;exact z2
  .simp only[hi,ydw]at z1;exact z1
theorem zg3:tot (λi=>if i=0 then A else R0)=A:=funext λa=>propext ⟨λ⟨i,z⟩=>by
 by_cases hi:i=0
 .grind
 .simp only[hi]at z;exact z.elim,λz=>⟨0,by simpa using z⟩⟩
theorem B9{α:Type}{P:α->Prop}:∀x∈([]:List α),P x:=λ_ h=>by cases h
theorem Av{α:Type}{P:α->Prop}{a:α}{l:List α}(h:P a)(r:∀x∈l,P x):∀x∈a::l,P x:=λx hx=>by
 obtain rfl|hx:=yak.mp hx
 .exact h
 .exact r x hx
theorem Fq{P:List Value->Prop}(h:P []):∀us:List Value,us.length=0->P us:=λus e=>by
 cases us with
 |nil=>exact h
 |cons a r=>cases e
theorem Bn{P:List Value->Prop}{k:Nat}(h:∀a us,us.length=k->P (a::us)):∀us:List Value,us.length=k+1->P us:=λus e=>by
 cases us with
 |nil=>cases e
 |cons a r=>exact h a r (Nat.succ.inj e)
theorem N1{P:List Value->Prop}(h:∀a,P [a]):∀us:List Value,us.length=1->P us:=Bn λa=>Fq (h a)
theorem N0{P:List Value->Prop}(h:∀a b,P [a,b]):∀us:List Value,us.length=2->P us:=Bn λa=>Bn λb=>Fq (h a b)
theorem NZ{P:List Value->Prop}(h:∀a b c,P [a,b,c]):∀us:List Value,us.length=3->P us:=Bn λa=>Bn λb=>Bn λc=>Fq (h a b c)
theorem KO{P:List Value->Prop}(h:∀a b c d,P [a,b,c,d]):∀us:List Value,us.length=4->P us:=Bn λa=>Bn λb=>Bn λc=>Bn λd=>Fq (h a b c d)
theorem KN{P:List Value->Prop}(h:∀a b c d e,P [a,b,c,d,e]):∀us:List Value,us.length=5->P us:=Bn λa=>Bn λb=>Bn λc=>Bn λd=>Bn λe=>Fq (h a b c d e)
theorem KL{P:List Value->Prop}(h:∀a b c d e f,P [a,b,c,d,e,f]):∀us:List Value,us.length=6->P us:=Bn λa=>Bn λb=>Bn λc=>Bn λd=>Bn λe=>Bn λf=>Fq (h a b c d e f)
section
variable {P:Program}{w:World}{K:k7}{mg:Str->Option Value}{base:Heap}{ca:Str->Value}{k:Nat}
theorem Ao:∀f F,([]:List (Str×Fn)).lookup f=some F->F.lv<=k/\Nonempty (DefX P w K mg base F.lv f F.ps (BC K ca F.g)):=λ_ _ h=>by cases h
theorem zfm{x:Str}{F0:Fn}{l:List (Str×Fn)}(hk:F0.lv<=k)(D:DefX P w K mg base F0.lv x F0.ps (BC K ca F0.g))(r:∀f F,l.lookup f=some F->F.lv<=k/\Nonempty (DefX P w K mg base F.lv f F.ps (BC K ca F.g))) :
  ∀f F,((x,F0)::l).lookup f=some F->F.lv<=k/\Nonempty (DefX P w K mg base F.lv f F.ps (BC K ca F.g)):=λf F h=>by
 rw[yb5]at h;cases hf:f == x with
 |true =>
  rw[hf]at h;cases h;rw[eq_of_beq hf];exact⟨hk,⟨D⟩⟩
 |false=>rw[hf]at h;exact r f F h
theorem LK:∀f F,([]:List (Str×Fn)).lookup f=some F->F.lv<=k/\Nonempty (DefX P w K mg base F.lv f F.ps (EO K ca F.g)):=λ_ _ h=>by cases h
def Ih(K:k7):Sp:=λvs H Q _=>∃(a:Addr) (ns:List Int),vs=[.ref a]/\E5 K H a (ns.map V.int)/\ns.length<=63/\∀H',Q (.bl true) H'
theorem E5.of{K:k7}{H:Hp}{a:Addr}{xs:List V}(hO:Jw H)(h:AM K H a xs):E5 K H a xs:=by
 rcases h with (h|h)|h
 .rcases hO a with z|⟨o,ys,z⟩<;>rw[h]at z<;>cases z
 .exact .inl h
 .exact .inr h
def Au(ns:List Int):T:=.nd false .rl (ns.map T.int)
theorem Oq{F:Hp}:∀ns:List Int,A2 K F (ns.map T.int) (ns.map V.int)
 |[]=>.nil
 |n::r=>.cons (H:=F) (.int n) (Oq r)
theorem zku{R:List T->Option Ru}{f:Addr}{fd:FuncData}(F:FnOk P w K mg base (CO P w) k f fd ["_law_script"] (BC K ca R))(h:∀ns:List Int,ns.length<=63->R [Au ns]=some (.ok (.bl true))):FnOk P w K mg base Dy k f fd ["_law_script"] (Ih K):=by
 refine⟨λvs H Q E hs=>?_,λA outer s H args us vs Q E hr e0 hb hv hs=>?_⟩
 .obtain⟨a,ns,rfl,_⟩:=hs
  rfl
 .obtain⟨a,ns,rfl,hq,h63,q⟩:=hs;refine ydk (F.run A outer s H args us _ Q E0 hr e0 hb hv ⟨H,[Au ns],.refl _,.cons (H:=H) (A2.of_node (k:=.rl) hq (Oq ns)) .nil,?_⟩) λr s' hx=>?_
  .rw[h ns h63];intro F' H' z C e r;rw[r.bl_inv];exact q H'
  .cases r with
   |error v =>
    obtain⟨_,_,_,_,_,_,_,_,_,_,_,_,z⟩:=hx;exact z.elim
   |ok fl=>cases fl<;>exact hx
end
def Ef(C:Addr)(fs:List Str)(k n:Nat)(u:AH)(p:Addr)(ts:List T):Option Ru:=if ts.length+1=k then (match u ((T.oob p C fs []::ts).map some++List.replicate (n - (ts.length+1)) none) with
 |some (.nx τ)=>(match EW τ 0 C fs with
  |some (q,l)=>if q=p then some (.ok (.obj (.ins C fs) (Af l))) else none
  |none=>none)
 |some (.xc c _)=>some (.exc c)
 |_=>none) else none
open Classical in
def DP(C:Addr)(fs:List Str)(k n:Nat)(u:AH)(ts:List T):Option Ru:=if h:∃r,∀p,Ef C fs k n u p ts=some r then some h.choose else none
theorem Ol{C:Addr}{fs:List Str}{k n:Nat}{u:AH}{ts:List T}{r:Ru}(h:∀p,Ef C fs k n u p ts=some r):DP C fs k n u ts=some r:=by
 have hx:∃r,∀p,Ef C fs k n u p ts=some r:=⟨r,h⟩;unfold DP;rw[dif_pos hx];have e:=(hx.choose_spec 0).symm.trans (h 0);exact e
theorem Om{C:Addr}{fs:List Str}{k n:Nat}{u:AH}{ts:List T}{r:Ru}(h:DP C fs k n u ts=some r)(p:Addr):Ef C fs k n u p ts=some r:=by
 unfold DP at h;split at h
 .rename_i hx;cases h;exact hx.choose_spec p
 .cases h
theorem zlc{P:Program}{w:World}{K:k7}{mg:Str->Option Value}{base:Heap}{ca:Str->Value}{x qual:Str}{st:Stmt}{f:Addr}{fd:FuncData}{N ps:List Str}{k n:Nat}{Γ:Gm}{u:AH}{C:Addr}{fs:List Str}(F:FunD K x qual st f fd)(S:FnScope N ps (BU st))
  (hΓ:Γ.N=N) (hnm:Γ.nm=(BU st).names) (hce:∀x∈Γ.ce,Γ.nm.lookup x=some .cell) (hlv:Γ.lv=k) (hbl:∀b∈Γ.bl,mg b=none)
  (hfs:∀f F,Γ.fns.lookup f=some F->F.lv<=k/\Nonempty (DefX P w K mg base F.lv f F.ps (BC K ca F.g))) (hex:∀c∈Γ.ex,∃T:ECls K mg c,ca c=.ref T.C/\DI K T.C=some none)
  (hms:∀f F,Γ.mus.lookup f=some F->F.lv<=k/\Nonempty (DefX P w K mg base F.lv f F.ps (EO K ca F.g))) (hmu:Γ.mu=false) (hgx:GxOk Γ.ox k P w K mg base ca) (hu:J9 n Γ (Dd st)=some u):FnOk P w K mg base (CO P w) (k+1) f fd ps (Gn K ca C (DP C fs ps.length N.length u)):=by
 refine Pk F S (λvs H Q E h=>?_) λcdv A outer s H vs Q E hr h=>?_
 .obtain⟨F',p,dx,ts,vs',_,rfl,_,_,r,q⟩:=h;cases hg:DP C fs ps.length N.length u ts with
  |none=>rw[hg]at q;exact q.elim
  |some rr =>
   have h0:=Om hg 0;unfold Ef at h0
   by_cases hl:ts.length+1=ps.length
   .rw[yax,<- r.1,hl]
   .rw[if_neg hl]at h0;cases h0
 .have CC:CxOk Γ (De (CO P w) P w K mg base N qual (BU st) f cdv A outer s H E) (λ_=>E) ca:=by
   refine⟨hΓ.symm,by rw[hΓ];exact S.nd,hnm.symm,S.kind,rfl,by rw[hlv];exact hr,λy hy=>⟨rfl,hce y hy⟩,hbl,Pd,λ_=>PassesOwn.leaving,λ_=>Qp,Qk,λf F e=>by rw[hlv];exact hfs f F e,hex,λf F e=>by rw[hlv];exact hms f F e,by rw[hlv];exact hgx,λ_=>⟨rfl,rfl⟩,⟨_,_,rfl,rfl⟩⟩
  have G:=(R7 ca n).ss CC hu;rw[hmu]at G;refine⟨_,G,?_⟩;obtain⟨F',p,dx,ts,vs',fh,rfl,fp,hp,r,q⟩:=h;have r0:Rp K F' H (.oob p C fs []) (.ref p) (λa=>a=p\/∃j:Nat,R0 a):=.oob (xs:=[]) (λ_=>R0) fp (by rw[List.zip_nil_right];exact hp) rfl (λi t x h=>by simp at h) (λ_ _ _ _ z=>z.elim) (λ_ z=>z) (λ_ _ z=>z.elim)
  have hA:(λa=>a=p\/∃j:Nat,R0 a)=λa=>a=p:=funext λa=>propext ⟨λz=>z.elim id λ⟨_,w⟩=>w.elim,λz=>.inl z⟩
  refine⟨F',_,_,zct fh r0 r,?_⟩;unfold pS;rw[zg3,hA];cases hg:DP C fs ps.length N.length u ts with
  |none=>rw[hg]at q;exact q.elim
  |some rr =>
   rw[hg]at q;have h0:=Om hg p;unfold Ef at h0
   by_cases hl:ts.length+1=ps.length
   .rw[if_pos hl]at h0;have el:(T.oob p C fs []::ts).length=ts.length+1:=rfl;rw[el];cases ho:u ((T.oob p C fs []::ts).map some++List.replicate (N.length - (ts.length+1)) none) with
    |none=>rw[ho]at h0;cases h0
    |some o =>
     rw[ho]at h0;cases o with
     |nx τ =>
      simp only at h0;intro F1 H1 σ1 R1 s1 S1;cases hoo:EW τ 0 C fs with
      |none=>rw[hoo]at h0;cases h0
      |some ql =>
       obtain⟨q0,l⟩:=ql;rw[hoo]at h0;simp only at h0
       by_cases hq:q0=p
       .rw[if_pos hq]at h0;subst hq;cases h0;have h00:=LC hoo;have S2:=S1.frz h00;obtain⟨y,ey,ry⟩:=S1.rep 0 _ h00;obtain⟨dx2,xs2,Rr,rfl,hA2,fp2,hp2,ro,dp⟩:=ry.oob_inv;have n1:∀a,R1 0 a->F1 a=none:=λa z=>(S1.dom z).1
        have r2:=ry.share (H':=H1) (D0 (H:=H1) n1) λa u z q=>by rw[Cz z];exact q
        simp only at q;refine q (frz F1 H1 (R1 0)) H1 ⟨s1.ff.trans (D0 n1),GV S1.fh,s1.kp,λb z=>z.elim,λb u e=>?_⟩ r2
        by_cases hb:R1 0 b
        .exact(s1.nw b ⟨0,hb⟩).elim (λz=>.inr (.inl z)) λz=>.inr (.inr z)
        .rw[DZ hb]at e;exact s1.nf b u e
       .rw[if_neg hq]at h0;cases h0
     |rt t=>cases h0
     |bk τ=>cases h0
     |ct τ=>cases h0
     |xc c τ =>
      cases h0;simp only at q;exact λF1 H1 σ1 R1 s1 S1=>q F1 H1 (s1.mono λ_ z=>z.elim)
   .rw[if_neg hl]at h0;cases h0
theorem CY{κ α:Type} [BEq κ]{P:κ->α->Prop}:∀y b,([]:List (κ×α)).lookup y=some b->P y b:=λ_ _ h=>by cases h
theorem Cy{κ α:Type} [BEq κ] [LawfulBEq κ]{P:κ->α->Prop}{x:κ}{a:α}{l:List (κ×α)}(h:P x a)(r:∀y b,l.lookup y=some b->P y b):∀y b,((x,a)::l).lookup y=some b->P y b:=λy b e=>by
 rw[yb5]at e;cases hf:y == x with
 |true =>
  rw[hf]at e;cases e;rw[eq_of_beq hf];exact h
 |false=>rw[hf]at e;exact r y b e
theorem Kj{K:k7}{F:Hp}:∀ys:List Str,A2 K F (ys.map T.str) (ys.map V.str)
 |[]=>.nil
 |y::r=>.cons (H:=F) (.str y) (Kj r)
theorem LG{P:Str->Fn->List (Nat×List T)->Prop}:∀x F ds,([]:List (Str×Fn×List (Nat×List T))).lookup x=some (F,ds)->P x F ds:=λ_ _ _ h=>by cases h
theorem Q5{P:Str->Fn->List (Nat×List T)->Prop}{l:List (Str×Fn×List (Nat×List T))}{x0:Str}{F0:Fn}{d0:List (Nat×List T)}(h:P x0 F0 d0)(r:∀x F ds,l.lookup x=some (F,ds)->P x F ds):∀x F ds,((x0,F0,d0)::l).lookup x=some (F,ds)->P x F ds:=λx F ds e=>by
 rw[yb5]at e;cases hf:x == x0 with
 |true =>
  rw[hf]at e;cases e;rw[eq_of_beq hf];exact h
 |false =>
  rw[hf]at e;exact r x F ds e
def SV(K:k7)(C:Addr):=(J7 K C,PySem.W.subIn K (.ref C) (.ref C),(PySem.W.clsIn K C).isSome,PySem.W.typeIn K (.ref C),PySem.W.findIn K (.ref C) "__getattribute__",PySem.W.findIn K (.ref C) "__getattr__",PySem.W.findIn K (.ref C) "__class__",PySem.W.mroIn K C (.type "object"),PySem.W.mroIn K C (.type "BaseException"))
def SW{K:k7}{mg:Str->Option Value}{x:Str}(g:PySem.W.specialIn K (.builtin "object.__class__") "__get__"=some (some (.builtin "getset_descriptor.__get__"))/\PySem.W.takesIn K (.builtin "object.__class__")=some true)(C:Addr)(m:mg x=some (.ref C))(h:SV K C=(true,some true,true,some (.type "type"),some (some (.builtin "BaseException.__getattribute__")),some none,some (some (.builtin "object.__class__")),some true,some true)):ECls K mg x:=⟨C,m,by
 unfold SV at h;simp only[Prod.mk.injEq,yca]at h;obtain⟨h1,h2,h3,h4,h5,h6,h7,h8,h9⟩:=h;exact⟨h1,h2,h3,h4,h5,h6,h7,h8,h9,g.1,g.2⟩⟩
theorem An{G:Gx}{lv:Nat}{P:Program}{w:World}{K:k7}{mg:Str->Option Value}{base:Heap}{ca:Str->Value}
  (co:∀x t,G.co.lookup x=some t->∃u v,mg x=some u/\AN v u/\∀F:Hp,Rp K F F t v R0:=by exact CY)
  (cl:∀c∈G.cl,Cls K c.2.1/\∀f∈c.2.2,Bd K c.2.1 f:=by exact B9)
  (mt:∀c∈G.mt,c.2.2.2.lv<=lv/\Nonempty (MetX P w K mg base c.2.1 c.1 c.2.2.2.lv c.2.2.2.ps (BC K ca c.2.2.2.g)):=by exact B9)
  (nw:∀x F ds,G.nw.lookup x=some (F,ds)->F.lv+1<=lv/\∃(C:Addr) (D:NewX P w K mg base x C F.lv F.ps (Gn K ca C F.g)),∀k dts,ds.lookup k=some dts->∃dvs us,Ba K D.fd F.ps us/\AK dvs us/\∀H:Hp,A2 K H dts dvs:=by exact LG)
  (sf:∀C fs,G.sf=some (C,fs)->Cls K C/\∀f∈fs,Bd K C f:=by exact(λ_ _ h=>by cases h))
  (xs:∀W cs,G.xs.lookup W=some cs->∃T:ECls K mg W,∀c C,cs.lookup c=some C->ca c=.ref C/\PySem.W.subIn K (.ref C) (.ref T.C)=some true:=by exact CY)
  (sb:∀D tb,G.sb.lookup D=some tb->∃A:Addr,mg D=some (.ref A)/\∀C b,tb.lookup C=some b->ExcK K C/\PySem.W.kitOne K (.ref C) (.ref A)=some b:=by exact CY)
  (sv:∀D tb,G.sv.lookup D=some tb->mg D=none/\∃t,bootBuiltins D=some (.type t)/\∀C b,tb.lookup C=some b->ExcK K C/\PySem.W.kitOne K (.ref C) (.type t)=some b:=by exact CY)
  (ci:∀x tb,G.ci.lookup x=some tb->∃D:Addr,mg x=some (.ref D)/\(∀C b,tb.lookup C=some b->ICls K C/\PySem.W.kitOne K (.ref C) (.ref D)=some b)/\(IQ.all λa=>PySem.W.kitOne K (.type a) (.ref D) == some false)=true:=by exact CY)
  (x2:∀W1 W2 cs,(W1,W2,cs)∈G.x2->∃(T1:ECls K mg W1) (T2:ECls K mg W2),∀c C,cs.lookup c=some C->ca c=.ref C/\PySem.W.subIn K (.ref C) (.ref T1.C)=some false/\PySem.W.subIn K (.ref C) (.ref T2.C)=some true:=by exact(λ_ _ _ h=>by cases h))
  (wd:∀x F,G.wd.lookup x=some F->F.lv<=lv/\∃p,F.ps=[p]/\Nonempty (DefS P w K mg base F.lv x p (BC K ca F.g)):=by exact CY)
  (ti:∀C∈G.ti,TiOk K C:=by exact B9)
  (dn:∀x y,G.dn.lookup x=some y->y.1.lv<=lv/\∃(D:DefX P w K mg base y.1.lv x y.1.ps (BC K ca y.1.g)) (dvs:List V),DefsX K D.fd y.1.ps dvs/\∀H:Hp,A2 K H y.2 dvs:=by exact CY)
  (rn:True:=trivial)
  : GxOk G lv P w K mg base ca:=⟨co,cl,mt,nw,sf,xs,sb,sv,ci,x2,wd,ti,dn,rn⟩
theorem scM{N ps:List Str}{sc:Scope}(h:(sc.kind=.function/\sc.isCoroutine=false/\sc.isGenerator=false)/\N.Nodup/\N.take ps.length=ps/\(∀x∈ps,sc.names.lookup x=some .local\/sc.names.lookup x=some .cell)/\∀y∈sc.names,y.2≠.free):FnScope N ps sc:=⟨h.1.1,h.1.2.1,h.1.2.2,h.2.1,h.2.2.1,h.2.2.2.1,h.2.2.2.2⟩
class Qx (P:outParam Program) (w:outParam World) (K:outParam k7) (mg:outParam (Str->Option Value)) (base:outParam Heap) (ca:outParam (Str->Value)):Prop where
  c:∀(x:Str) (u:Value),PySem.W.nsIn K mainGlobals x=some (some u)->mg x=some u
  n:∀x:Str,PySem.W.nsIn K mainGlobals x=some none->mg x=none
structure Ck(Γ:Gm)(f:Fn)(st:Stmt)(u:AH):Prop where
 s:FnScope Γ.N f.ps (BU st):=by exact scM (by decide +kernel)
 k:J9 200 Γ (Dd st)=some u:=by ext
 n:Γ.nm=(BU st).names:=by rfl
theorem Ap{P:Program}{w:World}{K:k7}{mg:Str->Option Value}{base:Heap}{ca:Str->Value}{k:Nat}{x:Str}{F0:Fn}{l:List (Str×Fn)}(D:DefX P w K mg base F0.lv x F0.ps (BC K ca F0.g))(r:∀f F,l.lookup f=some F->F.lv<=k/\Nonempty (DefX P w K mg base F.lv f F.ps (BC K ca F.g)))(hk:F0.lv<=k:=by decide) :
  ∀f F,((x,F0)::l).lookup f=some F->F.lv<=k/\Nonempty (DefX P w K mg base F.lv f F.ps (BC K ca F.g)):=zfm hk D r
abbrev gF(x qual:Str)(s:Stmt)(d:Value)(m:Str)(t c:Nat)(y:Value):FuncData:=PySem.W.fnOf x qual (GX s) (Dd s) (BU s) d .none .none (.str m t) none (.ref c) y
def fO(a b:Str)(s:Stmt)(d:Value)(m:Str)(t c:Nat)(y:Value):Obj:=⟨(.type "function"),none,(.func (gF a b s d m t c y)),Array.mk []⟩
def gO(a:Str)(s:Stmt)(m:Str)(t c:Nat):Obj:=fO a a s .none m t c .none
noncomputable def Qa(K:k7)(b:Str):Bool:=match PySem.W.nsIn K mainGlobals b with
 |some none=>true
 |_=>false
def Eh(K:k7)(x:Str)(a:Addr):Bool:=match PySem.W.nsIn K mainGlobals x with
 |some (some (.ref b))=>b == a
 |_=>false
def GZ(K:k7)(qual:Str)(a c:Nat)(Γ:Gm)(f:Fn):Bool:=PySem.W.codeIn K (.ref c) qual && PySem.W.keepIn K (.ref a) && Γ.bl.all (Qa K) && Γ.ce.all (λx=>Γ.nm.lookup x == some .cell) && !Γ.mu && (Γ.lv+1 == f.lv)
structure Chk(K:k7)(mg:Str->Option Value)(qual:Str)(a c:Nat)(Γ:Gm)(f:Fn):Prop where
 c:PySem.W.codeIn K (.ref c) qual=true
 k:PySem.W.keepIn K (.ref a)=true
 b:∀b∈Γ.bl,mg b=none
 e:∀x∈Γ.ce,Γ.nm.lookup x=some .cell
 m:Γ.mu=false
 l:Γ.lv+1=f.lv
theorem zlm{P:Program}{w:World}{K:k7}{mg:Str->Option Value}{base:Heap}{ca:Str->Value} [q:Qx P w K mg base ca]{qual:Str}{a c:Nat}{Γ:Gm}{f:Fn}(h:GZ K qual a c Γ f=true):Chk K mg qual a c Γ f:=by
 unfold GZ at h;simp only[ya1,yan]at h;obtain⟨⟨⟨⟨⟨h1,h2⟩,h3⟩,h4⟩,h5⟩,h6⟩:=h;refine⟨h1,h2,λb hb=>q.n b ?_,λx hx=>eq_of_beq (h4 x hx),DE h5,eq_of_beq h6⟩
 have:=h3 b hb;unfold Qa at this;split at this
 .assumption
 .cases this
theorem Ow{P:Program}{w:World}{K:k7}{mg:Str->Option Value}{base:Heap}{ca:Str->Value} [q:Qx P w K mg base ca]{x:Str}{a:Addr}(h:Eh K x a=true):mg x=some (.ref a):=by
 unfold Eh at h;split at h
 .rename_i b e;rw[<- eq_of_beq h];exact q.c _ _ e
 .cases h
structure AY(P:Program)(w:World)(K:k7)(mg:Str->Option Value)(base:Heap)(ca:Str->Value)(x qual:Str)(st:Stmt)(d:Value)(mo:Str)(t c:Nat)(y:Value)(Γ:Gm)(f:Fn)(V:Params->Obj)(a:Addr):Prop where
 fs:∀g F,Γ.fns.lookup g=some F->F.lv<=Γ.lv/\Nonempty (DefX P w K mg base F.lv g F.ps (BC K ca F.g))
 gx:GxOk Γ.ox Γ.lv P w K mg base ca
 ex:∀c∈Γ.ex,∃T:ECls K mg c,ca c=.ref T.C/\DI K T.C=some none
 ms:∀g F,Γ.mus.lookup g=some F->F.lv<=Γ.lv/\Nonempty (DefX P w K mg base F.lv g F.ps (EO K ca F.g))
 h:Chk K mg qual a c Γ f
 F:FunD K x qual st a (gF x qual st d mo t c y)
section
variable {P:Program}{w:World}{K:k7}{mg:Str->Option Value}{base:Heap}{ca:Str->Value} [q:Qx P w K mg base ca]{x mo qual:Str}{st:Stmt}{t c:Nat}{d y:Value}{Γ:Gm}{f:Fn}{u:AH}{V:Params->Obj}{a C:Addr}{fs:List Str}
theorem Mr(hfs:∀g F,Γ.fns.lookup g=some F->F.lv<=Γ.lv/\Nonempty (DefX P w K mg base F.lv g F.ps (BC K ca F.g)))(hgx:GxOk Γ.ox Γ.lv P w K mg base ca)(hex:∀c∈Γ.ex,∃T:ECls K mg c,ca c=.ref T.C/\DI K T.C=some none)(hms:∀g F,Γ.mus.lookup g=some F->F.lv<=Γ.lv/\Nonempty (DefX P w K mg base F.lv g F.ps (EO K ca F.g)))
  (ho:V w.params=fO x qual st d mo t c y) (l:K.lookup a=some (V w.params)) (h:GZ K qual a c Γ f=true):AY P w K mg base ca x qual st d mo t c y Γ f V a :=
 have h:=zlm h
 ⟨hfs,hgx,hex,hms,h,zi1 (l.trans (congrArg some ho)) h.c h.k⟩
theorem BO(hfs:∀g F,Γ.fns.lookup g=some F->F.lv<=Γ.lv/\Nonempty (DefX P w K mg base F.lv g F.ps (BC K ca F.g)))(hgx:GxOk Γ.ox Γ.lv P w K mg base ca)(hex:∀c∈Γ.ex,∃T:ECls K mg c,ca c=.ref T.C/\DI K T.C=some none:=by exact B9)(hms:∀g F,Γ.mus.lookup g=some F->F.lv<=Γ.lv/\Nonempty (DefX P w K mg base F.lv g F.ps (EO K ca F.g)):=by exact LK)
  (ho:V w.params=fO x x st d mo t c y:=by exact rfl) (l:K.lookup a=some (V w.params):=by ext) (h:GZ K x a c Γ f=true:=by ext) (m:Eh K x a=true:=by ext) (hg:f.g=Ac f.ps.length Γ.N.length u:=by rfl)
  (b:Ba K (gF x x st d mo t c y) f.ps []:=by first|exact .all (N1 λ_=>rfl)|exact .all (N0 λ_ _=>rfl)|exact .all (NZ λ_ _ _=>rfl)|exact .all (KO λ_ _ _ _=>rfl)|exact .all (KN λ_ _ _ _ _=>rfl)|exact .all (KL λ_ _ _ _ _ _=>rfl)):AY P w K mg base ca x x st d mo t c y Γ f V a/\Eh K x a=true/\f.g=Ac f.ps.length Γ.N.length u/\Ba K (gF x x st d mo t c y) f.ps []:=⟨Mr hfs hgx hex hms ho l h,m,hg,b⟩
theorem Fg(hfs:∀g F,Γ.fns.lookup g=some F->F.lv<=Γ.lv/\Nonempty (DefX P w K mg base F.lv g F.ps (BC K ca F.g)))(hgx:GxOk Γ.ox Γ.lv P w K mg base ca)(hex:∀c∈Γ.ex,∃T:ECls K mg c,ca c=.ref T.C/\DI K T.C=some none:=by exact B9)(hms:∀g F,Γ.mus.lookup g=some F->F.lv<=Γ.lv/\Nonempty (DefX P w K mg base F.lv g F.ps (EO K ca F.g)):=by exact LK)
  (ho:V w.params=fO x qual st d mo t c y:=by exact rfl) (l:K.lookup a=some (V w.params):=by ext) (h:GZ K qual a c Γ f=true:=by ext) (me:Meth K C x a:=by exact⟨by ext,by ext,by ext⟩) (hg:f.g=Ac f.ps.length Γ.N.length u:=by rfl)
  (b:Ba K (gF x qual st d mo t c y) f.ps []:=by first|exact .all (N1 λ_=>rfl)|exact .all (N0 λ_ _=>rfl)|exact .all (NZ λ_ _ _=>rfl)|exact .all (KO λ_ _ _ _=>rfl)|exact .all (KN λ_ _ _ _ _=>rfl)|exact .all (KL λ_ _ _ _ _ _=>rfl)):AY P w K mg base ca x qual st d mo t c y Γ f V a/\Meth K C x a/\f.g=Ac f.ps.length Γ.N.length u/\Ba K (gF x qual st d mo t c y) f.ps []:=⟨Mr hfs hgx hex hms ho l h,me,hg,b⟩
theorem TJ{z:Str}(hfs:∀g F,Γ.fns.lookup g=some F->F.lv<=Γ.lv/\Nonempty (DefX P w K mg base F.lv g F.ps (BC K ca F.g)))(hgx:GxOk Γ.ox Γ.lv P w K mg base ca)(hex:∀c∈Γ.ex,∃T:ECls K mg c,ca c=.ref T.C/\DI K T.C=some none:=by exact B9)(hms:∀g F,Γ.mus.lookup g=some F->F.lv<=Γ.lv/\Nonempty (DefX P w K mg base F.lv g F.ps (EO K ca F.g)):=by exact LK)
  (ho:V w.params=fO x qual st d mo t c y:=by exact rfl) (l:K.lookup a=some (V w.params):=by ext) (h:GZ K qual a c Γ f=true:=by ext) (m:Eh K z C=true:=by ext) (ma:Mk K C a:=by exact⟨by ext,by ext,by ext,by ext⟩) (hg:f.g=DP C fs f.ps.length Γ.N.length u:=by rfl):AY P w K mg base ca x qual st d mo t c y Γ f V a/\Eh K z C=true/\Mk K C a/\f.g=DP C fs f.ps.length Γ.N.length u:=⟨Mr hfs hgx hex hms ho l h,m,ma,hg⟩
def BN(V:Params->Obj)(a:Addr)(S:Ck Γ f st u)(A:AY P w K mg base ca x x st d mo t c y Γ f V a/\Eh K x a=true/\f.g=Ac f.ps.length Γ.N.length u/\Ba K (gF x x st d mo t c y) f.ps []):DefX P w K mg base f.lv x f.ps (BC K ca f.g) :=
 ⟨a,_,by rw[A.2.2.1,<- A.1.h.l];exact Rh A.1.F S.s rfl S.n A.1.h.e rfl A.1.h.b A.1.fs A.1.ex A.1.ms A.1.h.m A.1.gx S.k,Ow A.2.1,A.1.h.k,A.2.2.2⟩
def Fe(V:Params->Obj)(a:Addr)(S:Ck Γ f st u)(cl:Cls K C)(A:AY P w K mg base ca x qual st d mo t c y Γ f V a/\Meth K C x a/\f.g=Ac f.ps.length Γ.N.length u/\Ba K (gF x qual st d mo t c y) f.ps []):MetX P w K mg base C x f.lv f.ps (BC K ca f.g) :=
 ⟨a,_,cl,A.2.1,by rw[A.2.2.1,<- A.1.h.l];exact Rh A.1.F S.s rfl S.n A.1.h.e rfl A.1.h.b A.1.fs A.1.ex A.1.ms A.1.h.m A.1.gx S.k,A.2.2.2⟩
def Sd(z:Str)(C:Addr)(fs:List Str)(V:Params->Obj)(a:Addr)(S:Ck Γ f st u)(A:AY P w K mg base ca x qual st d mo t c y Γ f V a/\Eh K z C=true/\Mk K C a/\f.g=DP C fs f.ps.length Γ.N.length u):NewX P w K mg base z C f.lv f.ps (Gn K ca C f.g) :=
 ⟨a,gF x qual st d mo t c y,Ow A.2.1,A.2.2.1,by rw[A.2.2.2,<- A.1.h.l];exact zlc A.1.F S.s rfl S.n A.1.h.e rfl A.1.h.b A.1.fs A.1.ex A.1.ms A.1.h.m A.1.gx S.k⟩
end
theorem at0:AV (x::l) 0=some x:=by
 have:AV (x::l) 0=some x:=Jd rfl;exact this
theorem EI:AV (x::y::l) 1=some y:=by
 have:AV (x::y::l) 1=some y:=Jd rfl;exact this
theorem at2:AV (x::y::z::l) 2=some z:=by
 have:AV (x::y::z::l) 2=some z:=Jd rfl;exact this
abbrev fr(a b:Int):T:=.tup [.int a,.int b]
section
variable {b:T->AI->Option AI}{body:AH}{mc:AD}
theorem Ds   (I:Nat->AI->Prop)(h0:I 0 τ)(hs:∀i t τ,ts[i]?=some t->I i τ->∃τ1,b t τ=some τ1/\∃τ2,body τ1=some (.nx τ2)/\I (i+1) τ2):∃τ',By b body ts τ=some (.nx τ')/\I ts.length τ':=by
 have key:∀(l ) (k ) (τ ),ts.drop k=l->k<=ts.length->I k τ->∃τ',By b body l τ=some (.nx τ')/\I ts.length τ':=by
  intro l
  induction l with
  |nil =>
   intro k τ hd hk hI
   have:k=ts.length:=by
    have:=congrArg List.length hd;simp at this
    omega
   subst this;exact⟨τ,rfl,hI⟩
  |cons t l ih =>
   intro k τ hd hk hI
   have hlt:k<ts.length:=by
    grind
   rw[yb9 hlt]at hd;injection hd with h1 h2
   obtain⟨τ1,e1,τ2,e2,hI2⟩:=hs k t τ (by rw[ya0 hlt,h1]) hI
   obtain⟨τ',e3,h3⟩:=ih (k+1) τ2 h2 hlt hI2;exact⟨τ',by unfold By;simp only[e1,e2];exact e3,h3⟩
 grind
theorem HU    (I:Nat->AI->Prop)(f )(h0:I 0 τ)(hs:∀i t τ,ts[i]?=some t->I i τ->∃τ1,b t τ=some τ1/\me τ1=some (.v (f i) false)/\I (i+1) τ1) :
  BM b (mC (.bl true)) me ts τ=some ((List.range ts.length).map f):=by
 have key:∀(l ) (k ) (τ ),ts.drop k=l->k<=ts.length->I k τ->BM b (mC (.bl true)) me l τ=some ((List.range' k l.length).map f):=by
  intro l
  induction l with
  |nil=>intro k τ _ _ _;rfl
  |cons t l ih =>
   intro k τ hd hk hI
   have hlt:k<ts.length:=by
    grind
   rw[yb9 hlt]at hd;injection hd with h1 h2
   obtain⟨τ1,e1,e2,hI2⟩:=hs k t τ (by grind) hI
   have e3:=ih (k+1) τ1 h2 hlt hI2;unfold BM;simp only[e1,mC,e2,e3]
   rfl
 have:=key ts 0 τ rfl (ybf _) h0;rw[this,<- List.range_eq_range']
end
theorem Eo{i j:Int}(h:ED i=true):Cu i j=true:=by unfold Cu;grind
theorem zhi(h1:Bf i=true)(h2:Bf j=true):Cu i j=true:=by unfold Cu;grind
theorem EC(h1:-(2 ^ 64)<i)(h2:i<2 ^ 64):ED i=true:=@decide_eq_true _ (Classical.propDecidable _) ⟨h1,h2⟩
theorem Ce(h1:-(10 ^ 70)<i)(h2:i<10 ^ 70):Bf i=true:=@decide_eq_true _ (Classical.propDecidable _) ⟨h1,h2⟩
theorem fm{i j:Int}(h:0<j):i.fmod j=i % j:=Int.fmod_eq_emod_of_nonneg i (by omega)
theorem fd{i j:Int}(h:0<j):i.fdiv j=i / j:=yc4 i (by omega)
theorem Cj{i j:Int}:B5 (.int i) (.int j)=some (.bl (i == j)):=by
 rfl
theorem LJ{i j:Int}:B0 (.int i) (.int j)=some (.bl (!(i == j))):=by
 rfl
mutual
def C8:PyData->Bool
 |.bool _=>false
 |.dict _=>false
 |.list xs=>En xs
 |.tuple xs=>En xs
 |_=>true
def En:List PyData->Bool
 |[]=>true
 |x::xs=>C8 x && En xs
end
mutual
theorem SQ:∀d d':PyData,C8 d=true->C8 d'=true->(PyData.eqv d d'=true ↔ d=d')
 |.none,d',_,h'=>by cases d'<;>simp[PyData.eqv,C8]at h' ⊢
 |.int i,d',_,h'=>by cases d'<;>simp[PyData.eqv,C8]at h' ⊢
 |.str x,d',_,h'=>by cases d'<;>simp[PyData.eqv,C8]at h' ⊢
 |.bool _,_,h,_=>by simp[C8]at h
 |.dict _,_,h,_=>by simp[C8]at h
 |.list xs,d',h,h'=>by
  cases d' with
  |list ys =>
   have:=MU xs ys (by simpa[C8] using h) (by simpa[C8] using h')
   simp only[PyData.eqv];rw[this];simp
  |_=>simp[PyData.eqv,C8]at h' ⊢
 |.tuple xs,d',h,h'=>by
  cases d' with
  |tuple ys =>
   have:=MU xs ys (by simpa[C8] using h) (by simpa[C8] using h')
   simp only[PyData.eqv];rw[this];simp
  |_=>simp[PyData.eqv,C8]at h' ⊢
theorem MU:∀xs ys:List PyData,En xs=true->En ys=true->(PyData.eqvAll xs ys=true ↔ xs=ys)
 |[],[],_,_=>by simp[PyData.eqvAll]
 |[],_::_,_,_=>by simp[PyData.eqvAll]
 |_::_,[],_,_=>by simp[PyData.eqvAll]
 |x::xs,y::ys,hx,hy=>by
  simp only[En,ya1]at hx hy;have h1:=SQ x y hx.1 hy.1;have h2:=MU xs ys hx.2 hy.2;simp only[PyData.eqvAll,ya1,h1,h2,List.cons.injEq]
end
structure Fit(t:T)(n:Nat):Prop where
 fit:DK t=true
 nb:C8 t.data=true
 dep:t.data.depth<=n
theorem Fit.int(i)(n):Fit (.int i) n:=⟨rfl,rfl,by simp[T.data,PyData.depth]⟩
theorem Fit.non(n:Nat):Fit .non n:=⟨rfl,rfl,by simp[T.data,PyData.depth]⟩
theorem SK:∀{l} {n},(∀t∈l,Fit t n)->(DT l=true/\PyData.canLayAll0 (Az l)=true)/\En (Az l)=true/\PyData.depthAll (Az l)<=n
 |[],n,_=>⟨⟨rfl,rfl⟩,rfl,ybf _⟩
 |t::r,n,h=>by
  obtain⟨h1,h2,h3⟩:=h t (yac ..);obtain⟨⟨g0,g1⟩,g2,g3⟩:=SK λx hx=>h x (ya7 _ hx)
  unfold DK at h1;rw[ya1]at h1;refine⟨⟨by rw[DT,h1.1,g0];rfl,by rw[Az,PyData.canLayAll0,h1.2,g1];rfl⟩,by rw[Az,En,h2,g2];rfl,?_⟩
  rw[Az,PyData.depthAll]
  omega
theorem Fit.nd(h:∀t∈l,Fit t n):Fit (.nd o k l) (n+1):=by
 obtain⟨g1,g2,g3⟩:=SK h;cases k<;>exact⟨by simpa[DK,T.data,T.pln,PyData.canLay0] using g1,by simpa[T.data,C8] using g2,by simpa[T.data,PyData.depth] using g3⟩
theorem Fit.tup{l:List T}{n:Nat}(h:∀t∈l,Fit t n):Fit (.tup l) (n+1):=Fit.nd h
theorem Fit.mono(h:Fit t n)(hm:n<=m):Fit t m:=⟨h.fit,h.nb,yaf h.dep hm⟩
theorem Fit.fr(a b):Fit (Pu.fr a b) 1:=Fit.tup λt ht=>by
 simp only[yak,yb8,ydt]at ht
 rcases ht with rfl|rfl<;>exact Fit.int _ _
open Classical in
theorem SS{t u:T}{n m:Nat}(h:Fit t n)(h':Fit u m)(hn:n<=60):B5 t u=some (.bl (decide (t.data=u.data)))/\B0 t u=some (.bl (!decide (t.data=u.data))):=by
 have ok:Fd t u=true:=by
  unfold Fd;rw[h.fit,h'.fit,ydp (by have:=h.dep;omega)]
  rfl
 have e:He t u=decide (t.data=u.data):=by
  unfold He;rw[Bool.eq_iff_iff,SQ _ _ h.nb h'.nb];simp
 unfold B5 B0;rw[if_pos ok,if_pos ok,e];exact⟨rfl,rfl⟩
theorem Dt(h:Fit t n)(hn:n<=60)(e:t.data=u.data)(h':Fit u n):B5 t u=some (.bl true)/\B0 t u=some (.bl false):=by
 have:=SS h h' hn
 grind
theorem Ij:∀ns:List Int,Af (ns.map T.int)=ns.map T.int
 |[]=>rfl
 |n::r=>by rw[yal,Af,Ij r];rfl
theorem Il:∀ns:List Int,A6 (ns.map T.int)=true
 |[]=>rfl
 |n::r=>by rw[yal,A6,Il r];rfl
theorem Fx(ns):(Au ns).share=Au ns:=by unfold Au;rw[T.share,Ij]
theorem Fy(ns):(Au ns).sh=true:=by unfold Au;rw[T.sh,Il];rfl
theorem CF{x:α}(h0:0<=k)(h:l[k.toNat]?=some x):AV l k=some x:=by
 have :=Jd h
 grind
theorem MY(f:α->β)(l)(lo hi):B7 (l.map f) lo hi=(B7 l lo hi).map f:=by
 unfold B7;simp
end Pu
namespace Zm
end Zm
namespace Db
open PySem
noncomputable def bs(a b:Int):Int:=2 * (a / 2+b / 2)+min (a % 2) (b % 2)
theorem zln(a:Int):bs a 1=a:=by unfold bs;omega
theorem zkg(a:Int):bs 1 a=a:=by unfold bs;omega
theorem zi9(a b:Int):bs a b=bs b a:=by unfold bs;omega
theorem Ql(a b:Int):min (a % 2) (b % 2)=0\/min (a % 2) (b % 2)=1:=by
 grind
theorem Sv(a b:Int):bs a b / 2=a / 2+b / 2:=by
 have h:=Ql a b;unfold bs;generalize a / 2+b / 2=k at *;generalize min (a % 2) (b % 2)=m at *
 omega
theorem Su(a b:Int):bs a b % 2=min (a % 2) (b % 2):=by
 have h:=Ql a b;unfold bs;generalize a / 2+b / 2=k at *;generalize min (a % 2) (b % 2)=m at *
 omega
theorem zfz(a b c):bs (bs a b) c=bs a (bs b c):=by
 show 2 * (bs a b / 2+c / 2)+min (bs a b % 2) (c % 2)=2 * (a / 2+bs b c / 2)+min (a % 2) (bs b c % 2);rw[Sv,Sv,Su,Su,Int.add_assoc,Int.min_assoc]
theorem zi8(h:a<=a')(h':b<=b'):bs a b<=bs a' b':=by unfold bs;omega
abbrev B:=Option Int
def le:B->B->Prop
 |_,none=>True
 |none,some _=>False
 |some a,some b=>a<=b
def BV:B->B->B
 |some a,some b=>some (bs a b)
 |_,_=>none
def mn:B->B->B
 |none,b=>b
 |some a,none=>some a
 |some a,some b=>some (min a b)
theorem le_refl(a:B):le a a:=by cases a<;>simp[le]
theorem le_trans(h:le a b)(h':le b c):le a c:=by
 cases a<;>cases b<;>cases c<;>simp_all [le]
 omega
theorem RF(h:le a b)(h':le b a):a=b:=by
 cases a<;>cases b<;>simp_all [le]
 omega
theorem Jg(h:le a b)(h':le c d):le (BV a c) (BV b d):=by
 cases a<;>cases b<;>cases c<;>cases d<;>simp_all [le,BV]
 exact zi8 h h'
theorem add_comm(a b:B):BV a b=BV b a:=by
 cases a<;>cases b<;>simp[BV,zi9]
theorem add_assoc(a b c):BV (BV a b) c=BV a (BV b c):=by
 cases a<;>cases b<;>cases c<;>simp[BV,zfz]
theorem zie(a:B):BV a (some 1)=a:=by cases a<;>simp[BV,zln]
theorem Pj(a:B):BV (some 1) a=a:=by cases a<;>simp[BV,zkg]
theorem LN(a b:B):le (mn a b) a:=by
 cases a<;>cases b<;>simp[le,mn]
 omega
theorem LM(a b:B):le (mn a b) b:=by
 cases a<;>cases b<;>simp[le,mn]
 omega
theorem le_mn(h:le a b)(h':le a c):le a (mn b c):=by
 cases a<;>cases b<;>cases c<;>simp_all [le,mn]
 omega
theorem Qj{a b:B}(h:le a b):mn a b=a:=RF (LN a b) (le_mn (le_refl a) h)
theorem Qi(a b):mn a b=a\/mn a b=b:=by
 cases a<;>cases b<;>simp[mn]
 omega
abbrev Z:=Nat->Nat->B
def free(i j:Nat):B:=if i=0\/i=j then some 1 else none
def z0(f:Z):Z:=λi j=>mn (f i j) (free i j)
def stp(f:Z)(k:Nat):Z:=λi j=>mn (f i j) (BV (f i k) (f k j))
def fw(f:Z):Nat->Z
 |0=>z0 f
 |k+1=>stp (fw f k) k
def Td(n:Nat)(f:Z):Prop:=∃i,i<n/\¬ le (some 1) (f i i)
def Sound(n:Nat)(f:Z):Prop:=∀k,k<n->¬ Td n (fw f k)
theorem Sb(f)(i):∀k,le (fw f k i i) (some 1)
 |0=>by
  have h:=LM (f i i) (free i i);have e:free i i=some 1:=if_pos (.inr rfl);rw[e]at h;show le (mn (f i i) (free i i)) _
  grind
 |k+1=>le_trans (LN _ _) (Sb f i k)
theorem zfq(h:¬ Td n (fw f k))(hi:i<n):fw f k i i=some 1:=by
 refine RF (Sb f i k) ?_;cases Classical.em (le (some 1) (fw f k i i)) with
 |inl h1=>exact h1
 |inr h1=>exact(h ⟨i,hi,h1⟩).elim
theorem Gh   (h:Sound n f):∀k,k<=n->∀i j l,l<k->i<n->j<n->le (fw f k i j) (BV (fw f k i l) (fw f k l j))
 |0,_,_,_,l,hl,_,_=>by omega
 |k+1,hk,i,j,l,hl,hi,hj=>by
  have kk:=zfq (h k (by omega)) (show k<n by omega)
  have inv:=Gh h k (by omega)
  show le (stp (fw f k) k i j) (BV (stp (fw f k) k i l) (stp (fw f k) k l j));generalize hg:fw f k=g at *
  by_cases e:l=k
  .subst e;have e1:stp g l i l=g i l:=by unfold stp;rw[kk,zie];exact Qj (le_refl _)
   have e2:stp g l l j=g l j:=by unfold stp;rw[kk,Pj];exact Qj (le_refl _)
   rw[e1,e2];exact LM _ _
  .have lk:l<k:=by omega
   have a1:le (stp g k i j) (g i j):=LN _ _;have a2:le (stp g k i j) (BV (g i k) (g k j)):=LM _ _
   rcases Qi (g i l) (BV (g i k) (g k l)) with e1|e1<;>rcases Qi (g l j) (BV (g l k) (g k j)) with e2|e2
   .have:stp g k i l=g i l:=e1;have e2':stp g k l j=g l j:=e2;rw[this,e2'];exact le_trans a1 (inv i j l lk hi hj)
   .have e1':stp g k i l=g i l:=e1;have e2':stp g k l j=BV (g l k) (g k j):=e2;rw[e1',e2',<- add_assoc];exact le_trans a2 (Jg (inv i k l lk hi (by omega)) (le_refl _))
   .have e1':stp g k i l=BV (g i k) (g k l):=e1;have e2':stp g k l j=g l j:=e2;rw[e1',e2',add_assoc];exact le_trans a2 (Jg (le_refl _) (inv k j l lk (by omega) hj))
   .have e1':stp g k i l=BV (g i k) (g k l):=e1;have e2':stp g k l j=BV (g l k) (g k j):=e2;rw[e1',e2',add_assoc,<- add_assoc (g k l)];refine le_trans a2 (Jg (le_refl _) ?_);have:=Jg (inv k k l lk (by omega) (by omega)) (le_refl (g k j))
    rw[kk,Pj]at this;exact this
end Db
namespace Pu
open PySem PySem.Spec PyProof.Rows L2 Zw Zx
def mT(n:Nat)(g:Nat->T):List T:=(List.range n).map g
theorem nl0:((0:Nat):Int)=0:=rfl
theorem nl1:((1:Nat):Int)=1:=rfl
theorem nl2:((2:Nat):Int)=2:=rfl
theorem nl3:((3:Nat):Int)=3:=rfl
theorem nl4:((4:Nat):Int)=4:=rfl
theorem nl5:((5:Nat):Int)=5:=rfl
theorem nl6:((6:Nat):Int)=6:=rfl
theorem nl7:((7:Nat):Int)=7:=rfl
theorem nl8:((8:Nat):Int)=8:=rfl
theorem nl9:((9:Nat):Int)=9:=rfl
theorem zkr{k:Nat}(h:k<=100000):(k<=AW)=True:=eq_true (by unfold AW;omega)
theorem zkq{k:Nat}(h:k<100000):(k<AW)=True:=eq_true (by unfold AW;omega)
section
variable {n:Nat}{g h:Nat->T}
theorem Bv:(mT n g).length=n:=by simp[mT]
theorem Ep{i:Nat}(hi:i<n):(mT n g)[i]?=some (g i):=by simp[mT,hi]
theorem EX(e:(mT n g)[i]?=some t):i<n/\t=g i:=by
 have hi:i<n:=by
  rcases Nat.lt_or_ge i n with q|q
  .exact q
  .rw[yc2 (by rw[Bv];exact q)]at e
   cases e
 rw[Ep hi]at e
 grind
theorem Er(hl:l.length=n)(h:∀i,i<n->l[i]?=some (g i)):l=mT n g:=by
 refine List.ext_getElem? λi=>?_
 rcases Nat.lt_or_ge i n with q|q
 .rw[h i q,Ep q]
 .rw[yc2 (by omega),yc2 (by rw[Bv];exact q)]
theorem zf9(e:∀i,i<n->g i=h i):mT n g=mT n h:=Er Bv λi hi=>by rw[Ep hi,e i hi]
theorem mT_at{k:Int}(h0:0<=k)(h1:k<n):AV (mT n g) k=some (g k.toNat):=CF h0 (Ep (by omega))
theorem zkn(ht:t∈mT n g):∃i,i<n/\t=g i:=by
 obtain⟨i,hi,e⟩:=yap.mp ht
 grind
theorem zcw:Af (mT n g)=mT n λi=>(g i).share:=by
 rw[EA];unfold mT;rw[ybs]
 rfl
theorem Im(e:∀i,(g i).sh=true):A6 (mT n g)=true:=by
 rw[C4,yan];intro t ht;obtain⟨i,-,rfl⟩:=zkn ht;exact e i
theorem zga(xs:Nat->Int):A6 (mT n λi=>.int (xs i))=true:=Im λ_=>rfl
theorem zgb(u w:Nat->Int):A6 (mT n λi=>.nd false .tup [.int (u i),.int (w i)])=true:=Im λ_=>rfl
theorem Qu:mT n g++[g n]=mT (n+1) g:=by
 unfold mT;rw[List.range_succ,ybn]
 rfl
theorem Qt{α:Type}(t:α->T)(xs:Nat->α)(r):mT n (λj=>t (xs j))++[t r]=mT (n+1) λj=>t (if j=n then r else xs j):=by
 rw[<- Qu,if_pos rfl,zf9 (g:=λj=>t (if j=n then r else xs j)) (h:=λj=>t (xs j)) λj hj=>by grind]
theorem zet(lo:Int):Bb lo n=mT n λi=>.int (lo+(i:Int)):=rfl
theorem DQ:Bb 0 n=mT n λi=>.int (i:Int):=by
 rw[zet];simp
theorem mT_of(l)(d):l=mT l.length λi=>l.getD i d:=Er rfl λi hi=>by
 grind
variable {b:T->AI->Option AI}{body:AH}{me:AD}{τ:AI}
theorem Rb(I:Nat->AI->Prop)(h0:I 0 τ)(hs:∀i τ,i<n->I i τ->∃τ1,b (g i) τ=some τ1/\∃τ2,body τ1=some (.nx τ2)/\I (i+1) τ2):∃τ',By b body (mT n g) τ=some (.nx τ')/\I n τ':=by
 have:=Ds I h0 λi t τ e hI=>by
  obtain⟨hi,rfl⟩:=EX e;exact hs i τ hi hI
 rwa[Bv]at this
theorem Eu   {cs:AI}(hs:∀i,i<n->me (some (g i)::cs)=some (.v (f i) false)):BM (AF 0) (mC (.bl true)) me (mT n g) (x::cs)=some (mT n f):=by
 have:=HU (b:=AF 0) (ts:=mT n g) (λ_ τ=>∃y,τ=y::cs) f ⟨x,rfl⟩ λi t τ e hI=>by
  obtain⟨hi,rfl⟩:=EX e;obtain⟨y,rfl⟩:=hI;exact⟨some (g i)::cs,by simp[AF],hs i hi,_,rfl⟩
 rw[this,Bv]
 rfl
theorem Lm{u w f:Nat->T}  {cs:AI}(hs:∀i,i<n->me (some (u i)::some (w i)::cs)=some (.v (f i) false)):BM (DB 2 (B8 (AF 0) (B8 (AF 1) DM))) (mC (.bl true)) me (mT n λi=>.tup [u i,w i]) (x::y::cs)=some (mT n f):=by
 have:=HU (b:=DB 2 (B8 (AF 0) (B8 (AF 1) DM))) (ts:=mT n λi=>.tup [u i,w i]) (λ_ τ=>∃x y,τ=x::y::cs) f ⟨x,y,rfl⟩ λi t τ e hI=>by
  obtain⟨hi,rfl⟩:=EX e;obtain⟨x,y,rfl⟩:=hI;exact⟨some (u i)::some (w i)::cs,by rfl,hs i hi,_,_,rfl⟩
 rw[this,Bv]
 rfl
end
def bT:Db.B->T
 |none=>.non
 |some i=>.int i
theorem zib:bT none=.non:=rfl
theorem zia(i:Int):bT (some i)=.int i:=rfl
theorem bT_sh(b:Db.B):(bT b).sh=true:=by cases b<;>rfl
theorem zg0(b:Db.B):(bT b).share=bT b:=by cases b<;>rfl
theorem G0(p):FD (mT n λi=>.bl (p i))=some ((List.range n).map p):=by
 unfold mT;generalize List.range n=l
 induction l with
 |nil=>rfl
 |cons x r ih=>simp only[yal,FD,ih]
theorem DU{n:Nat}(h:n<=100000):Bg n=true:=@decide_eq_true _ (Classical.propDecidable _) ⟨by omega,by omega⟩
theorem K3:∀ys ,EM (ys.map T.str)=some ys
 |[]=>rfl
 |y::r=>by
  show(match EM (r.map T.str) with|some l=>some (y::l)|none=>none)=_
  rw[K3 r]
theorem A3:∀ys:List Str,Af (ys.map T.str)=ys.map T.str
 |[]=>rfl
 |y::r=>by
  show T.str y::Af (r.map T.str)=_;rw[A3 r]
  rfl
theorem AS:∀ys:List Str,A6 (ys.map T.str)=true
 |[]=>rfl
 |y::r=>by
  show(true && A6 (r.map T.str))=true;rw[AS r]
  rfl
def BQ(ys:List Str):Prop:=∀y∈ys,PyData.strOk y=true
theorem PY:∀ys:List Str,DT (ys.map T.str)=true
 |[]=>rfl
 |y::r=>by
  show(true && DT (r.map T.str))=true;rw[PY r]
  rfl
theorem RH:∀{ys},BQ ys->PyData.canLayAll0 (Az (ys.map T.str))=true/\PyData.depthAll (Az (ys.map T.str))=0
 |[],_=>⟨rfl,rfl⟩
 |y::r,h=>by
  obtain⟨h1,h2⟩:=RH λx hx=>h x (ya7 _ hx)
  have h3:=h y (yac ..);rw[yal,Az,PyData.canLayAll0,PyData.depthAll,h1,h2,T.data,PyData.canLay0,h3,PyData.depth];simp
theorem Hf(hx:PyData.strOk x=true)(hy:PyData.strOk y=true):B5 (.str x) (.str y)=some (.bl (decide (x=y))):=by
 have e:(x == y)=decide (x=y):=by rfl
 unfold B5 Fd DK He;simp only[T.data,T.pln,PyData.canLay0,PyData.depth,PyData.eqv,hx,hy,e];simp
theorem Fit.str(h:PyData.strOk x=true)(n):Fit (.str x) n:=⟨by unfold DK;rw[T.data,PyData.canLay0,h];rfl,rfl,by simp[T.data,PyData.depth]⟩
theorem TR(x):∀ys:List Str,((Az (ys.map T.str)).any λy=>PyData.eqv y (.str x))=decide (x∈ys)
 |[]=>by rfl
 |y::r=>by
  have e:(y == x)=decide (x=y):=by grind
  rw[yal,Az,List.any_cons,TR x r,T.data,PyData.eqv,e,Bool.eq_iff_iff,ybx,yds,yds,yds,yak]
theorem J0     (h:BQ ys)(hx:PyData.strOk x=true):Dp (.str x) (.nd o k (ys.map T.str))=some (.bl (decide (x∈ys))):=by
 have ok:GQ (.str x) (ys.map T.str)=true:=by
  obtain⟨h1,h2⟩:=RH h;unfold GQ DK;rw[PY,h1,h2,T.data,PyData.canLay0,hx]
  rfl
 unfold Dp;simp only;rw[if_pos ok];unfold Ly;rw[T.data,TR]
end Pu
namespace Tx
open PySem PySem.NumText
abbrev cs(x:Str):List Nat:=x.cps.toList
theorem cs_app(x y:Str):cs (x++y)=cs x++cs y:=Array.toList_append
theorem cs_ext{x y:Str}(h:cs x=cs y):x=y:=by
 cases x
 simp_all
theorem cs_len(x:Str):x.length=(cs x).length:=rfl
section
variable {x y:Str}{c:Nat}(hA:∀k,(cs x)[k]?=some c->StrLaws.At x y x.length k)
include hA
end
theorem sl_to(h:a<=(cs x).length):cs (Txt.slice x none (some a))=(cs x).take a:=by
 have e:Txt.slice x none (some a)=StrLaws.sliceText x none (some a):=rfl;rw[e,StrLaws.sliceText_to ⟨ybk a,Int.ofNat_le.mpr h⟩,List.drop_zero,Int.sub_zero,yb2]
end Tx
namespace Hd
open PySem PySem.W PySem.Calls PyProof.Rows
def H9(st:SharedT->Thread->Option (SharedT×Thread))(ok:Thread->Bool):Nat->SharedT->Thread->Option SharedT
 |0=>λ_ _=>none
 |n+1=>λs t=>bif through t then some s else bif ok t then (st s t).elim none λx=>H9 st ok n x.1 x.2 else none
theorem zhz(n):∀(s) (t) (r),
  H9 (stepT (denote tb) p w) (stepOk m ann) n s t=some r->topRun tb p w m ann n s.abs t=some r.abs:=by
 induction n with
 |zero=>intro s t r h;exact nomatch h
 |succ n ih =>
  intro s t r h;rw[H9]at h;dsimp only at h;rw[topRun];cases a:through t with
  |true=>grind
  |false =>
   rw[a]at h;cases b:stepOk m ann t with
   |false=>grind
   |true =>
    rw[b]at h;cases c:stepT (denote tb) p w s t with
    |none=>grind
    |some x=>rw[c]at h;rw[stepT_spec c];grind
noncomputable def Io(p q:Program)(loose:List Str)(Xt:Shared->Bool){α:Type}(Yf:Shared->α)(h:Heap)(s:Shared) :=
 ((staticsOk (importedModules p.main.body) h s.heap && namesBound p s.heap && gensDone s && laidKept h s.heap),openSeen q loose (importedModules p.main.body) Xt true s,Yf s)
theorem zhq{Ya:World->α}{N M m:Nat}{bt:Params->BT}{lf:Params->Life}{st:World->SharedT->Thread->Option (SharedT×Thread)}(hst:∀w,stepT (denote treeTable) p w=st w)(hok:stepOk m ann=ok)
  (e:opening p=plainProg p.main.scope.names) (hN:Nat.ble 600 N=true) (f:∀s,fenceModules? p s=some s) (hM:Nat.ble M N=true)
  (hb:∀P,absHeap (bt P) m (lf P)=boot_heap P) (hs:∀P,(boot_heap P).isNs mainGlobals=true) (hz:∀P,(boot_heap P).objs.size=m) (ha:∀P,(boot_heap P).nsMap mainGlobals "__annotations__"=ann)
  (h:∀(w ) (os ),(H9 (st w) ok M ⟨bt w.params,m,lf w.params,Array.mk [],boot_drawn,boot_toks,os⟩ (topStub p)).map (λs=>Io p q loose Xt Yf (boot_heap w.params) s.abs)=some (true,openGood q loose,Ya w)) :
  LeftO p q loose Xt Yf Ya N true:=λw=>by
 obtain⟨⟨h0,g0,d0,k0,os⟩,hs0,hv⟩:=yad.mp (boot_open e hN f w);simp only[Prod.mk.injEq]at hv;obtain⟨rfl,rfl,rfl,rfl⟩:=hv;obtain⟨T,hT,hx⟩:=yad.mp (h w os);rw[<- hst,<- hok]at hT;have r:=topRun_mono (N - M) _ _ _ _ (zhz _ _ _ _ hT);rw[Nat.add_sub_cancel' (Nat.le_of_ble_eq_true hM)]at r;have hx1:=congrArg Prod.fst hx;have hx2:=congrArg Prod.snd hx;simp only[Io]at hx1 hx2;simp only[SharedT.abs,hb]at r hx1 hx2
 have k:topFrom treeTable p w N ⟨boot_heap w.params,Array.mk [],boot_drawn,boot_toks,os⟩=some T.abs:=by
  simp only[topFrom,hs,hz,ha,r];simp only[Option.bind_some];rw[hx1]
  rfl
 show((fencedOpening treeTable p w N).bind (topFrom treeTable p w N)).map _=_;rw[hs0];show(topFrom treeTable p w N _).map _=_;rw[k];exact congrArg some hx2
def en(P:Params)(x:String)(k:Nat)(v:Value):DictEntry:=⟨PyData.keyHash P (Str.ofString x),.str (Str.ofString x) k,v⟩
def bt(P:Params):BT:=((boot_heap P).objs.toList.foldl (λ(x:BT×Nat) o=>(x.1.ins x.2 o,x.2+1)) (BT.nil,0)).1
theorem bt_ok(P:Params):absHeap (bt P) 11 (boot_heap P).life=boot_heap P:=by ext
theorem zlq(P):(boot_heap P).nsMap mainGlobals "__annotations__"=some (.ref 6):=by ext
theorem ns_ok(P:Params):(boot_heap P).isNs mainGlobals=true:=by ext
theorem sz_ok(P:Params):(boot_heap P).objs.size=11:=by ext
abbrev go(p:Program)(M:Nat)(w:World)(os:OsState):Option SharedT :=
 H9 (Fast.tw10156331382660048174 (Fast.tw11892475500146522536 Fast.tw14364793385576792824) p w) (Fast.tw6613529449190102663 11 (some (.ref 6))) M ⟨bt w.params,11,(boot_heap w.params).life,Array.mk [],boot_drawn,boot_toks,os⟩ (topStub p)
abbrev xt(r:RowW)(q:Program)(s:Shared):Bool:=xlAt q [] s && recOk r.records s
theorem zhr{Ya:World->α}(N M:Nat)
  (e:opening p=plainProg p.main.scope.names) (hN:Nat.ble 600 N=true) (f:∀s,fenceModules? p s=some s) (hM:Nat.ble M N=true)
  (h:∀(w ) (os ),(go p M w os).map (λs=>Io p q loose (xt r q) Yf (boot_heap w.params) s.abs)=some (true,openGood q loose,Ya w)):LeftO p q loose (xt r q) Yf Ya N true :=
 zhq
  (λw=>by rw[Fast.te10156331382660048174,Fast.te11892475500146522536,Fast.te14364793385576792824]) (by rw[Fast.te6613529449190102663]) e hN f hM bt_ok ns_ok sz_ok zlq h
theorem zgg(h:Fast.tw9446332074065402090 l=true):l.wellSaid=true:=(congrFun Fast.te9446332074065402090 l).trans h
end Hd
set_option maxHeartbeats 4200000
namespace Zl
open PySem L2 Zw Zx Pu
noncomputable section
local macro_rules
  |`(tactic| simp![$as,*])=>do let y<-"Ac Ki Hc AG Ae DO GA Aj A8 Kc Ov runM mMut Ed Ag CP ES C6 CJ Dj AA mC AE AB Bj BG m1 m2 A7 Dl Ay Ci BK AU DG DH Cv Dk BL Ah g1 g2 AF DM B8 DB blk Ja GS CB Fb Jf as2 asL Je GO BA Gj C9 Am CD Ei DA Em F7 T.isN T.isB BS CA Jh maxT yc8 Du Bk IS N4 Fs IZ T.share Af T.sh A6 T.flat at0 EI at2 yal List.map_nil yax ycv List.replicate yc6 List.nil_append List.cons_append List.getElem?_cons_zero List.getElem?_cons_succ List.getElem?_nil List.set_cons_zero List.set_cons_succ ybl nl0 nl1 nl2 nl3 nl4 nl5 nl6 nl7 nl8 nl9 Int.reduceBEq Nat.reduceBEq Nat.reduceAdd Nat.reduceSub Nat.reduceLT Nat.reduceLeDiff if_true if_false ite_true ite_false reduceIte Bool.not_true Bool.not_false Bool.and_true Bool.true_and Bool.and_false Bool.false_and Bool.or_true Bool.true_or Bool.or_false Bool.false_or Bool.false_xor Bool.true_xor ybi yd4 decide_true decide_false yak yb8 or_false or_true true_or and_true true_and and_self String.reduceEq String.reduceBEq beq_self_eq_true ne_eq not_false_eq_true not_true_eq_false zkr zkq bT_sh zg0 Bv zcw Int.reduceLT Int.reduceAdd yb2 zga zgb Im implies_true forall_const zib zia Int.reduceEq Int.reduceNe Lw F9 B3 Bi Bp F6 Cr EW Gs HA JN EY EH BP HL HN isXT Iq Kd.isLst".splitOn.mapM (λx=>do`(Lean.Parser.Tactic.simpLemma|$(Lean.mkCIdent (<-Lean.Macro.resolveGlobalName x.toName).head!.1):ident));`(tactic| simp only[$(⟨(Lean.Syntax.SepArray.ofElems (sep:=",") (y.toArray.map (·.raw)++as.elemsAndSeps.getSepElems)).elemsAndSeps⟩),*])
noncomputable def A4(i:Nat):Stmt:=PySem.Challenge.pw_zonewalk_k21_a_machine_told.main.body.getD i (.Pass ⟨0,0,0,0⟩)
def zlj(s:Stmt)(j:Nat):Stmt:=match s with
 |.ClassDef _ _ _ body _ _ _ _ _ _ _=>body.getD j (.Pass ⟨0,0,0,0⟩)
 |_=>.Pass ⟨0,0,0,0⟩
def CK(i j:Nat):Stmt:=zlj (A4 i) j
abbrev Ai:Addr:=149
noncomputable def As:List Str:=["start","end","guard","noughts","sign"]
abbrev Aa:Addr:=203
noncomputable def Ab:List Str:=["watch_names","stays","door_list"]
def JR:T:=(.nd false .rt [(.str "<"),(.str "<="),(.str ">"),(.str ">="),(.str "=")])
def JS:T:=(.nd false .rt [(.str "<"),(.str "<=")])
noncomputable def JT:T:=(.int 7)
def JU:T:=(.int 64)
def JV:T:=(.int 200)
def GY:List (Addr×Bool):=[(149,true),(203,false)]
abbrev Oe:Stmt:=A4 30
def Le:AH :=
 (AG (Aj (m2 (DA λi j=>decide (i<j)) (AA 1) (m1 BS (AA 0))) (A8 (AU (AA 0) (AA 1))) Ag)
 (A8 (mC (.int 0))))
def Cn:List T->Option Ru:=Ac 2 2 Le
abbrev J6:Fn:=⟨1,["_law_script","_law_k"],Cn⟩
abbrev gA(N:List Str)(s:Stmt)(k:Nat)(fs:List (Str×Fn))(bl:List Str)(ow:List Str:=[])(ce:List Str:=[])(ex:List Str:=[])(ox:Gx:=CN):Gm:=⟨N,(BU s).names,ce,k,fs,bl,ex,ow,[],false,[],[],[],ox⟩
abbrev zc1:Gm:=gA ["_law_script","_law_k"] Oe 0 [] ["len"]
theorem zc7:Ck zc1 J6 Oe Le:={}
theorem E3(ns:List Int){k:Int}(h0:0<=k):Cn [Au ns,.int k]=some (.ok (.int (ns.getD k.toNat 0))):=by
 unfold Cn Le
 by_cases h:k<ns.length
 .have e:ns[k.toNat]?=some (ns.getD k.toNat 0):=by
   simp_all
  have ea:AV (ns.map T.int) k=some (.int (ns.getD k.toNat 0)):=CF h0 (by simp_all)
  have el:decide (k<(ns.map T.int).length)=true:=by simpa using h
  simp![Au,Ij,Il,el,ea]
 .have el:decide (k<(ns.map T.int).length)=false:=by simpa using h
  have e:ns.getD k.toNat 0=0:=by
   simp_all
  simp![Au,Ij,Il,el,e]
abbrev O4:Stmt:=A4 31
def KH:AH :=
 (AG (ES 2 (m2 Am (AA 5) (mC (.int 2147483647))))
 (Ae (m2 CD (AA 5) (mC (.int 2147483647))) (AF 5)))
def KG:AH :=
 (AG (Ae (m2 Am (m2 BA (m2 BA (m2 C9 (AA 3) (AA 3)) (m2 C9 (mC (.int 48271)) (AA 3))) (AA 4)) (mC (.int 2147483647))) (AF 3))
 (ES 2 (AA 3)))
def JK:AH :=
 (AG (DO 2 (Cv AE))
 (AG (Aj (m2 (DA λi j=>decide (j<=i)) (AA 0) (m2 Ei (mC (.int 10)) (mC (.int 30)))) (AG (Ae (m2 Gj (AA 0) (m2 Ei (mC (.int 10)) (mC (.int 30)))) (AF 5))
 (AG (CP (CB (AB (AA 1) AE)) (AF 4) KH)
 (A8 (AA 2)))) Ag)
 (AG (Ae (m2 BA (m2 Am (AA 0) (mC (.int 2147483647))) (mC (.int 48271))) (AF 3))
 (AG (CP (CB (AB (m2 BA (AA 1) (mC (.int 2))) AE)) (AF 4) KG)
 (AG (GA 2) (A8 (Bp (DG (AA 2) (some (mC (.int 2))) none) (DV (AA 2) (some (mC (.int 2))) none))))))))
def E6:List T->Option Ru:=Ac 2 6 JK
abbrev MO:Fn:=⟨1,["_law_cell","_law_many"],E6⟩
abbrev zcj:Gm:=gA ["_law_cell","_law_many","_law_found","_law_number","_law_k","_law_rest"] O4 0 [] ["range"] ["_law_found"]
theorem zcq:Ck zcj MO O4 JK:={}
theorem K5(c:Int){m:Nat}(hm:m<=1000):∃xs:Nat->Int,E6 [.int c,.int m]=some (.ok (.own (mT m λi=>.int (xs i)))):=by
 have p30:(0:Int)<=30/\(30:Int)<=1000000/\ED 10=true:=⟨by decide,by decide,EC (by decide) (by decide)⟩
 have s45:Bf 2147483647=true:=Ce (by decide) (by decide)
 have r30:(30:Int).toNat=30:=rfl
 by_cases h:(10:Int) ^ 30<=c
 .have loop:=Rb (b:=AF 4) (body:=KH) (n:=m) (τ:=[some (.int c),some (.int m),some (.own []),none,none,some (.int (c - 10 ^ 30))])
   (λi τ=>∃(xs:Nat->Int) (x:Option T) (r:Int),τ=[some (.int c),some (.int m),some (.own (mT i λi=>.int (xs i))),none,x,some (.int r)])
   ⟨λ_=>0,none,_,rfl⟩ (by
    rintro i τ hi ⟨xs,x,r,rfl⟩;refine⟨_,by simp![];rfl,?_⟩
    have l1:i<100000:=by omega
    refine⟨_,by unfold KH;simp![s45,l1];rfl,λj=>if j=i then r.fmod 2147483647 else xs j,some (.int (i:Int)),r.fdiv 2147483647,?_⟩
    rw[Qt T.int])
  obtain⟨τ',e1,xs,x,r,rfl⟩:=loop;refine⟨xs,?_⟩;have o1 :=DU (by omega)
  unfold E6 JK
  simp![p30,r30,h,o1,DQ,e1]
 .have loop:=Rb (b:=AF 4) (body:=KG) (n:=m+2) (g:=λi=>.int (i:Int)) (τ:=[some (.int c),some (.int m),some (.own []),some (.int (c.fmod 2147483647+48271)),none,none])
   (λi τ=>∃(xs:Nat->Int) (x:Option T) (r:Int),0<=r/\r<4294967296/\τ=[some (.int c),some (.int m),some (.own (mT i λi=>.int (xs i))),some (.int r),x,none])
   ⟨λ_=>0,none,_,by rw[fm (by decide)];omega,by rw[fm (by decide)];omega,rfl⟩ (by
    rintro i τ hi ⟨xs,x,r,r0,r1,rfl⟩;refine⟨_,by simp![];rfl,?_⟩
    have l1:i<100000:=by omega
    have m1 :=zhi (Ce (by omega) (by omega)) (Ce (by omega) (by omega))
    have m2:Cu 48271 r=true:=Eo (EC (by decide) (by decide))
    refine⟨_,by unfold KG;simp![l1,m1,m2];rfl,λj=>if j=i then (r * r+48271 * r+i).fmod 2147483647 else xs j,some (.int (i:Int)),(r * r+48271 * r+i).fmod 2147483647,by rw[fm (by decide)];omega,by rw[fm (by decide)];omega,?_⟩
    rw[Qt T.int])
  obtain⟨τ',e1,xs,x,r,-,-,rfl⟩:=loop;refine⟨λi=>xs (i+2),?_⟩
  have o1:Bg ((m:Int)+2)=true:=DU (n:=m+2) (by omega)
  have o2:((m:Int)+2).toNat=m+2:=by omega
  have ct:B7 (mT (m+2) λi=>.int (xs i)) (some 2) none=mT m λi=>.int (xs (i+2)):=by
   unfold B7;have e2:HT.sIx (mT (m+2) λi=>T.int (xs i)).length 0 (some 2)=2:=by rw[Bv];simp[HT.sIx]
   have e3:HT.sIx (mT (m+2) λi=>T.int (xs i)).length (mT (m+2) λi=>T.int (xs i)).length none=m+2:=by rw[Bv];rfl
   rw[e2,e3];refine Er (by simp[Bv]) λi hi=>?_
   rw[ycb (by omega),yby,Ep (by omega),Nat.add_comm]
  unfold E6 JK
  simp![p30,r30,h,o1,o2,DQ,e1,ct]
abbrev Oa:Stmt:=A4 32
def JL:AH :=
 (AG (Aj (m2 (DA λi j=>decide (j<=i)) (AA 0) (m2 Ei (mC (.int 10)) (mC (.int 30)))) (A8 (Bp (DG (A7 E6 (AB (AA 0) (AB (m2 C9 (AA 2) (m2 BA (AA 1) (mC (.int 1)))) AE))) (some (m2 C9 (AA 2) (AA 1))) none) (DV (A7 E6 (AB (AA 0) (AB (m2 C9 (AA 2) (m2 BA (AA 1) (mC (.int 1)))) AE))) (some (m2 C9 (AA 2) (AA 1))) none))) Ag)
 (A8 (A7 E6 (AB (m2 BA (AA 0) (m2 C9 (mC (.int 7919)) (AA 1))) (AB (AA 2) AE)))))
def G7:List T->Option Ru:=Ac 3 3 JL
abbrev SF:Fn:=⟨2,["_law_cell","_law_k","_law_many"],G7⟩
abbrev zdq:Gm:=gA ["_law_cell","_law_k","_law_many"] Oa 1 [("_law_stream",MO)] []
theorem ze2:Ck zdq SF Oa JL:={}
theorem zlp{x:Str}(h:∀c∈Tx.cs x,c<128):PyData.strOk x=true:=by
 unfold PyData.strOk;rw[<- Array.all_toList,yan];intro c hc;have:=h c hc
 omega
theorem zfr{n a:Nat}{g:Nat->T}:B7 (mT (n+a) g) (some (a:Int)) none=mT n λi=>g (i+a):=by
 unfold B7;have e2:HT.sIx (mT (n+a) g).length 0 (some a)=a:=by rw[Bv];simp[HT.sIx];omega
 have e3:HT.sIx (mT (n+a) g).length (mT (n+a) g).length none=n+a:=by rw[Bv];rfl
 rw[e2,e3];refine Er (by simp[Bv]) λi hi=>?_
 rw[ycb (by omega),yby,Ep (by omega),Nat.add_comm]
theorem zfn(c:Int){k m:Nat}(hm:m * (k+1)<=1000)(hk:k<=1000)(h1:m<=1000):∃xs:Nat->Int,G7 [.int c,.int (k:Int),.int (m:Int)]=some (.ok (.own (mT m λi=>.int (xs i)))):=by
 have p30:(0:Int)<=30/\(30:Int)<=1000000/\ED 10=true:=⟨by decide,by decide,EC (by decide) (by decide)⟩
 have r30:(30:Int).toNat=30:=rfl;have m1:∀x:Int,Cu m x=true:=λx=>Eo (EC (by omega) (by omega))
 by_cases h:(10:Int) ^ 30<=c
 .obtain⟨xs,e⟩:=K5 c hm;have em:m * (k+1)=((m * (k+1):Nat):Int):=by rw[Int.natCast_mul];rfl
  have ek:m * (k:Int)=(m * k:Nat):=by rw[Int.natCast_mul]
  have ct:B7 (mT (m * (k+1)) λi=>.int (xs i)) (some ((m * k:Nat):Int)) none=mT m λi=>.int (xs (i+m * k)):=by
   rw[show m * (k+1)=m+m * k by rw[Nat.mul_add,Nat.mul_one,Nat.add_comm]]
   exact zfr
  refine⟨λi=>xs (i+m * k),?_⟩
  unfold G7 JL
  simp![p30,r30,h,m1,em,ek,e,ct]
 .have m2:Cu 7919 (k:Int)=true:=Eo (EC (by decide) (by decide))
  obtain⟨xs,e⟩:=K5 (c+7919 * (k:Int)) h1;refine⟨xs,?_⟩;unfold G7 JL
  simp![p30,r30,h,m2,e]
abbrev OH:Stmt:=A4 16
def LQ:AH :=
 (A8 (EY EH EH (mC (.str "a")) (AA 0) (mC (.str "z"))))
def Hr:List T->Option Ru:=Ac 1 1 LQ
abbrev MG:Fn:=⟨1,["sign"],Hr⟩
abbrev za4:Gm:=gA ["sign"] OH 0 [] []
theorem za6:Ck za4 MG OH LQ:={}
theorem Nx{c:Nat}(h1:97<=c)(h2:c<=122):Hr [.str ⟨#[c]⟩]=some (.ok (.bl true)):=by
 have a1:((Str.ofString "a").cps.toList)=[97]:=by rfl
 have a2:((Str.ofString "z").cps.toList)=[122]:=by rfl
 have b1:@decide (#[c].toList<(Str.ofString "a").cps.toList) (Classical.propDecidable _)=false:=@decide_eq_false _ (Classical.propDecidable _) (by
  rw[a1];rw[List.cons_lt_cons_iff]
  simp_all)
 have b2:@decide ((Str.ofString "z").cps.toList < #[c].toList) (Classical.propDecidable _)=false:=@decide_eq_false _ (Classical.propDecidable _) (by
  rw[a2];rw[List.cons_lt_cons_iff]
  simp_all)
 unfold Hr LQ
 simp![b1,b2]
abbrev OL:Stmt:=A4 17
def Mb:AD :=
 (A7 Hr (AB (AA 0) AE))
def LU:AH :=
 (A8 (Ci (EY EH EH (mC (.int 1)) (m1 BS (AA 0)) (mC (.int 8))) (m1 Du (BL 1 [] (BP (AA 0)) (AF 0) (mC (.bl true)) Mb))))
def Hs:List T->Option Ru:=Ac 1 1 LU
abbrev MH:Fn:=⟨2,["text"],Hs⟩
abbrev zch:Gm:=gA ["text"] OL 1 [("is_small_letter",MG)] ["len","all"]
theorem zco:Ck zch MH OL LU:={}
def Dv(x:Str):Prop:=∀i,i<x.cps.size->97<=x.cps.getD i 0/\x.cps.getD i 0<=122
theorem Ny(x:Str):Eb x=mT x.cps.size λi=>.str ⟨#[x.cps.getD i 0]⟩:=by
 refine Er (by simp[Eb]) λi hi=>?_
 unfold Eb
 simp_all
theorem Qe{x:Str}(h:Dv x)(h1:1<=x.cps.size)(h8:x.cps.size<=8):Hs [.str x]=some (.ok (.bl true)):=by
 have l1:x.cps.size<=100000:=by omega
 have lc:=Eu (n:=x.cps.size) (me:=Mb) (x:=none) (cs:=[]) (g:=λi=>.str ⟨#[x.cps.getD i 0]⟩) (f:=λ_=>.bl true) λi hi=>by
  unfold Mb
  simp![Nx (h i hi).1 (h i hi).2]
 have e1:decide (1<=(x.length:Int))=true:=ydp (by show 1<=(x.cps.size:Int);omega)
 have e2:decide ((x.length:Int)<=8)=true:=ydp (by show(x.cps.size:Int)<=8;omega)
 have ll:x.length<=AW:=by
  omega
 have ba:((List.range x.cps.size).map λ_=>true).all id=true:=by simp
 unfold Hs LU
 simp![Ny,lc,l1,e1,e2,ll,G0,ba]
abbrev OF:Stmt:=A4 18
def LP:AH :=
 (A8 (Ci (m1 (Bk "str") (AA 0)) (BK (m2 B5 (AA 0) (mC (.str "/"))) (A7 Hs (AB (AA 0) AE)))))
def Hq:List T->Option Ru:=Ac 1 1 LP
abbrev MF:Fn:=⟨3,["thing"],Hq⟩
abbrev zab:Gm:=gA ["thing"] OF 2 [("is_name",MH)] ["isinstance","str"]
theorem zaf:Ck zab MF OF LP:={}
theorem zir{x:Str}(h:Dv x):PyData.strOk x=true:=by
 unfold PyData.strOk;rw[Array.all_eq_true];intro i hi;have:=(h i hi).2;rw[yc3,yba hi]at this;rw[yds]
 omega
def EJ(x:Str):Prop:=x=Str.ofString "/"\/(Dv x/\1<=x.cps.size/\x.cps.size<=8)
theorem K8:PyData.strOk (Str.ofString "/")=true:=by decide +kernel
theorem Fm{x:Str}(h:EJ x):PyData.strOk x=true:=by
 rcases h with rfl|h
 .exact K8
 .exact zir h.1
theorem NR{x:Str}(h:EJ x):Hq [.str x]=some (.ok (.bl true)):=by
 have e:=Hf (Fm h) K8;unfold Hq LP
 by_cases q:x=Str.ofString "/"
 .rw[ydp q]at e
  simp![e]
 .rw[yd9 q]at e;have en:=Qe (h.resolve_left q).1 (h.resolve_left q).2.1 (h.resolve_left q).2.2
  simp![e,en]
abbrev OJ:Stmt:=A4 19
def Jc:AD :=
 (BK (m2 B5 (AA 0) (mC (.str "/"))) (A7 Hr (AB (AA 0) AE)))
def LS:AH :=
 (AG (Aj (BK (Ay (m1 (Bk "str") (AA 0))) (Ay (EY EH EH (mC (.int 1)) (m1 BS (AA 0)) (mC (.int 60))))) (A8 (mC (.bl false))) Ag)
 (A8 (m1 Du (BL 1 [] (BP (AA 0)) (AF 0) (mC (.bl true)) Jc))))
def Jk:List T->Option Ru:=Ac 1 1 LS
abbrev Rk:Fn:=⟨2,["thing"],Jk⟩
abbrev zan:Gm:=gA ["thing"] OJ 1 [("is_small_letter",MG)] ["isinstance","str","len","all"]
theorem zar:Ck zan Rk OJ LS:={}
def Jj(x:Str):Prop:=∀i,i<x.cps.size->x.cps.getD i 0=47\/(97<=x.cps.getD i 0/\x.cps.getD i 0<=122)
theorem Ot{x:Str}(h:Jj x):PyData.strOk x=true:=by
 unfold PyData.strOk;rw[Array.all_eq_true];intro i hi;have:=h i hi;rw[yc3,yba hi]at this;simp only[Option.getD_some]at this
 omega
theorem rn_ok{x:Str}(h:Jj x)(h1:1<=x.cps.size)(h8:x.cps.size<=60):Jk [.str x]=some (.ok (.bl true)):=by
 have l1:x.cps.size<=100000:=by omega
 have lc:=Eu (me:=Jc) (x:=none) (cs:=[]) (g:=λi=>.str ⟨#[x.cps.getD i 0]⟩) (f:=λ_=>.bl true) λi hi=>by
  have o1:PyData.strOk (Str.mk #[x.cps.getD i 0])=true:=Ot λj hj=>by
   have hj':j<1:=hj;have e:j=0:=by omega
   subst e;exact h i hi
  have e:=Hf o1 K8
  by_cases q:x.cps.getD i 0=47
  .have n:Str.mk #[x.cps.getD i 0]=Str.ofString "/":=by
    rw[q];exact Tx.cs_ext (by decide +kernel)
   rw[ydp n]at e;unfold Jc
   simp![e]
  .have n:¬ (Str.mk #[x.cps.getD i 0]=Str.ofString "/"):=λq1=>by
    have e1:(Str.ofString "/").cps=#[47]:=by decide +kernel
    omega
   rw[yd9 n]at e;have hh:=(h i hi).resolve_left q;unfold Jc
   simp![e,Nx hh.1 hh.2]
 have e1:decide ((1:Int)<=x.length)=true:=ydp (by show 1<=(x.cps.size:Int);omega)
 have e2:decide ((x.length:Int)<=60)=true:=ydp (by show(x.cps.size:Int)<=60;omega)
 have ll:x.length<=100000:=l1;have ba:((List.range x.cps.size).map λ_=>true).all id=true:=by simp
 unfold Jk LS
 simp![Ny,lc,l1,e1,e2,ll,G0,ba]
abbrev OE:Stmt:=A4 5
def Qq:AH :=
 (A8 (Ci (m1 (Bk "int") (AA 0)) (Ay (m1 (Bk "bool") (AA 0)))))
def TU:List T->Option Ru:=Ac 1 1 Qq
abbrev Ri:Fn:=⟨1,["thing"],TU⟩
abbrev zbz:Gm:=gA ["thing"] OE 0 [] ["isinstance","int","bool"]
theorem zc5:Ck zbz Ri OE Qq:={}
abbrev OK:Stmt:=A4 10
def Qr:AH :=
 (A8 (Ci (A7 TU (AB (AA 0) AE)) (m2 (DA λi j=>decide (j<=i)) (AA 0) (mC (.int 0)))))
def NB:List T->Option Ru:=Ac 1 1 Qr
abbrev Rl:Fn:=⟨2,["thing"],NB⟩
abbrev zbk:Gm:=gA ["thing"] OK 1 [("is_whole",Ri)] []
theorem zbo:Ck zbk Rl OK Qr:={}
theorem zhf(i:Int):NB [.int i]=some (.ok (.bl (decide (0<=i)))):=by
 rfl
abbrev OM:Stmt:=A4 9
def LV:AH :=
 (AG (Aj (BK (Ay (m1 (Bk "tuple") (AA 0))) (m2 B0 (m1 BS (AA 0)) (mC (.int 3)))) (A8 (mC (.bl false))) Ag)
 (A8 (Ci (m2 Dp (AU (AA 0) (mC (.int 0))) (AA 1)) (Ci (m2 Dp (AU (AA 0) (mC (.int 1))) (AA 2)) (A7 NB (AB (AU (AA 0) (mC (.int 2))) AE))))))
def Jl:List T->Option Ru:=Ac 3 3 LV
abbrev Rm:Fn:=⟨3,["thing","watches","words"],Jl⟩
abbrev zci:Gm:=gA ["thing","watches","words"] OM 2 [("is_number",Rl)] ["isinstance","tuple","len"]
theorem zcp:Ck zci Rm OM LV:={}
def IH:List Str:=["<","<=",">",">=","="]
theorem IG:BQ IH:=by unfold BQ;decide +kernel
abbrev ON:Stmt:=A4 11
def Md:AD :=
 (A7 Jl (AB (AA 0) (AB (AA 1) (AB (AA 2) AE))))
def LW:AH :=
 (A8 (Ci (m1 (Bk "list") (AA 0)) (m1 Du (BL 1 [1,2] (BP (AA 0)) (AF 0) (mC (.bl true)) Md))))
def Ht:List T->Option Ru:=Ac 3 3 LW
abbrev MI:Fn:=⟨4,["thing","watches","words"],Ht⟩
abbrev zc0:Gm:=gA ["thing","watches","words"] ON 3 [("is_look",Rm)] ["isinstance","list","all"] [] ["watches","words"]
theorem zc6:Ck zc0 MI ON LW:={}
abbrev OT:Stmt:=A4 25
def L0:AH :=
 (A8 (m2 B5 (m1 Gf (AA 0)) (m1 BS (AA 0))))
def G3:List T->Option Ru:=Ac 1 1 L0
abbrev J5:Fn:=⟨1,["texts"],G3⟩
abbrev zb6:Gm:=gA ["texts"] OT 0 [] ["len","set"]
theorem zba:Ck zb6 J5 OT L0:={}
theorem Qm{val:Nat->L2.Key}{n:Nat}(h:∀i j,i<n->j<n->val i=val j->i=j):∀k,k<=n->(met val k).length=k/\∀x∈met val k,∃i,i<k/\x=val i
 |0,_=>⟨rfl,λx hx=>by cases hx⟩
 |k+1,hk=>by
  obtain⟨h1,h2⟩:=Qm h k (by omega)
  have hn:val k∉met val k:=λz=>by
   obtain⟨i,hi,e⟩:=h2 _ z;have:=h k i (by omega) (by omega) e
   omega
  have e:met val (k+1)=met val k++[val k]:=by
   conv=>lhs;unfold met
   omega
  rw[e];refine⟨by simp_all,λx hx=>?_⟩
  rcases yb3.mp hx with q|q
  .obtain⟨i,hi,e⟩:=h2 x q;exact⟨i,by omega,e⟩
  .exact⟨k,by omega,yae.mp q⟩
theorem zii{ys:List Str}(h:ys.Nodup):KP ys=ys.length:=by
 refine(Qm (λi j hi hj e=>?_) ys.length (ya6 _)).1
 have e':=Sum.inr.inj e;rw[yaq,yaq,ya0 hi,ya0 hj]at e';exact(ycm h).mp e'
abbrev BF(ws:List Str):T:=.nd false .rl (ws.map T.str)
theorem KQ{k:Kd}(hk:k=.lst\/k=.rl){ys:List Str}(h:ys.Nodup)(hl:ys.length<1000):G3 [.nd false k (ys.map T.str)]=some (.ok (.bl true)):=by
 have e:(ys.length == ys.length)=true:=ydx _;unfold G3 L0
 rcases hk with rfl|rfl<;>simp![Gf,A3,K3,hl,zii h,Cj,e,ya2]
abbrev OP:Stmt:=A4 24
def Me:AD :=
 (A7 Hq (AB (AA 0) AE))
def LX:AH :=
 (AG (Aj (BK (Ay (m1 (Bk "list") (AA 0))) (m2 (DA λi j=>decide (j<i)) (m1 BS (AA 0)) (mC JT))) (C6 "BadMachine" (AB (mC (.str "a machine's watches are a list of at most seven")) AE)) Ag)
 (Aj (BK (Ay (m1 Du (BL 1 [] (BP (AA 0)) (AF 0) (mC (.bl true)) Me))) (Ay (A7 G3 (AB (AA 0) AE)))) (C6 "BadMachine" (AB (mC (.str "a machine's watches are unlike names")) AE)) Ag))
def Jm:List T->Option Ru:=Ac 1 1 LX
abbrev Rn:Fn:=⟨4,["watches"],Jm⟩
abbrev za8:Gx:={ CN with co:=[("MOST_WATCHES",JT)] }
abbrev zac:Gm:=gA ["watches"] OP 3 [("is_watch_name",MF),("are_unlike",J5)] ["isinstance","list","len","all"] (ex:=["BadMachine"]) (ox:=za8)
theorem zag:Ck zac Rn OP LX:={}
theorem Ia(ws:List Str):ws.map T.str=mT ws.length λi=>.str (ws.getD i Str.empty):=Er (by simp_all) λi hi=>by
 simp_all
theorem cw_ok{ws:List Str}(h:∀x∈ws,EJ x)(hd:ws.Nodup)(hl:ws.length<=7):Jm [BF ws]=some (.ok .non):=by
 have lc:=Eu (n:=ws.length) (me:=Me) (x:=none) (cs:=[]) (g:=λi=>.str (ws.getD i Str.empty)) (f:=λ_=>.bl true) λi hi=>by
  have hm:ws.getD i Str.empty∈ws:=by
   simp_all
  unfold Me
  simp![NR (h _ hm)]
 rw[<- Ia]at lc;have l1:ws.length<=100000:=by omega
 have e1:decide (7<(ws.length:Int))=false:=yd9 (by omega)
 have ba:((List.range ws.length).map λ_=>true).all id=true:=by simp
 have un:=KQ (.inr rfl) hd (by omega)
 unfold Jm LX JT
 simp![A3,AS,ya2,lc,l1,e1,G0,ba,un]
abbrev OQ:Stmt:=A4 26
def KA:AH :=
 (AG (Aj (BK (Ay (m1 (Bk "tuple") (AA 2))) (m2 B0 (m1 BS (AA 2)) (mC (.int 2)))) (C6 "BadMachine" (AB (mC (.str "a room is a tuple of a name and a stay")) AE)) Ag)
 (Aj (BK (Ay (A7 Jk (AB (AU (AA 2) (mC (.int 0))) AE))) (Ay (A7 Ht (AB (AU (AA 2) (mC (.int 1))) (AB (AA 1) (AB (mC JS) AE)))))) (C6 "BadMachine" (AB (mC (.str "a room has a name, and a stay of the machine's watches")) AE)) Ag))
def Mf:AD :=
 (AU (AA 0) (mC (.int 0)))
def LY:AH :=
 (AG (Aj (BK (Ay (m1 (Bk "list") (AA 0))) (m2 B5 (m1 BS (AA 0)) (mC (.int 0)))) (C6 "BadMachine" (AB (mC (.str "a machine's rooms are a list of one or more")) AE)) Ag)
 (AG (CP (BP (AA 0)) (AF 2) KA)
 (Aj (Ay (A7 G3 (AB (BL 1 [] (BP (AA 0)) (AF 0) (mC (.bl true)) Mf) AE))) (C6 "BadMachine" (AB (mC (.str "no two rooms have one name")) AE)) Ag)))
def Jn:List T->Option Ru:=Ac 2 3 LY
abbrev Ro:Fn:=⟨5,["rooms","watches"],Jn⟩
abbrev zav:Gx:={ CN with co:=[("STAY_WORDS",JS)] }
abbrev zax:Gm:=gA ["rooms","watches","room"] OQ 4 [("is_room_name",Rk),("is_guard",MI),("are_unlike",J5)] ["isinstance","list","len","tuple"] (ex:=["BadMachine"]) (ox:=zav)
theorem zb0:Ck zax Ro OQ LY:={}
def Dg(ws wd:List Str)(l:List T):Prop:=∀t∈l,∃x y n,t=.tup [.str x,.str y,.int n]/\x∈ws/\y∈wd/\0<=n
theorem Dg.sh{ws wd:List Str}{l:List T}(h:Dg ws wd l):A6 l=true:=by
 rw[C4,yan];intro t ht;obtain⟨x,y,n,rfl,_⟩:=h t ht
 rfl
theorem Dg.more{ws vs wd:List Str}{l:List T}(h:Dg ws wd l)(hs:∀x∈ws,x∈vs):Dg vs wd l:=λt ht=>by
 obtain⟨x,y,n,e,h1,h2,h3⟩:=h t ht;exact⟨x,y,n,e,hs x h1,h2,h3⟩
abbrev HV(wd:List Str):T:=.nd false .rt (wd.map T.str)
theorem zho{ws wd:List Str}(h:BQ ws)(hd:BQ wd){t:T}(ht:∃x y n,t=.tup [.str x,.str y,.int n]/\x∈ws/\y∈wd/\0<=n):Jl [t,BF ws,HV wd]=some (.ok (.bl true)):=by
 obtain⟨x,y,n,rfl,h1,h2,h3⟩:=ht;have e1:=J0 (o:=false) (k:=.rl) h (h x h1);have e2:=J0 (o:=false) (k:=.rt) hd (hd y h2);have e3:=zhf n;rw[ydp h1]at e1;rw[ydp h2]at e2;rw[ydp h3]at e3;unfold Jl LV
 simp![LJ,A3,AS,e1,e2,e3]
theorem R5{k:Kd}(hkd:k=.lst\/k=.rl){ws wd:List Str}(h:BQ ws)(hd:BQ wd){l:List T}(hl:l.length<=1000)(hk:Dg ws wd l):Ht [.nd false k l,BF ws,HV wd]=some (.ok (.bl true)):=by
 have hs:=hk.sh;have es:=AQ l hs;have em:=mT_of l .non
 have sg:∀i,(l.getD i .non).sh=true:=λi=>by
  by_cases hi:i<l.length
  .rw[yaq,ya0 hi];rw[C4,yan]at hs;exact hs _ (yar hi)
  .rw[yaq,yc2 (by omega)]
   rfl
 have lc:=Eu (me:=Md) (x:=none) (cs:=[some (BF ws),some (HV wd)]) (g:=λi=>l.getD i .non) (f:=λ_=>.bl true) λi hi=>by
  have hm:l.getD i .non∈l:=by
   rw[yaq,ya0 hi];exact yar hi
  have e:=zho h hd (hk _ hm);unfold Md
  simp![A3,AS,e,Ii _ (sg i),sg i]
 rw[<- em]at lc;have l1:l.length<=100000:=by omega
 have ba:((List.range l.length).map λ_=>true).all id=true:=by simp
 unfold Ht LW
 rcases hkd with rfl|rfl<;>simp![A3,AS,hs,es,l1,lc,G0,ba]
def Gk:List Str:=["<","<="]
theorem zl1:JS=HV Gk:=rfl
theorem k_wds:JR=HV IH:=rfl
theorem Ic:BQ Gk:=by unfold BQ;decide +kernel
structure RsOk(ws:List Str)(rs:List (Str×List T)):Prop where
 l1:1<=rs.length
 l64:rs.length<=64
 nm:∀r∈rs,Jj r.1/\1<=r.1.cps.size/\r.1.cps.size<=60
 nd:(rs.map (·.1)).Nodup
 lk:∀r∈rs,Dg ws Gk r.2/\r.2.length<=1000
abbrev Bo(r:Str×List T):T:=.tup [.str r.1,.lst r.2]
abbrev Ar(rs:List (Str×List T)):T:=.lst (rs.map Bo)
theorem GC{ws:List Str}{rs:List (Str×List T)}(h:RsOk ws rs):A6 (rs.map Bo)=true:=by
 rw[C4,yan];intro t ht;obtain⟨r,hr,rfl⟩:=yap.mp ht;have:=(h.lk r hr).1.sh;show((!false) && (true && (((!false) && A6 r.2) && true)))=true
 omega
abbrev C7(r:Str×List T):T:=.tup [.str r.1,.nd false .rl r.2]
abbrev Cs(rs:List (Str×List T)):T:=.nd false .rl (rs.map C7)
theorem Kl{ws:List Str}{rs:List (Str×List T)}(h:RsOk ws rs):A6 (rs.map C7)=true:=by
 rw[C4,yan];intro t ht;obtain⟨r,hr,rfl⟩:=yap.mp ht;have:=(h.lk r hr).1.sh;show((!false) && (true && (((!false) && A6 r.2) && true)))=true
 omega
theorem zi5{ws:List Str}(hw:BQ ws){rs:List (Str×List T)}(h:RsOk ws rs):Jn [Cs rs,BF ws]=some (.ok .non):=by
 have sr:=Kl h;have er:=AQ _ sr;have hl1:=h.l1;have hl2:=h.l64;have en:(((rs.map C7).length:Int) == 0)=false:=by rw[ye3,ya2];omega
 obtain⟨τ,e,y,rfl⟩:=Ds (b:=AF 2) (body:=KA) (ts:=rs.map C7) (τ:=[some (Cs rs),some (BF ws),none]) (λi τ=>∃y,τ=[some (Cs rs),some (BF ws),y]) ⟨_,rfl⟩ λi t τ h1 h2=>by
  obtain⟨y,rfl⟩:=h2;obtain⟨r,hr,rfl⟩:=yap.mp (ybb h1);obtain⟨n1,n2,n3⟩:=h.nm r hr;obtain⟨k1,k2⟩:=h.lk r hr;have e1:=rn_ok n1 n2 n3;have e2:=R5 (.inr rfl) hw Ic k2 k1;have e3:=k1.sh;refine⟨[some (Cs rs),some (BF ws),some (C7 r)],by simp![],[some (Cs rs),some (BF ws),some (C7 r)],?_,_,rfl⟩
  unfold KA
  simp![zl1,LJ,A3,AS,e1,e2,e3,AQ _ e3]
 have lc:=HU (b:=AF 0) (me:=Mf) (ts:=rs.map C7) (λ_ τ=>∃y,τ=[y]) (λi=>.str ((rs.map (·.1)).getD i Str.empty)) ⟨none,rfl⟩ λi t τ h1 h2=>by
  obtain⟨y,rfl⟩:=h2;have hi :=by simpa using (ya3.mp h1).1
  rw[ya9,ya0 hi]at h1;have et :=(yao h1).symm;subst et;have k1:=(h.lk rs[i] (yar hi)).1.sh;have eg:(rs.map (·.1)).getD i Str.empty=rs[i].1:=by simp[hi]
  refine⟨[some (C7 rs[i])],by simp![],?_,_,rfl⟩
  rw[eg];unfold Mf
  simp![k1]
 have em:(List.range (rs.map C7).length).map (λi=>T.str ((rs.map (·.1)).getD i Str.empty))=(rs.map (·.1)).map T.str:=by
  rw[Ia (rs.map (·.1)),ya2,ya2]
  rfl
 rw[em]at lc;have un:=KQ (.inl rfl) h.nd (by rw[ya2];omega)
 have ll:(rs.map C7).length<=100000:=by rw[ya2];omega
 unfold Jn LY
 simp![Cj,A3,AS,sr,er,en,e,lc,un,ll]
abbrev OU:Stmt:=A4 28
def Mh:AD :=
 (A7 Hq (AB (AA 0) AE))
def Mg:AD :=
 (m2 Dp (AA 0) (AA 1))
def L1:AH :=
 (AG (Aj (BK (Ay (m1 (Bk "list") (AA 0))) (Ay (m1 Du (BL 1 [] (BP (AA 0)) (AF 0) (mC (.bl true)) Mh)))) (A8 (mC (.bl false))) Ag)
 (A8 (Ci (A7 G3 (AB (AA 0) AE)) (m1 Du (BL 1 [1] (BP (AA 0)) (AF 0) (mC (.bl true)) Mg)))))
def Jp:List T->Option Ru:=Ac 2 2 L1
abbrev Rv:Fn:=⟨4,["thing","watches"],Jp⟩
abbrev zaz:Gm:=gA ["thing","watches"] OU 3 [("is_watch_name",MF),("are_unlike",J5)] ["isinstance","list","all"] [] ["watches"]
theorem zb2:Ck zaz Rv OU L1:={}
theorem zkh{ws ns:List Str}(hw:∀x∈ws,EJ x)(hn:∀x∈ns,x∈ws)(hd:ns.Nodup)(hl:ns.length<=100):Jp [.lst (ns.map T.str),BF ws]=some (.ok (.bl true)):=by
 have tw :=λx hx=>Fm (hw x hx)
 have mem:∀i,i<ns.length->ns.getD i Str.empty∈ns:=λi hi=>by
  simp_all
 have lc:=Eu (n:=ns.length) (me:=Mh) (x:=none) (cs:=[]) (g:=λi=>.str (ns.getD i Str.empty)) (f:=λ_=>.bl true) λi hi=>by
  unfold Mh
  simp![NR (hw _ (hn _ (mem i hi)))]
 have Lm:=Eu (me:=Mg) (x:=none) (cs:=[some (BF ws)]) (g:=λi=>.str (ns.getD i Str.empty)) (f:=λ_=>.bl true) λi hi=>by
  have e:=J0 (o:=false) (k:=.rl) tw (tw _ (hn _ (mem i hi)));rw[ydp (hn _ (mem i hi))]at e;unfold Mg
  simp![A3,AS,e]
 rw[<- Ia]at lc Lm;have l1:ns.length<=100000:=by omega
 have ba:((List.range ns.length).map λ_=>true).all id=true:=by simp
 have un:=KQ (.inl rfl) hd (by omega)
 unfold Jp L1
 simp![A3,AS,ya2,lc,Lm,l1,G0,ba,un]
abbrev OI:Stmt:=A4 20
def JI:AH :=
 (AG (Aj (Ay (m1 (Bk "str") (AA 0))) (A8 (mC (.bl false))) Ag)
 (A8 (BK (m2 B5 (AA 0) (mC (.str ""))) (Ci (m2 Dp (AU (AA 0) (m1 Em (mC (.int 1)))) (Dk (AB (mC (.str "!")) (AB (mC (.str "?")) AE)))) (A7 Hs (AB (Bp (DG (AA 0) none (some (m1 Em (mC (.int 1))))) (DV (AA 0) none (some (m1 Em (mC (.int 1)))))) AE))))))
def G2:List T->Option Ru:=Ac 1 1 JI
abbrev Rj:Fn:=⟨3,["thing"],G2⟩
abbrev zcg:Gm:=gA ["thing"] OI 2 [("is_name",MH)] ["isinstance","str"]
theorem zcn:Ck zcg Rj OI JI:={}
def FG(z:Str):Prop:=z=Str.ofString ""\/∃(y:Str) (c:Nat),Dv y/\1<=y.cps.size/\y.cps.size<=8/\(c=33\/c=63)/\Tx.cs z=Tx.cs y++[c]
theorem zis{y:Str}(h:Dv y):∀c∈Tx.cs y,97<=c/\c<=122:=λc hc=>by
 obtain⟨i,hi⟩:=List.getElem?_of_mem hc;have hl :=by simpa using (ya3.mp hi).1
 have:=h i hl
 simp_all
theorem zgd{z:Str}(h:FG z):∀c∈Tx.cs z,c<128/\c≠32/\c≠10/\c≠58:=λc hc=>by
 rcases h with rfl|⟨y,d,h1,_,_,hd,e⟩
 .cases hc
 .rw[e]at hc
  rcases yb3.mp hc with hc|hc
  .have:=zis h1 c hc
   omega
  .rw[yae.mp hc]
   omega
theorem K9{z:Str}(h:FG z):PyData.strOk z=true:=zlp λc hc=>(zgd h c hc).1
theorem ziu{z:Str}(h:FG z):G2 [.str z]=some (.ok (.bl true)):=by
 have o0:PyData.strOk (Str.ofString "")=true:=by decide +kernel
 have tl:∀c,(c=33\/c=63)->Dp (.str (Str.mk #[c])) (.tup [.str (Str.ofString "!"),.str (Str.ofString "?")])=some (.bl true):=λc hc=>by
  rcases hc with rfl|rfl<;>ext
 have key:∀z y:Str,PyData.strOk z=true->z≠Str.ofString ""->z.length<=100000->∀c,(c=33\/c=63)->AV z.cps.toList (-1)=some c->Txt.slice z none (some (-1))=y->Dv y->1<=y.cps.size->y.cps.size<=8->G2 [.str z]=some (.ok (.bl true)):=by
  intro z y hz hne hl c hc ha hs h1 h2 h3;have e:=Hf hz o0;rw[yd9 hne]at e;have en:=Qe h1 h2 h3;unfold G2 JI
  simp![e,hl,ha,tl c hc,DV,hs,en,show(-(1:Int))=-1 from rfl]
 rcases id h with rfl|⟨y,c,h1,h2,h3,hc,e⟩
 .have e:=Hf o0 o0;rw[ydp rfl]at e;unfold G2 JI
  simp![e]
 .have hl:(Tx.cs z).length=(Tx.cs y).length+1:=by rw[e,yau];rfl
  have h3':(Tx.cs y).length<=8:=h3;refine key z y (K9 h) (λq=>?_) (by rw[Tx.cs_len];omega) c hc ?_ ?_ h1 h2 h3
  .rw[q,show Tx.cs (Str.ofString "")=[] by decide +kernel]at hl
   exact absurd hl (by rw[ycv];omega)
  .show AV (Tx.cs z) (-1)=some c;rw[e];unfold AV CZ;rw[yau,ybm,if_neg (by decide),if_pos (by omega)]
   show(Tx.cs y++[c])[((-1:Int)+((Tx.cs y).length+1:Nat)).toNat]?=some c;rw[show((-1:Int)+((Tx.cs y).length+1:Nat)).toNat=(Tx.cs y).length by omega,yaz (ya6 _),yd8]
   rfl
  .have e2:Txt.slice z none (some (-1))=StrLaws.sliceText z none (some (-1)):=rfl;rw[e2,StrLaws.sliceText_neg_hi z none (by decide) (by rw[Tx.cs_len,hl];omega)]
   have e3:(-1+z.length)=((Tx.cs y).length:Int):=by rw[Tx.cs_len,hl];omega
   rw[e3];refine Tx.cs_ext ?_;show Tx.cs (Txt.slice z none (some (((Tx.cs y).length:Nat):Int)))=Tx.cs y;rw[Tx.sl_to (by omega),e,List.take_left' rfl]
abbrev OA:Stmt:=A4 21
def LO:AH :=
 (A8 (Dl (m1 (Bk "list") (AA 0)) (m1 CA (AA 0)) (AA 0)))
def Ho:List T->Option Ru:=Ac 1 1 LO
abbrev Rf:Fn:=⟨1,["thing"],Ho⟩
abbrev zby:Gm:=gA ["thing"] OA 0 [] ["isinstance","list"]
theorem zc4:Ck zby Rf OA LO:={}
theorem Pn{k:Kd}(hk:k=.lst\/k=.rl)(l:List T)(h:A6 l=true):Ho [.nd false k l]=some (.ok (.own l)):=by
 unfold Ho LO
 rcases hk with rfl|rfl<;>simp![h,AQ _ h]
abbrev OS:Stmt:=A4 27
def KC:AH :=
 (AG (Aj (Ay (m1 (F8 GY) (AA 3))) (C6 "BadMachine" (AB (mC (.str "a machine's doors are doors")) AE)) Ag)
 (AG (Aj (BK (m2 FY (B3 Ai As 0 (AA 3)) (AA 1)) (m2 FY (B3 Ai As 1 (AA 3)) (AA 1))) (C6 "BadMachine" (AB (mC (.str "a door leads from one room of the machine to another")) AE)) Ag)
 (AG (Aj (Ay (A7 Ht (AB (B3 Ai As 2 (AA 3)) (AB (AA 2) (AB (mC JR) AE))))) (C6 "BadMachine" (AB (mC (.str "a door's guard is one of the machine's watches")) AE)) Ag)
 (Aj (BK (Ay (A7 Jp (AB (B3 Ai As 3 (AA 3)) (AB (AA 2) AE)))) (Ay (A7 G2 (AB (B3 Ai As 4 (AA 3)) AE)))) (C6 "BadMachine" (AB (mC (.str "a door sets watches of the machine, each once, and has at most one sign")) AE)) Ag))))
def LZ:AH :=
 (AG (Aj (Ay (m1 (Bk "list") (AA 0))) (C6 "BadMachine" (AB (mC (.str "a machine's doors are a list")) AE)) Ag)
 (CP (BP (AA 0)) (AF 3) KC))
def Jo:List T->Option Ru:=Ac 3 4 LZ
abbrev Rt:Fn:=⟨5,["doors","names","watches"],Jo⟩
abbrev zaw:Gx:={ CN with co:=[("WORDS",JR)],cl:=[("Door",Ai,As)],ci:=[("Door",GY)] }
abbrev zay:Gm:=gA ["doors","names","watches","door"] OS 4 [("is_guard",MI),("are_noughts",Rv),("is_sign",Rj)] ["isinstance","list"] (ex:=["BadMachine"]) (ox:=zaw)
theorem zb1:Ck zay Rt OS LZ:={}
structure Dr where
 s:Str
 e:Str
 g:List T
 n:List Str
 z:Str
abbrev AO(d:Dr):T:=.obj (.ins Ai As) [.str d.s,.str d.e,.lst d.g,.lst (d.n.map T.str),.str d.z]
structure DrOk(ws ns:List Str)(d:Dr):Prop where
 s:d.s∈ns
 e:d.e∈ns
 g:Dg ws IH d.g
 gl:d.g.length<=1000
 n:∀x∈d.n,x∈ws
 nd:d.n.Nodup
 nl:d.n.length<=100
 z:FG d.z
theorem DrOk.more{ws vs ns:List Str}{d:Dr}(h:DrOk ws ns d)(hs:∀x∈ws,x∈vs):DrOk vs ns d:=⟨h.s,h.e,h.g.more hs,h.gl,λx hx=>hs x (h.n x hx),h.nd,h.nl,h.z⟩
theorem MX{ws ns:List Str}{d:Dr}(h:DrOk ws ns d):(AO d).sh=true:=by
 have:=h.g.sh
 simp![this,AS]
theorem Q7{ys:List Str}{x:Str}{o:Bool}{k:Kd}(h:BQ ys)(hx:PyData.strOk x=true):FY (.str x) (.nd o k (ys.map T.str))=some (.bl (!decide (x∈ys))):=by
 have e:=J0 (o:=o) (k:=k) h hx;unfold Dp at e;unfold FY
 omega
theorem zi6{ws ns:List Str}(hw:∀x∈ws,EJ x)(hn:BQ ns){ds:List Dr}(h:∀d∈ds,DrOk ws ns d):Jo [.nd false .rl (ds.map AO),.lst (ns.map T.str),BF ws]=some (.ok .non):=by
 have tw :=λx hx=>Fm (hw x hx)
 have sd:A6 (ds.map AO)=true:=by
  rw[C4,yan];intro t ht;obtain⟨d,hd,rfl⟩:=yap.mp ht;exact MX (h d hd)
 have ed:=AQ _ sd
 obtain⟨τ,e,y,rfl⟩:=Ds (b:=AF 3) (body:=KC) (ts:=ds.map AO) (τ:=[some (.nd false .rl (ds.map AO)),some (.lst (ns.map T.str)),some (BF ws),none]) (λi τ=>∃y,τ=[some (.nd false .rl (ds.map AO)),some (.lst (ns.map T.str)),some (BF ws),y]) ⟨_,rfl⟩ λi t τ h1 h2=>by
  obtain⟨y,rfl⟩:=h2;obtain⟨d,hd,rfl⟩:=yap.mp (ybb h1);have k:=h d hd;have e1:=Q7 (o:=false) (k:=.lst) hn (hn _ k.s);have e2:=Q7 (o:=false) (k:=.lst) hn (hn _ k.e);rw[ydp k.s]at e1;rw[ydp k.e]at e2;have e3:=R5 (.inl rfl) tw IG k.gl k.g;have e4:=zkh hw k.n k.nd k.nl;have e5:=ziu k.z;have e6:=k.g.sh;have ci:List.lookup Ai GY=some true:=rfl;refine⟨[some (.nd false .rl (ds.map AO)),some (.lst (ns.map T.str)),some (BF ws),some (AO d)],by simp![],[some (.nd false .rl (ds.map AO)),some (.lst (ns.map T.str)),some (BF ws),some (AO d)],?_,_,rfl⟩
  unfold KC
  simp![k_wds,F8,ci,A3,AS,e1,e2,e3,e4,e5,e6,AQ _ e6]
 unfold Jo LZ
 simp![A3,AS,sd,ed,e]
abbrev Og:Stmt:=CK 22 0
def Lg:AH :=
 (AG (Cr Ai As 0 0 (AA 1))
 (AG (Cr Ai As 1 0 (AA 2))
 (AG (Cr Ai As 2 0 (A7 Ho (AB (AA 3) AE)))
 (AG (Cr Ai As 3 0 (A7 Ho (AB (AA 4) AE)))
 (Cr Ai As 4 0 (AA 5))))))
def Hy:List T->Option Ru:=DP Ai As 6 6 Lg
abbrev MR:Fn:=⟨2,["self","start","end","guard","noughts","sign"],Hy⟩
abbrev zbi:Gx:={ CN with sf:=some (Ai,As) }
abbrev zbm:Gm:=gA ["self","start","end","guard","noughts","sign"] Og 1 [("own_copy",Rf)] [] (ox:=zbi)
theorem zbq:Ck zbm MR Og Lg:={}
theorem di_ok{ws ns:List Str}{d:Dr}(h:DrOk ws ns d):Hy [.str d.s,.str d.e,.nd false .rl d.g,BF d.n,.str d.z]=some (.ok (AO d)):=by
 have hg:=h.g.sh;have e1:=Pn (.inr rfl) d.g hg;have e2:=Pn (.inr rfl) (d.n.map T.str) (AS _);refine Ol λp=>?_
 unfold Ef Lg
 simp![e1,e2,hg,AQ _ hg,A3,AS]
abbrev OZ:Stmt:=CK 23 0
def Mi:AD :=
 (AA 0)
def KD:AH :=
 (Gs Aa Ab 1 0 (AA 4) (m1 CA (AA 5)))
def L6:AH :=
 (AG (Ed (A7 Jm (AB (AA 1) AE)))
 (AG (Ed (A7 Jn (AB (AA 2) (AB (AA 1) AE))))
 (AG (Ed (A7 Jo (AB (AA 3) (AB (BL 2 [] (BP (AA 2)) (DB 2 (B8 (AF 0) (B8 (AF 1) DM))) (mC (.bl true)) Mi) (AB (AA 1) AE)))))
 (AG (Aj (BK (m2 (DA λi j=>decide (j<i)) (m1 BS (AA 2)) (mC JU)) (m2 (DA λi j=>decide (j<i)) (m1 BS (AA 3)) (mC JV))) (C6 "TooMany" (AB (mC (.str "a machine has at most 64 rooms and at most 200 doors")) AE)) Ag)
 (AG (Cr Aa Ab 0 0 (m1 CA (AA 1)))
 (AG (Cr Aa Ab 1 0 JN)
 (AG (CP (BP (AA 2)) (DB 2 (B8 (AF 4) (B8 (AF 5) DM))) KD)
 (Cr Aa Ab 2 0 (m1 CA (AA 3))))))))))
def Js:List T->Option Ru:=DP Aa Ab 4 6 L6
abbrev MM:Fn:=⟨6,["self","watches","rooms","doors"],Js⟩
abbrev zam:Gx:={ CN with co:=[("MOST_ROOMS",JU),("MOST_DOORS",JV)],sf:=some (Aa,Ab) }
abbrev zap:Gm:=gA ["self","watches","rooms","doors","name","stay"] OZ 5 [("check_watches",Rn),("check_rooms",Ro),("check_doors",Rt)] ["len","list"] (ex:=["TooMany"]) (ox:=zam)
theorem zat:Ck zap MM OZ L6:={}
structure Mc where
 ws:List Str
 rs:List (Str×List T)
 ds:List Dr
abbrev BI(M:Mc):T:=.obj (.ins Aa Ab) [.lst (M.ws.map T.str),.obj (.sdc (M.rs.map (·.1))) (M.rs.map λr=>.lst r.2),.lst (M.ds.map AO)]
structure McOk(M:Mc):Prop where
 w:∀x∈M.ws,EJ x
 wd:M.ws.Nodup
 wl:M.ws.length<=7
 r:RsOk M.ws M.rs
 d:∀d∈M.ds,DrOk M.ws (M.rs.map (·.1)) d
 dl:M.ds.length<=200
theorem McOk.tw{M:Mc}(h:McOk M):BQ M.ws:=λx hx=>Fm (h.w x hx)
theorem McOk.tn{M:Mc}(h:McOk M):BQ (M.rs.map (·.1)):=λx hx=>by
 obtain⟨r,hr,rfl⟩:=yap.mp hx;exact Ot (h.r.nm r hr).1
theorem McOk.sd{M:Mc}(h:McOk M):A6 (M.ds.map AO)=true:=by
 rw[C4,yan];intro t ht;obtain⟨d,hd,rfl⟩:=yap.mp ht;exact MX (h.d d hd)
theorem McOk.ss{M:Mc}(h:McOk M):A6 (M.rs.map λr=>T.lst r.2)=true:=by
 rw[C4,yan];intro t ht;obtain⟨r,hr,rfl⟩:=yap.mp ht;show((!false) && A6 r.2)=true;rw[(h.r.lk r hr).1.sh]
 rfl
theorem McOk.sh{M:Mc}(h:McOk M):(BI M).sh=true:=by
 simp![AS,h.ss,h.sd]
theorem zhk{M:Mc}(h:McOk M):Js [BF M.ws,Cs M.rs,.nd false .rl (M.ds.map AO)]=some (.ok (BI M)):=by
 have cw:=cw_ok h.w h.wd h.wl;have cr:=zi5 h.tw h.r;have cd:=zi6 h.w h.tn h.d;have sr:=Kl h.r;have er:=AQ _ sr;have sd:=h.sd;have ed:=AQ _ sd;have h1:=h.r.l1;have h64:=h.r.l64;have h200:=h.dl
 have lc:=HU (b:=DB 2 (B8 (AF 0) (B8 (AF 1) DM))) (me:=Mi) (ts:=M.rs.map C7) (λ_ τ=>∃x y,τ=[x,y]) (λi=>.str ((M.rs.map (·.1)).getD i Str.empty)) ⟨none,none,rfl⟩ λi t τ h1 h2=>by
  obtain⟨x,y,rfl⟩:=h2;have hi:i<M.rs.length:=by simpa using (ya3.mp h1).1
  rw[ya9,ya0 hi]at h1;have et :=(yao h1).symm;subst et;have eg:(M.rs.map (·.1)).getD i Str.empty=M.rs[i].1:=by simp[hi]
  refine⟨[some (.str M.rs[i].1),some (.nd false .rl M.rs[i].2)],by simp![],?_,_,_,rfl⟩
  rw[eg];unfold Mi
  simp![]
 have em:(List.range (M.rs.map C7).length).map (λi=>T.str ((M.rs.map (·.1)).getD i Str.empty))=(M.rs.map (·.1)).map T.str:=by
  rw[Ia (M.rs.map (·.1)),ya2,ya2]
  rfl
 rw[em]at lc;have ll:(M.rs.map C7).length<=100000:=by rw[ya2];omega
 have g1:decide ((64:Int)<((M.rs.map C7).length:Int))=false:=yd9 (by rw[ya2];omega)
 have g2:decide ((200:Int)<((M.ds.map AO).length:Int))=false:=yd9 (by rw[ya2];omega)
 refine Ol λp=>?_
 obtain⟨τ,e,x,y,rfl⟩:=Ds (b:=DB 2 (B8 (AF 4) (B8 (AF 5) DM))) (body:=KD) (ts:=M.rs.map C7) (τ:=[some (.oob p Aa Ab [.own (M.ws.map T.str),.osd [] []]),some (BF M.ws),some (Cs M.rs),some (.nd false .rl (M.ds.map AO)),none,none])
  (λi τ=>∃x y,τ=[some (.oob p Aa Ab [.own (M.ws.map T.str),.osd ((M.rs.take i).map (·.1)) ((M.rs.take i).map λr=>.lst r.2)]),some (BF M.ws),some (Cs M.rs),some (.nd false .rl (M.ds.map AO)),x,y]) ⟨none,none,by rw[List.take_zero];rfl⟩ λi t τ h1 h2=>by
  obtain⟨x,y,rfl⟩:=h2;have hi:i<M.rs.length:=by simpa using (ya3.mp h1).1
  rw[ya9,ya0 hi]at h1;have et :=(yao h1).symm;subst et;have k1:=(h.r.lk _ (yar hi)).1.sh
  have hno:M.rs[i].1∉(M.rs.take i).map (·.1):=λhm=>by
   rw[List.map_take]at hm;obtain⟨j,hj,ej⟩:=List.mem_iff_getElem.mp hm;rw[yb4,ya2]at hj;have hnd:=h.r.nd;rw[List.getElem_take]at ej;have e2:(M.rs.map (·.1))[j]'(by rw[ya2];omega)=(M.rs.map (·.1))[i]'(by rw[ya2];exact hi):=by rw[ej,List.getElem_map]
   have:=(ycm hnd).mp e2
   omega
  have hlen:((M.rs.take i).map (·.1)).length<100000:=by
   rw[ya2,yb4]
   omega
  have et2:M.rs.take (i+1)=M.rs.take i++[M.rs[i]]:=by rw[List.take_append_getElem]
  refine⟨[some (.oob p Aa Ab [.own (M.ws.map T.str),.osd ((M.rs.take i).map (·.1)) ((M.rs.take i).map λr=>.lst r.2)]),some (BF M.ws),some (Cs M.rs),some (.nd false .rl (M.ds.map AO)),some (.str M.rs[i].1),some (.nd false .rl M.rs[i].2)],by simp![],[some (.oob p Aa Ab [.own (M.ws.map T.str),.osd ((M.rs.take (i+1)).map (·.1)) ((M.rs.take (i+1)).map λr=>.lst r.2)]),some (BF M.ws),some (Cs M.rs),some (.nd false .rl (M.ds.map AO)),some (.str M.rs[i].1),some (.nd false .rl M.rs[i].2)],?_,_,_,rfl⟩
  rw[et2,ybn,ybn];unfold KD
  simp![k1,AQ _ k1,hno,hlen]
 rw[ya2,yco]at e;have es:=AQ _ h.ss;unfold Ef L6 JU JV
 simp![A3,AS,cw,cr,cd,sr,er,sd,ed,lc,ll,g1,g2,e,es]
theorem FP{α:Type}{f:α->T}{L:List α}(h:∀x∈L,(f x).sh=true):A6 (L.map f)=true:=by
 rw[C4,yan];intro t ht;obtain⟨x,hx,rfl⟩:=yap.mp ht;exact h x hx
theorem sq{f g:AH}{τ τ':AI}{r:Option Out}(h:f τ=some (.nx τ'))(h2:g τ'=r):AG f g τ=r:=by
 unfold AG;rw[h];exact h2
theorem NO{α β:Type}(f:α->T)(g:β->T):∀(a:List α) (b:List β),Fl (a.map f) (b.map g)=(a.zip b).map λx=>T.tup [f x.1,g x.2]
 |[],b=>by rfl
 |x::a,[]=>rfl
 |x::a,y::b=>by
  rw[yal,yal,ybj,yal,<- NO f g a b]
  rfl
def Mc.nm(M:Mc):List Str:=M.rs.map (·.1)
theorem JG{α:Type}(l:List α)(hl:l≠[])(i:Int):∃x∈l,AV l (i.fmod (l.length:Int))=some x:=by
 have hp:0<l.length:=List.length_pos_iff.mpr hl;have h0:=ybz i (show(0:Int)<(l.length:Int) by omega)
 have h1:=Int.fmod_lt_of_pos i (show(0:Int)<(l.length:Int) by omega)
 have h2:(i.fmod (l.length:Int)).toNat<l.length:=by omega
 exact⟨l[(i.fmod (l.length:Int)).toNat],yar h2,CF h0 (ya0 h2)⟩
theorem E4{α:Type}(f:α->T){l:List α}{i:Int}{x:α}(h:AV l i=some x):AV (l.map f) i=some (f x):=by
 unfold AV at h ⊢;rw[ya2];cases hi:CZ l.length i with
 |none=>rw[hi]at h;cases h
 |some j =>
  rw[hi]at h;have h':l[j]?=some x:=h;show(l.map f)[j]?=some (f x);rw[ya9,h']
  rfl
theorem Ll{α:Type}{l:List α}(h:l≠[]):((l.length:Nat):Int)≠0:=λz=>h (List.length_eq_zero_iff.mp (Int.ofNat.inj z))
theorem em_ok:PyData.strOk (Str.ofString "")=true:=by decide +kernel
theorem sqn{f g:AH}{τ:AI}{r:Option Out}(h:f τ=some (.nx τ))(h2:g τ=r):AG f g τ=r:=sq h h2
theorem sr{f g:AH}{τ:AI}{t:T}(h:f τ=some (.rt t)):AG f g τ=some (.rt t):=by
 unfold AG;rw[h]
abbrev OV:Stmt:=CK 23 1
def L3:AH :=
 (A8 (Bp (m1 CA (B3 Aa Ab 0 (AA 0))) (Es (B3 Aa Ab 0 (AA 0)))))
def Hu:List T->Option Ru:=Ac 1 1 L3
abbrev MJ:Fn:=⟨1,["self"],Hu⟩
abbrev za3:Gx:={ CN with cl:=[("Machine",Aa,Ab)] }
abbrev za5:Gm:=gA ["self"] OV 0 [] ["list"] (ox:=za3)
theorem za7:Ck za5 MJ OV L3:={}
theorem Qf{M:Mc}(h:McOk M):Hu [BI M]=some (.ok (.own (M.ws.map T.str))):=by
 unfold Hu L3
 simp![A3,AS,h.ss,h.sd,AQ _ h.ss,AQ _ h.sd]
abbrev OY:Stmt:=CK 23 2
def Qs:AH :=
 (A8 (Bp (m1 CA (B3 Aa Ab 1 (AA 0))) (Es (B3 Aa Ab 1 (AA 0)))))
def Jr:List T->Option Ru:=Ac 1 1 Qs
abbrev ML:Fn:=⟨1,["self"],Jr⟩
abbrev za9:Gx:={ CN with cl:=[("Machine",Aa,Ab)] }
abbrev zad:Gm:=gA ["self"] OY 0 [] ["list"] (ox:=za9)
theorem zah:Ck zad ML OY Qs:={}
theorem Qh{M:Mc}(h:McOk M):Jr [BI M]=some (.ok (.own ((M.rs.map (·.1)).map T.str))):=by
 rfl
abbrev O0:Stmt:=CK 23 3
def L7:AH :=
 (A8 (Bp (m1 CA (B3 Aa Ab 2 (AA 0))) (Es (B3 Aa Ab 2 (AA 0)))))
def G5:List T->Option Ru:=Ac 1 1 L7
abbrev MN:Fn:=⟨1,["self"],G5⟩
abbrev zaa:Gx:={ CN with cl:=[("Machine",Aa,Ab)] }
abbrev zae:Gm:=gA ["self"] O0 0 [] ["list"] (ox:=zaa)
theorem zai:Ck zae MN O0 L7:={}
theorem Qo{M:Mc}(h:McOk M):G5 [BI M]=some (.ok (.own (M.ds.map AO))):=by
 unfold G5 L7
 simp![A3,AS,h.ss,h.sd,AQ _ h.ss,AQ _ h.sd]
abbrev OX:Stmt:=CK 23 4
def L5:AH :=
 (A8 (m1 CA (HM (B3 Aa Ab 1 (AA 0)) (AA 1))))
def G4:List T->Option Ru:=Ac 2 2 L5
abbrev MK:Fn:=⟨1,["self","room"],G4⟩
abbrev zal:Gx:={ CN with cl:=[("Machine",Aa,Ab)] }
abbrev zao:Gm:=gA ["self","room"] OX 0 [] ["list"] (ox:=zal)
theorem zas:Ck zao MK OX L5:={}
theorem RY{ws:List Str}(hd:ws.Nodup){i:Nat}(hi:i<ws.length):DJ ws ws[i]=some i:=by
 unfold DJ;rw[yb0];refine⟨hi,@decide_eq_true _ (Classical.propDecidable _) rfl,λj hj q=>?_⟩
 have:=@of_decide_eq_true _ (Classical.propDecidable _) q;have:=(ycm hd).mp this
 omega
theorem Qg{M:Mc}(h:McOk M){i:Nat}(hi:i<M.rs.length):G4 [BI M,.str M.rs[i].1]=some (.ok (.own M.rs[i].2)):=by
 have e:=RY h.r.nd (i:=i) (by simp_all)
 rw[List.getElem_map]at e;have e2:(M.rs.map λr=>T.lst r.2)[i]?=some (.lst M.rs[i].2):=by simp_all
 have k:=(h.r.lk _ (yar hi)).1.sh;unfold G4 L5
 simp![HM,A3,AS,h.ss,h.sd,AQ _ h.ss,AQ _ h.sd,e,e2,k,AQ _ k]
abbrev OW:Stmt:=CK 23 5
def L4:AH :=
 (A8 (m2 BA (HL (B3 Aa Ab 0 (AA 0)) (AA 1)) (mC (.int 1))))
def Jq:List T->Option Ru:=Ac 2 2 L4
abbrev Rw:Fn:=⟨1,["self","name"],Jq⟩
abbrev za0:Gx:={ CN with cl:=[("Machine",Aa,Ab)] }
abbrev za1:Gm:=gA ["self","name"] OW 0 [] [] (ox:=za0)
theorem za2:Ck za1 Rw OW L4:={}
theorem zhj{M:Mc}(h:McOk M){x:Str}{j:Nat}(e:DJ M.ws x=some j):Jq [BI M,.str x]=some (.ok (.int ((j:Int)+1))):=by
 have l1:M.ws.length<1000000:=by have:=h.wl;omega
 unfold Jq L4
 simp![A3,AS,K3,h.ss,h.sd,AQ _ h.ss,AQ _ h.sd,e,l1]
abbrev Oh:Stmt:=CK 22 1
def Lh:AH :=
 (A8 (Bp (m1 CA (B3 Ai As 2 (AA 0))) (Es (B3 Ai As 2 (AA 0)))))
def Hz:List T->Option Ru:=Ac 1 1 Lh
abbrev MS:Fn:=⟨1,["self"],Hz⟩
abbrev zbj:Gx:={ CN with cl:=[("Door",Ai,As)] }
abbrev zbn:Gm:=gA ["self"] Oh 0 [] ["list"] (ox:=zbj)
theorem zbr:Ck zbn MS Oh Lh:={}
theorem Sh{d:Dr}(h:A6 d.g=true):Hz [AO d]=some (.ok (.own d.g)):=by
 unfold Hz Lh
 simp![A3,AS,h,AQ _ h]
abbrev Of:Stmt:=CK 22 2
def Lf:AH :=
 (A8 (Bp (m1 CA (B3 Ai As 3 (AA 0))) (Es (B3 Ai As 3 (AA 0)))))
def G8:List T->Option Ru:=Ac 1 1 Lf
abbrev MQ:Fn:=⟨1,["self"],G8⟩
abbrev zbh:Gx:={ CN with cl:=[("Door",Ai,As)] }
abbrev zbl:Gm:=gA ["self"] Of 0 [] ["list"] (ox:=zbh)
theorem zbp:Ck zbl MQ Of Lf:={}
theorem S6{d:Dr}(h:A6 d.g=true):G8 [AO d]=some (.ok (.own (d.n.map T.str))):=by
 unfold G8 Lf
 simp![A3,AS,h,AQ _ h]
abbrev O8:Stmt:=A4 33
def IJ:AH :=
 (AG (Ae (m2 BA (m2 CD (AA 0) (mC (.int 6720))) (m2 C9 (AA 8) (m2 BA (mC (.int 1)) (m2 Am (AA 0) (mC (.int 25)))))) (AF 9))
 (AG (Aj (m2 B5 (AA 8) (AA 4)) (Ae (m2 BA (AA 9) (m2 Am (AA 6) (mC (.int 26)))) (AF 9)) Ag)
 (AG (Aj (m2 B5 (AA 8) (m2 Am (m2 BA (AA 4) (mC (.int 1))) (AA 3))) (Ae (m2 BA (AA 9) (m2 CD (AA 6) (mC (.int 26)))) (AF 9)) Ag)
 (Ae (m2 BA (AA 7) (AU (AA 2) (m2 Am (AA 9) (mC (.int 26))))) (AF 7)))))
def IK:AH :=
 (AG (Ae (mC (.str "")) (AF 7))
 (AG (CP (CB (AB (AA 3) AE)) (AF 8) IJ)
 (ES 5 (AA 7))))
def Lb:AH :=
 (AG (Ae (mC (.str "abcdefghijklmnopqrstuvwxyz")) (AF 2))
 (AG (Ae (m2 BA (mC (.int 2)) (m2 Am (AA 0) (mC (.int 7)))) (AF 3))
 (AG (Ae (m2 Am (m2 Am (m2 CD (AA 0) (mC (.int 7))) (mC (.int 840))) (AA 3)) (AF 4))
 (AG (DO 5 (Cv AE))
 (AG (CP (CB (AB (AA 1) AE)) (AF 6) IK)
 (A8 (AA 5)))))))
def Hw:List T->Option Ru:=Ac 2 10 Lb
abbrev SE:Fn:=⟨1,["_law_cell","_law_many"],Hw⟩
abbrev zdo:Gm:=gA ["_law_cell","_law_many","_law_letters","_law_size","_law_at","_law_names_here","_law_k","_law_name","_law_j","_law_sign"] O8 0 [] ["range"] ["_law_names_here"]
theorem ze0:Ck zdo SE O8 Lb:={}
theorem K7{f g:AH}{τ τ':AI}(h:f τ=some (.nx τ')):AG f g τ=g τ':=by
 unfold AG;rw[h]
abbrev Bu(w:List Nat):Str:=⟨w.toArray⟩
structure Nms(f:Nat->Str):Prop where
 sm:∀k,Dv (f k)
 l2:∀k,2<=(f k).cps.size/\(f k).cps.size<=8
 un:∀j k,j<72->k<72->f j=f k->j=k
abbrev BJ(c:Int):Int:=2+c.fmod 7
abbrev Br(c:Int):Int:=((c.fdiv 7).fmod 840).fmod (BJ c)
def Fz(c:Int)(j:Nat):Int:=c.fdiv 6720+(j:Int) * (1+c.fmod 25)
def Gq(c:Int)(k j:Nat):Int:=if ((j:Int) == Br c)=true then Fz c j+(k:Int).fmod 26 else Fz c j
def EB(c:Int)(k j:Nat):Int:=if ((j:Int) == (Br c+1).fmod (BJ c))=true then Gq c k j+(k:Int).fdiv 26 else Gq c k j
def Cq(c:Int)(k j:Nat):Nat:=97+((EB c k j).fmod 26).toNat
def Bh(c:Int):Nat:=(BJ c).toNat
def BZ(c:Int)(k n:Nat):List Nat:=(List.range n).map (Cq c k)
theorem HE(c:Int):2<=Bh c/\Bh c<=8/\BJ c=(Bh c:Int):=by
 unfold Bh BJ;rw[fm (by decide)]
 omega
theorem Gp(c:Int)(k j:Nat):0<=(EB c k j).fmod 26/\(EB c k j).fmod 26<26:=by
 rw[fm (j:=26) (by decide)]
 omega
theorem abc:(Str.ofString "abcdefghijklmnopqrstuvwxyz").cps.toList=(List.range 26).map (97 + ·):=by decide +kernel
theorem zlr{i:Int}(h0:0<=i)(h1:i<26):AV (Str.ofString "abcdefghijklmnopqrstuvwxyz").cps.toList i=some (97+i.toNat):=by
 rw[abc];refine CF h0 ?_;rw[ya9,ybt (by omega)]
 rfl
theorem zif:(Str.ofString "abcdefghijklmnopqrstuvwxyz").length<=100000:=by decide +kernel
theorem zhh(c:Int)(k n:Nat):Bu (BZ c k n)++⟨#[Cq c k n]⟩=Bu (BZ c k (n+1)):=by
 show Str.mk (((List.range n).map (Cq c k)).toArray++#[Cq c k n])=Str.mk ((List.range (n+1)).map (Cq c k)).toArray;rw[List.range_succ,ybn];simp
theorem Qd(c:Int)(k n:Nat):(Bu (BZ c k n)).length=n:=by
 show((List.range n).map (Cq c k)).toArray.size=n;simp
abbrev nT(c:Int)(o:Option T)(k:Nat)(n:T)(j:Option T)(x9:Option T):AI:=[some (.int c),some (.int 72),some (.str "abcdefghijklmnopqrstuvwxyz"),some (.int (BJ c)),some (.int (Br c)),o,some (.int k),some n,j,x9]
theorem w7_ok{c:Int}{k i:Nat}(hi:i<8)(hk:k<72){o x9:Option T}:IJ (nT c o k (.str (Bu (BZ c k i))) (some (.int i)) x9)=some (.nx (nT c o k (.str (Bu (BZ c k (i+1)))) (some (.int i)) (some (.int (EB c k i))))):=by
 have m1:Cu (i:Int) (1+c.fmod 25)=true:=Eo (EC (by omega) (by omega))
 have t1:Bf 6720=true:=Ce (by decide) (by decide)
 have t2:Bf 26=true:=Ce (by decide) (by decide)
 have ea:AV (Str.ofString "abcdefghijklmnopqrstuvwxyz").cps.toList ((EB c k i).fmod 26)=some (Cq c k i):=zlr (Gp c k i).1 (Gp c k i).2
 have el:(Bu (BZ c k i)).length+(Str.mk #[Cq c k i]).length<=100000:=by
  rw[Qd];show i+1<=100000
  omega
 have h0:(BJ c≠0)=True:=eq_true (by have:=HE c;omega)
 have h0':(BJ c=0)=False:=eq_false (by have:=HE c;omega)
 have ep:=zhh c k i;unfold IJ;rw[K7 (τ':=nT c o k (.str (Bu (BZ c k i))) (some (.int i)) (some (.int (Fz c i)))) (by unfold Fz;simp![m1,t1])]
 rw[K7 (τ':=nT c o k (.str (Bu (BZ c k i))) (some (.int i)) (some (.int (Gq c k i)))) (by
  unfold Gq;cases hb:((i:Int) == Br c)
  .simp![Cj,hb]
  .simp![Cj,hb])]
 rw[K7 (τ':=nT c o k (.str (Bu (BZ c k i))) (some (.int i)) (some (.int (EB c k i)))) (by
  unfold EB;cases hb:((i:Int) == (Br c+1).fmod (BJ c))
  .simp![Cj,hb,h0,h0']
  .simp![Cj,hb,t2,h0,h0'])]
 generalize Bu (BZ c k i)=A at *
 simp![ea,zif,el,ep]
theorem w5_ok{c:Int}{k:Nat}(hk:k<72){l:List T}(hl:l.length<1000){x7 x8 x9:Option T}:∃y8 y9,IK [some (.int c),some (.int 72),some (.str "abcdefghijklmnopqrstuvwxyz"),some (.int (BJ c)),some (.int (Br c)),some (.own l),some (.int k),x7,x8,x9]=some (.nx (nT c (some (.own (l++[.str (Bu (BZ c k (Bh c)))]))) k (.str (Bu (BZ c k (Bh c)))) y8 y9)):=by
 obtain⟨n1,n8,ne⟩:=HE c
 obtain⟨τ,e,z8,z9,rfl⟩:=Ds (b:=AF 8) (body:=IJ) (ts:=mT (Bh c) λi=>.int (i:Int)) (τ:=nT c (some (.own l)) k (.str "") x8 x9)
  (λi τ=>∃x8 x9,τ=nT c (some (.own l)) k (.str (Bu (BZ c k i))) x8 x9) ⟨x8,x9,by rfl⟩ λi t τ h1 h2=>by
   obtain⟨hi,rfl⟩:=EX h1;obtain⟨x8,x9,rfl⟩:=h2;exact⟨_,by simp![],_,w7_ok (by omega) hk (x9:=x9),_,_,rfl⟩
 rw[Bv]at e;have ok:Bg (BJ c)=true:=@decide_eq_true _ (Classical.propDecidable _) ⟨by omega,by omega⟩
 have er:Bb 0 (BJ c).toNat=mT (Bh c) λi=>.int (i:Int):=DQ
 have ll:l.length<100000:=by omega
 unfold IK;refine⟨z8,z9,?_⟩
 simp![ok,er,e,ll]
theorem zf6(c:Int):Hw [.int c,.int 72]=some (.ok (.own (mT 72 λk=>.str (Bu (BZ c k (Bh c)))))):=by
 obtain⟨n1,n8,ne⟩:=HE c
 obtain⟨τ,e,z6,z7,z8,z9,rfl⟩:=Ds (b:=AF 6) (body:=IK) (ts:=mT 72 λi=>.int (i:Int)) (τ:=[some (.int c),some (.int 72),some (.str "abcdefghijklmnopqrstuvwxyz"),some (.int (BJ c)),some (.int (Br c)),some (.own []),none,none,none,none])
  (λi τ=>∃x6 x7 x8 x9,τ=[some (.int c),some (.int 72),some (.str "abcdefghijklmnopqrstuvwxyz"),some (.int (BJ c)),some (.int (Br c)),some (.own (mT i λk=>.str (Bu (BZ c k (Bh c))))),x6,x7,x8,x9]) ⟨_,_,_,_,by rfl⟩ λi t τ h1 h2=>by
   obtain⟨hi,rfl⟩:=EX h1;obtain⟨x6,x7,x8,x9,rfl⟩:=h2;obtain⟨y8,y9,ew⟩:=w5_ok (c:=c) (k:=i) (by omega) (l:=mT i λk=>.str (Bu (BZ c k (Bh c)))) (by rw[Bv];omega) (x7:=x7) (x8:=x8) (x9:=x9)
   rw[Qu (g:=λk=>.str (Bu (BZ c k (Bh c))))]at ew
   exact⟨_,by simp![],_,ew,_,_,_,_,rfl⟩
 rw[Bv]at e;have ok:Bg 72=true:=@decide_eq_true _ (Classical.propDecidable _) ⟨by decide,by decide⟩
 have er:Bb 0 (72:Int).toNat=mT 72 λi=>.int (i:Int):=DQ
 have h0:(BJ c≠0)=True:=eq_true (by omega)
 have h0':(BJ c=0)=False:=eq_false (by omega)
 have t1:Bf 7=true:=Ce (by decide) (by decide)
 unfold Hw Lb
 simp![ok,er,e,h0,h0',t1]
theorem zkk(c:Int):Nms λk=>Bu (BZ c k (Bh c)):=by
 obtain⟨n1,n8,ne⟩:=HE c;refine⟨λk s hs=>?_,λk=>?_,λj k hj hk h=>?_⟩
 .have hs':s<Bh c:=by simpa[BZ] using hs
  have e:(Bu (BZ c k (Bh c))).cps.getD s 0=Cq c k s:=by
   show((List.range (Bh c)).map (Cq c k)).toArray.getD s 0=_;rw[yc3,List.getElem?_toArray,ya9,ybt hs']
   rfl
  rw[e];have:=Gp c k s;unfold Cq
  omega
 .have:(Bu (BZ c k (Bh c))).cps.size=Bh c:=Qd c k (Bh c);rw[this];exact⟨n1,n8⟩
 .have ha:0<=Br c/\Br c<BJ c:=by
   unfold Br;rw[fm (j:=BJ c) (by omega)]
   exact⟨Int.emod_nonneg _ (by omega),Int.emod_lt_of_pos _ (by omega)⟩
  have hb:0<=(Br c+1).fmod (BJ c)/\(Br c+1).fmod (BJ c)<BJ c/\(Br c+1).fmod (BJ c)≠Br c:=by
   rw[fm (j:=BJ c) (by omega)]
   refine⟨Int.emod_nonneg _ (by omega),Int.emod_lt_of_pos _ (by omega),λz=>?_⟩
   by_cases h1:Br c+1<BJ c
   .rw[Int.emod_eq_of_lt (by omega) h1]at z
    omega
   .have:Br c+1=BJ c:=by omega
    rw[this,Int.emod_self]at z
    omega
  have e:∀a:Nat,a<Bh c->(EB c j a).fmod 26=(EB c k a).fmod 26:=λa ha=>by
   have h':BZ c j (Bh c)=BZ c k (Bh c):=by
    have:=congrArg (λx:Str=>x.cps.toList) h
    exact this
   have e1:=congrArg (λl:List Nat=>l[a]?) h'
   simp only[BZ,ya9,ybt ha]at e1;have e2:Cq c j a=Cq c k a:=yao e1;have s1:=Gp c j a;have s2:=Gp c k a;unfold Cq at e2
   omega
  obtain⟨a,ea⟩:=yci ha.1;obtain⟨b,eb⟩:=yci hb.1;have e1:=e a (by omega)
  have e2:=e b (by omega)
  have c1:((a:Int) == Br c)=true:=by rw[ea];exact ydx _
  have c2:((a:Int) == (Br c+1).fmod (BJ c))=false:=by rw[ye3];omega
  have c3:((b:Int) == Br c)=false:=by rw[ye3];omega
  have c4:((b:Int) == (Br c+1).fmod (BJ c))=true:=by rw[eb];exact ydx _
  simp only[EB,Gq,c1,c2,c3,c4,ydn,ybi,ydw]at e1 e2;generalize Fz c a=A at e1;generalize Fz c b=B at e2;rw[fm (j:=26) (by decide),fm (j:=26) (by decide),fm (j:=26) (by decide),fm (j:=26) (by decide)]at e1
  rw[fm (j:=26) (by decide),fm (j:=26) (by decide),yc4 _ (by decide),yc4 _ (by decide)]at e2
  omega
theorem nm_ex(c:Int):∃f,Nms f/\Hw [.int c,.int 72]=some (.ok (.own (((List.range 72).map f).map T.str))):=by
 refine⟨_,zkk c,?_⟩;rw[zf6,ybs]
 rfl
abbrev O9:Stmt:=A4 34
def IL:AH :=
 (Aj (m2 B0 (AA 1) (Cv AE)) (AG (Ae (m2 Am (m2 C9 (m2 Am (m2 CD (AA 0) (m2 BA (mC (.int 3)) (m2 C9 (mC (.int 5)) (AA 6)))) (mC (.int 2147483647))) (mC (.int 48271))) (mC (.int 2147483647))) (AF 7))
 (AG (Ae (m2 BA (m2 C9 (m2 Am (m2 CD (AA 7) (mC (.int 100))) (mC (.int 4))) (AA 4)) (m2 Am (m2 CD (AA 7) (mC (.int 400))) (mC (.int 3)))) (AF 8))
 (ES 5 (Dk (AB (AU (AA 1) (m2 Am (AA 7) (m1 BS (AA 1)))) (AB (AU (AA 2) (m2 Am (m2 CD (AA 7) (mC (.int 7))) (m1 BS (AA 2)))) (AB (AA 8) AE))))))) Ag)
def Lc:AH :=
 (AG (DO 5 (Cv AE))
 (AG (CP (CB (AB (m2 Am (AA 0) (m2 BA (AA 3) (mC (.int 1)))) AE)) (AF 6) IL)
 (A8 (AA 5))))
def Fi:List T->Option Ru:=Ac 5 9 Lc
abbrev MP:Fn:=⟨1,["_law_number","_law_watches","_law_words","_law_most","_law_unit"],Fi⟩
abbrev zdp:Gm:=gA ["_law_number","_law_watches","_law_words","_law_most","_law_unit","_law_looks_here","_law_k","_law_one","_law_size"] O9 0 [] ["range","len"] ["_law_looks_here"]
theorem ze1:Ck zdp MP O9 Lc:={}
theorem Ms{l:List Str}{i:Int}{x:Str}(h:AV l i=some x):AV (l.map T.str) i=some (.str x):=E4 T.str h
theorem E1{l:List Str}(h:BQ l):Fit (.lst (l.map T.str)) 1:=Fit.nd λt ht=>by
 obtain⟨x,hx,rfl⟩:=yap.mp ht;exact Fit.str (h x hx) 0
theorem zkl{l:List Str}(h:BQ l):B0 (.lst (l.map T.str)) (.lst [])=some (.bl (!decide (l=[]))):=by
 cases l with
 |nil=>rfl
 |cons a r =>
  rw[(SS (E1 h) (Fit.nd (o:=false) (k:=.lst) (l:=[]) (n:=0) λ_ z=>by cases z) (by decide)).2,yd9 (List.cons_ne_nil a r)]
  have e:¬ ((T.lst ((a::r).map T.str)).data=(T.lst []).data):=λz=>by
   have z':PyData.list (Az ((a::r).map T.str))=PyData.list (Az []):=z;injection z' with z'
   cases z'
  rw[@decide_eq_false _ (Classical.propDecidable _) e]
theorem Oi{a b:Int}(h1:0<=a)(h2:a<=100)(h3:0<=b)(h4:b<=100):Bf (a+b)=true:=Ce (ycz (show(-(10 ^ 70):Int)<0 by decide +kernel) (ycy h1 h3)) (Int.lt_of_le_of_lt (Int.add_le_add h2 h4) (by decide +kernel))
theorem Ez(x:Int){m:Int}(hm:0<m):∃b:Nat,x.fmod m=b/\(b:Int)<m:=by
 obtain⟨b,hb⟩:=yci (ybz x hm);exact⟨b,hb,hb▸Int.fmod_lt_of_pos x hm⟩
theorem Oj{b:Nat}(h:(b:Int)<2147483647):ED (b:Int)=true:=EC (ycz (by decide +kernel) (ybk b)) (Int.lt_trans h (by decide +kernel))
theorem Qz{ws wd:List Str}(tw:BQ ws)(hd0:wd≠[])(x:Int){m u:Int}(m0:0<=m)(m3:m<=3)(hu:0<=u):∃L:List T,L.length<=3/\Dg ws wd L/\Fi [.int x,.lst (ws.map T.str),.lst (wd.map T.str),.int m,.int u]=some (.ok (.own L)):=by
 have hne:=zkl tw;obtain⟨q,hq,hq4⟩:=Ez x (m:=m+1) (by omega)
 obtain⟨τ,e,L,hL,hok,y6,y7,y8,rfl⟩:=Ds (b:=AF 6) (body:=IL) (ts:=mT q λi=>.int (i:Int)) (τ:=[some (.int x),some (.lst (ws.map T.str)),some (.lst (wd.map T.str)),some (.int m),some (.int u),some (.own []),none,none,none])
  (λi τ=>∃L:List T,L.length<=i/\Dg ws wd L/\∃y6 y7 y8,τ=[some (.int x),some (.lst (ws.map T.str)),some (.lst (wd.map T.str)),some (.int m),some (.int u),some (.own L),y6,y7,y8]) ⟨[],ya6 0,λ_ z=>(by cases z),none,none,none,rfl⟩ λi t τ h1 h2=>by
   obtain⟨hi,rfl⟩:=EX h1;obtain⟨L,hL,hok,y6,y7,y8,rfl⟩:=h2
   by_cases h0:ws=[]
   .refine⟨[some (.int x),some (.lst (ws.map T.str)),some (.lst (wd.map T.str)),some (.int m),some (.int u),some (.own L),some (.int (i:Int)),y7,y8],(by simp![]),[some (.int x),some (.lst (ws.map T.str)),some (.lst (wd.map T.str)),some (.int m),some (.int u),some (.own L),some (.int (i:Int)),y7,y8],?_,L,Nat.le_succ_of_le hL,hok,some (.int (i:Int)),y7,y8,rfl⟩
    rw[ydp h0]at hne;unfold IL
    simp![A3,AS,hne]
   .rw[yd9 h0]at hne;have m5:Cu 5 (i:Int)=true:=Eo (EC (by decide) (by decide))
    have n0:(3+5 * (i:Int)=0)=False:=eq_false (by omega)
    have s0:Bf (3+5 * (i:Int))=true:=Oi (by decide) (by decide) (by lia) (by lia)
    obtain⟨b,hb,hb2⟩:=Ez (x.fdiv (3+5 * (i:Int))) (m:=2147483647) (by decide)
    have mb:Cu (b:Int) 48271=true:=Eo (Oj hb2);obtain⟨d,hd,hd2⟩:=Ez ((b:Int) * 48271) (m:=2147483647) (by decide)
    obtain⟨p,hp,hp2⟩:=Ez ((d:Int).fdiv 100) (m:=4) (by decide)
    obtain⟨r,hr,hr2⟩:=Ez ((d:Int).fdiv 400) (m:=3) (by decide)
    have mp:Cu (p:Int) u=true:=Eo (Oj (Int.lt_trans hp2 (by decide)))
    obtain⟨w,hwm,ew⟩:=JG ws h0 (d:Int);obtain⟨o,hom,eo⟩:=JG wd hd0 ((d:Int).fdiv 7);have ew':=Ms ew;have eo':=Ms eo;have l0:=Ll h0;have l1:=Ll hd0;have s7:Bf 7=true:=Ce (by decide) (by decide)
    have s1:Bf 100=true:=Ce (by decide) (by decide)
    have s4:Bf 400=true:=Ce (by decide) (by decide)
    have ll:L.length<100000:=by omega
    refine⟨[some (.int x),some (.lst (ws.map T.str)),some (.lst (wd.map T.str)),some (.int m),some (.int u),some (.own L),some (.int (i:Int)),y7,y8],(by simp![]),[some (.int x),some (.lst (ws.map T.str)),some (.lst (wd.map T.str)),some (.int m),some (.int u),some (.own (L++[.tup [.str w,.str o,.int ((p:Int) * u+r)]])),some (.int (i:Int)),some (.int (d:Int)),some (.int ((p:Int) * u+r))],?_,L++[.tup [.str w,.str o,.int ((p:Int) * u+r)]],(by rw[yau,ybm];omega),λt ht=>?_,some (.int (i:Int)),_,_,rfl⟩
    .unfold IL
     simp![A3,AS,hne,m5,n0,s0,hb,mb,hd,s1,s4,hp,hr,mp,ya2,l0,l1,s7,ew',eo',ll]
    .rcases yb3.mp ht with ht|ht
     .exact hok t ht
     .rw[yae.mp ht];exact⟨w,o,_,rfl,hwm,hom,ycy (Int.mul_nonneg (ybk _) hu) (ybk _)⟩
 rw[Bv]at hL;have ok:Bg (q:Int)=true:=DU (by omega)
 have er:Bb 0 q=mT q λi=>.int (i:Int):=DQ
 have n1:(m+1=0)=False:=eq_false (by omega)
 refine⟨L,by omega,hok,?_⟩
 unfold Fi Lc
 simp![hq,n1,ok,er,e,A3,AS]
abbrev O7:Stmt:=A4 35
def Mn:AD :=
 (Dk (AB (AU (AA 1) (AA 0)) (AB (A7 Fi (AB (AU (AA 4) (AA 0)) (AB (AA 3) (AB (Cv (Bj (mC (.str "<")) (Bj (mC (.str "<=")) AE))) (AB (mC (.int 2)) (AB (AA 2) AE)))))) AE)))
def La:AH :=
 (AG (Ae (m2 BA (mC (.int 1)) (m2 Am (A7 Cn (AB (AA 0) (AB (mC (.int 0)) AE))) (mC (.int 8)))) (AF 4))
 (AG (Aj (m2 B5 (m2 Am (A7 Cn (AB (AA 0) (AB (mC (.int 2)) AE))) (mC (.int 8))) (mC (.int 5))) (Ae (mC (.int 64)) (AF 4)) Ag)
 (AG (Ae (A7 E6 (AB (A7 Cn (AB (AA 0) (AB (mC (.int 3)) AE))) (AB (AA 4) AE))) (AF 5))
 (A8 (BL 1 [1,3,2,5] (CB (AB (AA 4) AE)) (AF 0) (mC (.bl true)) Mn)))))
def Ju:List T->Option Ru:=Ac 4 6 La
abbrev SD:Fn:=⟨2,["_law_script","_law_names_here","_law_watches","_law_unit"],Ju⟩
abbrev zdn:Gm:=gA ["_law_script","_law_names_here","_law_watches","_law_unit","_law_many","_law_xs"] O7 1 [("_law_cell_at",J6),("_law_stream",MO),("_law_looks",MP)] ["range"] [] ["_law_names_here","_law_watches","_law_unit","_law_xs"]
theorem zdz:Ck zdn SD O7 La:={}
theorem Qc{f:Nat->Str}(hf:Nms f){n:Nat}(h:n<=72):((List.range n).map f).Nodup:=by
 rw[List.nodup_iff_pairwise_ne,List.pairwise_map];refine List.Pairwise.imp_of_mem (λ{a b} ha hb hlt e=>?_) (List.pairwise_lt_range (n:=n))
 have h1:=List.mem_range.mp ha;have h2:=List.mem_range.mp hb;have:=hf.un a b (by omega) (by omega) e
 omega
def TY(x:Str):Prop:=Dv x/\2<=x.cps.size/\x.cps.size<=8
theorem zg8{x:Str}(h:Dv x):Jj x:=λi hi=>.inr (h i hi)
structure Rm8(ws:List Str)(rs:List (Str×List T)):Prop where
 ok:RsOk ws rs
 nm:∀r∈rs,TY r.1
 ll:∀r∈rs,r.2.length<=3
theorem zer(ns:List Int){f:Nat->Str}(hf:Nms f){ws:List Str}(tw:BQ ws){u:Int}(hu:0<=u):∃rs,Rm8 ws rs/\Ju [Au ns,.lst (((List.range 72).map f).map T.str),.lst (ws.map T.str),.int u]=some (.ok (.own (rs.map Bo))):=by
 have c0:=E3 ns (k:=0) (by decide)
 have c2:=E3 ns (k:=2) (by decide)
 have c3:=E3 ns (k:=3) (by decide)
 obtain⟨q,hq,hq8⟩:=Ez (ns.getD (0:Int).toNat 0) (m:=8) (by decide)
 obtain⟨n,hn1,hn64,en⟩:∃n:Nat,1<=n/\n<=64/\((if (((ns.getD (2:Int).toNat 0).fmod 8 == 5):Bool)=true then (64:Int) else 1+(q:Int))=n):=by
  split
  .exact⟨64,by decide,by decide,rfl⟩
  .exact⟨1+q,by omega,by omega,by omega⟩
 obtain⟨xs,ex⟩:=K5 (ns.getD (3:Int).toNat 0) (m:=n) (by omega)
 obtain⟨g,hg⟩:=Classical.axiomOfChoice λi:Nat=>Qz (wd:=Gk) tw (by decide) (xs i) (m:=2) (by decide) (by decide) hu
 have ek:T.lst [T.str (Str.ofString "<"),T.str (Str.ofString "<=")]=.lst (Gk.map T.str):=rfl
 have lc:=Eu (n:=n) (me:=Mn) (x:=none) (cs:=[some (.lst (((List.range 72).map f).map T.str)),some (.int u),some (.lst (ws.map T.str)),some (.lst (mT n λi=>.int (xs i)))]) (g:=λi=>.int (i:Int)) (f:=λi=>Bo (f i,g i)) λi hi=>by
  have a1:AV (((List.range 72).map f).map T.str) (i:Int)=some (.str (f i)):=CF (by omega) (by
   rw[yb2,ya9,ya9,ybt (by omega)]
   rfl)
  have a2:AV (mT n λi=>T.int (xs i)) (i:Int)=some (.int (xs i)):=CF (by omega) (by rw[yb2,Ep hi])
  obtain⟨_,g1,g2⟩:=hg i;have s1:=g1.sh;unfold Mn;have kk:Fi [.int (xs i),.lst (ws.map T.str),.lst [T.str (Str.ofString "<"),T.str (Str.ofString "<=")],.int 2,.int u]=some (.ok (.own (g i))):=g2
  simp![A3,AS,a1,a2,kk,s1,AQ _ s1]
 have em:mT n (λi=>Bo (f i,g i))=((List.range n).map λi=>(f i,g i)).map Bo:=by
  rw[ybs]
  rfl
 have mem:∀r∈(List.range n).map (λi=>(f i,g i)),∃i,r=(f i,g i):=λr hr=>by
  obtain⟨i,_,rfl⟩:=yap.mp hr;exact⟨i,rfl⟩
 have ok:RsOk ws ((List.range n).map λi=>(f i,g i)):=by
  refine⟨by simpa using hn1,by simpa using hn64,λr hr=>?_,?_,λr hr=>?_⟩
  .obtain⟨i,rfl⟩:=mem r hr;have:=hf.l2 i;exact⟨zg8 (hf.sm i),by omega,by omega⟩
  .rw[ybs];exact Qc hf (n:=n) (by omega)
  .obtain⟨i,rfl⟩:=mem r hr;exact⟨(hg i).2.1,by have:=(hg i).1;omega⟩
 refine⟨(List.range n).map λi=>(f i,g i),⟨ok,λr hr=>?_,λr hr=>?_⟩,?_⟩
 .obtain⟨i,rfl⟩:=mem r hr;exact⟨hf.sm i,hf.l2 i⟩
 .obtain⟨i,rfl⟩:=mem r hr;exact(hg i).1
 .rw[<- em];have sr:=GC ok;rw[<- em]at sr;have o1:Bg (n:Int)=true:=DU (by omega)
  have er:Bb 0 n=mT n λi=>.int (i:Int):=DQ
  have l1:n<=100000:=by omega
  have si:A6 (mT n λi=>.int (xs i))=true:=Im λ_=>rfl
  unfold Ju La
  by_cases hb:(((ns.getD (2:Int).toNat 0).fmod 8 == 5):Bool)=true
  .rw[if_pos hb]at en;have hn:n=64:=by omega
   subst hn;have ex':E6 [.int (ns.getD (3:Int).toNat 0),.int 64]=some (.ok (.own (mT 64 λi=>.int (xs i)))):=ex
   have o2:Bg 64=true:=o1;have er2:Bb 0 (64:Int).toNat=mT 64 λi=>.int (i:Int):=er
   simp![Cj,Fx,Fy,c0,c2,c3,hq,hb,ex',o2,er2,lc,l1,A3,AS,sr,si,AQ _ si]
  .rw[if_neg hb]at en;rw[Bool.not_eq_true]at hb
   simp![Cj,Fx,Fy,c0,c2,c3,hq,hb,en,ex,o1,er,lc,l1,A3,AS,sr,si,AQ _ si]
abbrev Oc:Stmt:=A4 36
def HY:AD :=
 (m2 B5 (m2 Am (m2 CD (AU (AA 2) (mC (.int 3))) (m2 BA (mC (.int 2)) (m2 C9 (mC (.int 3)) (AA 0)))) (mC (.int 2))) (mC (.int 1)))
def Hk:AD :=
 (AU (AA 1) (AA 0))
def Fo:AH :=
 (AG (Ae (A7 G7 (AB (A7 Cn (AB (AA 0) (AB (m2 BA (mC (.int 5)) (m2 Am (AA 6) (mC (.int 9)))) AE))) (AB (AA 6) (AB (mC (.int 5)) AE)))) (AF 7))
 (AG (Ae (A7 Fi (AB (AU (AA 7) (mC (.int 2))) (AB (AA 2) (AB (Cv (Bj (mC (.str "<")) (Bj (mC (.str "<=")) (Bj (mC (.str ">")) (Bj (mC (.str ">=")) (Bj (mC (.str "=")) AE)))))) (AB (mC (.int 3)) (AB (AA 3) AE)))))) (AF 8))
 (AG (Ae (BL 1 [2,7] (CB (AB (m1 BS (AA 2)) AE)) (AF 0) HY Hk) (AF 9))
 (AG (Ae (AU (Cv (Bj (mC (.str "")) (Bj (mC (.str "")) (Bj (mC (.str "go!")) (Bj (mC (.str "go?")) (Bj (m2 BA (Bp (DG (AU (AU (AA 1) (mC (.int 0))) (mC (.int 0))) none (some (mC (.int 8)))) (DV (AU (AU (AA 1) (mC (.int 0))) (mC (.int 0))) none (some (mC (.int 8))))) (mC (.str "!"))) (Bj (mC (.str "")) AE))))))) (m2 Am (AU (AA 7) (mC (.int 4))) (mC (.int 6)))) (AF 10))
 (AG (Aj (m2 B5 (m2 Am (m2 CD (AU (AA 7) (mC (.int 4))) (mC (.int 6))) (mC (.int 2))) (mC (.int 1))) (Ae (HI (AA 9) (m1 Em (mC (.int 1)))) (AF 9)) Ag)
 (ES 5 (Dk (AB (AU (AU (AA 1) (m2 Am (AU (AA 7) (mC (.int 0))) (m1 BS (AA 1)))) (mC (.int 0))) (AB (AU (AU (AA 1) (m2 Am (AU (AA 7) (mC (.int 1))) (m1 BS (AA 1)))) (mC (.int 0))) (AB (AA 8) (AB (AA 9) (AB (AA 10) AE))))))))))))
def JM:AH :=
 (AG (Ae (m2 Am (A7 Cn (AB (AA 0) (AB (mC (.int 4)) AE))) (mC (.int 10))) (AF 4))
 (AG (Aj (m2 B5 (m2 Am (m2 CD (A7 Cn (AB (AA 0) (AB (mC (.int 2)) AE))) (mC (.int 8))) (mC (.int 8))) (mC (.int 5))) (Ae (mC (.int 200)) (AF 4)) Ag)
 (AG (DO 5 (Cv AE))
 (AG (CP (CB (AB (AA 4) AE)) (AF 6) Fo)
 (A8 (AA 5))))))
def Hx:List T->Option Ru:=Ac 4 11 JM
abbrev SG:Fn:=⟨3,["_law_script","_law_rooms_here","_law_watches","_law_unit"],Hx⟩
abbrev zdr:Gm:=gA ["_law_script","_law_rooms_here","_law_watches","_law_unit","_law_many","_law_doors_here","_law_k","_law_xs","_law_guard","_law_noughts","_law_sign"] Oc 2 [("_law_cell_at",J6),("_law_draws",SF),("_law_looks",MP)] ["range","len"] ["_law_doors_here"] ["_law_watches","_law_xs"]
theorem ze3:Ck zdr SG Oc JM:={}
abbrev A5(d:Dr):T:=.tup [.str d.s,.str d.e,.lst d.g,.lst (d.n.map T.str),.str d.z]
theorem Pb{ws ns:List Str}{d:Dr}(h:DrOk ws ns d):(A5 d).sh=true:=by
 have hg:=h.g.sh
 simp![hg,AS]
theorem Q6{ws:List Str}{xs:List T}{z:Int}(h3:AV xs 3=some (.int z))(sx:A6 xs=true):∀(vs pre:List Str) (o:Option T),ws=pre++vs->ws.length<=7->∃N:List Str,N.Sublist vs/\BM (AF 0) HY Hk ((List.range' pre.length vs.length).map λ(i:Nat)=>T.int (i:Int)) [o,some (.lst (ws.map T.str)),some (.lst xs)]=some (N.map T.str)
 |[],pre,o,_,_=>⟨[],.slnil,rfl⟩
 |v::vs,pre,o,e,hl=>by
  obtain⟨N,hN,ih⟩:=Q6 h3 sx vs (pre++[v]) (some (.int (pre.length:Int))) (by rw[e,yd5];rfl) hl
  rw[yau,ybm]at ih;have hp:pre.length<=7:=by rw[e,yau]at hl;lia
  have m3:Cu 3 (pre.length:Int)=true:=Eo (EC (by decide) (by decide))
  have s0:Bf (2+3 * (pre.length:Int))=true:=Oi (by decide) (by decide) (by lia) (by lia)
  have n0:(2+3 * (pre.length:Int)=0)=False:=eq_false (by lia)
  have av:AV (ws.map T.str) (pre.length:Int)=some (.str v):=Ms (by
   refine CF (ybk _) ?_;rw[yb2,e,yaz (ya6 _),yd8]
   rfl)
  have e1:AF 0 (.int (pre.length:Int)) [o,some (.lst (ws.map T.str)),some (.lst xs)]=some [some (.int (pre.length:Int)),some (.lst (ws.map T.str)),some (.lst xs)]:=by simp![]
  have e2:HY [some (.int (pre.length:Int)),some (.lst (ws.map T.str)),some (.lst xs)]=some (.v (.bl ((z.fdiv (2+3 * (pre.length:Int))).fmod 2 == 1)) false):=by
   unfold HY
   simp![sx,h3,m3,s0,n0,Cj]
  have e3:Hk [some (.int (pre.length:Int)),some (.lst (ws.map T.str)),some (.lst xs)]=some (.v (.str v) false):=by
   unfold Hk
   simp![AS,av]
  rw[yax,List.range'_succ,yal];unfold BM;cases hb:((z.fdiv (2+3 * (pre.length:Int))).fmod 2 == 1)
  .rw[hb]at e2;refine⟨N,hN.cons v,?_⟩;simp only[e1,e2,ih]
  .rw[hb]at e2;refine⟨v::N,hN.cons₂ v,?_⟩;simp only[e1,e2,e3,ih]
   rfl
theorem zki{ws:List Str}(hl:ws.length<=7){xs:List T}{z:Int}(h3:AV xs 3=some (.int z))(sx:A6 xs=true):∃N:List Str,N.Sublist ws/\BM (AF 0) HY Hk (mT ws.length λi=>.int (i:Int)) [none,some (.lst (ws.map T.str)),some (.lst xs)]=some (N.map T.str):=by
 obtain⟨N,hN,e⟩:=Q6 h3 sx ws [] none rfl hl;rw[ycv,<- List.range_eq_range']at e;exact⟨N,hN,e⟩
theorem zd5{l:List Str}(h:l.Nodup):l.reverse.Nodup:=by
 unfold List.Nodup at h ⊢;rw[List.pairwise_reverse];exact h.imp λa=>a.symm
theorem SO:Tx.cs (Str.ofString "!")=[33]/\Tx.cs (Str.ofString "?")=[63]/\(Str.ofString "!").length=1/\(Str.ofString "?").length=1:=by decide +kernel
theorem ix8{n:Nat}(h:n<=8):PySem.Builtin.Str.strSliceIndices none (some 8) 1 n=PySem.Builtin.Str.strSliceIndices none (some (n:Int)) 1 n:=by
 have a1:max (0:Int) (min 8 (n:Int))=max 0 (min (n:Int) n):=by omega
 have a2:¬ ((n:Int)<0):=by omega
 simp[PySem.Builtin.Str.strSliceIndices,a1,a2]
theorem sl8{x:Str}(h:x.cps.size<=8):Txt.slice x none (some 8)=x:=by
 have e2:Txt.slice x none (some 8)=StrLaws.sliceText x none (some 8):=rfl
 have e:StrLaws.sliceText x none (some 8)=StrLaws.sliceText x none (some (x.length:Int)):=by
  unfold StrLaws.sliceText;rw[ix8 (show x.length<=8 from h)]
 refine Tx.cs_ext ?_;rw[e2,e];show Tx.cs (Txt.slice x none (some ((Tx.cs x).length:Int)))=Tx.cs x;rw[Tx.sl_to (ya6 _),yco]
theorem ziv{x:Str}(hx:TY x)(z:Int):∃y:Str,FG y/\AV [T.str (Str.ofString ""),.str (Str.ofString ""),.str (Str.ofString "go!"),.str (Str.ofString "go?"),.str (x++Str.ofString "!"),.str (Str.ofString "")] (z.fmod 6)=some (.str y):=by
 obtain⟨q1,q2,_,_⟩:=SO
 have h6:z.fmod 6=0\/z.fmod 6=1\/z.fmod 6=2\/z.fmod 6=3\/z.fmod 6=4\/z.fmod 6=5:=by
  rw[fm (by decide)]
  omega
 have go:Dv (Str.ofString "go")/\1<=(Str.ofString "go").cps.size/\(Str.ofString "go").cps.size<=8:=by
  refine⟨?_,by decide +kernel,by decide +kernel⟩
  unfold Dv
  decide +kernel
 have g1:FG (Str.ofString "go!"):=.inr ⟨_,33,go.1,go.2.1,go.2.2,.inl rfl,by decide +kernel⟩
 have g2:FG (Str.ofString "go?"):=.inr ⟨_,63,go.1,go.2.1,go.2.2,.inr rfl,by decide +kernel⟩
 have g3:FG (x++Str.ofString "!"):=.inr ⟨x,33,hx.1,yaf (by decide) hx.2.1,hx.2.2,.inl rfl,by rw[Tx.cs_app,q1]⟩
 rcases h6 with h|h|h|h|h|h
 .exact⟨_,.inl rfl,by rw[h];exact CF (by decide) rfl⟩
 .exact⟨_,.inl rfl,by rw[h];exact CF (by decide) rfl⟩
 .exact⟨_,g1,by rw[h];exact CF (by decide) rfl⟩
 .exact⟨_,g2,by rw[h];exact CF (by decide) rfl⟩
 .exact⟨_,g3,by rw[h];exact CF (by decide) rfl⟩
 .exact⟨_,.inl rfl,by rw[h];exact CF (by decide) rfl⟩
theorem mT_at{n:Nat}{g:Nat->T}{i:Nat}(h:i<n):AV (mT n g) (i:Int)=some (g i):=CF (ybk _) (by rw[yb2,Ep h])
structure Dr8(ws ns:List Str)(d:Dr):Prop where
 ok:DrOk ws ns d
 gl:d.g.length<=3
 nl:d.n.length<=7
abbrev qD(ns:List Int)(rs:List (Str×List T))(W:List Str)(u m:Int)(r:AI):AI:=some (Au ns)::some (Ar rs)::some (.lst (W.map T.str))::some (.int u)::some (.int m)::r
theorem zdt{ns:List Int}{ws:List Str}{rs:List (Str×List T)}(hw:∀x∈ws,EJ x)(hd:ws.Nodup)(hl:ws.length<=7)(hR:Rm8 ws rs){u m:Int}(hu:0<=u){l:List T}(hl2:l.length<1000){k:Nat}(hk:k<200){x7 x8 x9 x10:Option T}:∃d:Dr,Dr8 ws (rs.map (·.1)) d/\∃y7 y8 y9 y10,Fo (qD ns rs ws u m [some (.own l),some (.int (k:Int)),x7,x8,x9,x10])
  = some (.nx (qD ns rs ws u m [some (.own (l++[A5 d])),some (.int (k:Int)),y7,y8,y9,y10])):=by
 have tw:BQ ws:=λx hx=>Fm (hw x hx)
 have k9:=ybz (k:Int) (show(0:Int)<9 by decide)
 have c5:=E3 ns (k:=5+(k:Int).fmod 9) (ycy (by decide) k9)
 obtain⟨xs,ex⟩:=zfn (ns.getD (5+(k:Int).fmod 9).toNat 0) (k:=k) (m:=5) (by omega) (by omega) (by decide)
 have ex':G7 [.int (ns.getD (5+(k:Int).fmod 9).toNat 0),.int (k:Int),.int 5]=some (.ok (.own (mT 5 λi=>.int (xs i)))):=ex
 have sx:A6 (mT 5 λi=>T.int (xs i))=true:=rfl
 have sx2:Af (mT 5 λi=>T.int (xs i))=mT 5 λi=>T.int (xs i):=rfl
 have a0:AV (mT 5 λi=>T.int (xs i)) 0=some (.int (xs 0)):=mT_at (i:=0) (by decide)
 have a1:AV (mT 5 λi=>T.int (xs i)) 1=some (.int (xs 1)):=mT_at (i:=1) (by decide)
 have a2:AV (mT 5 λi=>T.int (xs i)) 2=some (.int (xs 2)):=mT_at (i:=2) (by decide)
 have a3:AV (mT 5 λi=>T.int (xs i)) 3=some (.int (xs 3)):=mT_at (i:=3) (by decide)
 have a4:AV (mT 5 λi=>T.int (xs i)) 4=some (.int (xs 4)):=mT_at (i:=4) (by decide)
 obtain⟨G,hG3,hG,eG⟩:=Qz (wd:=IH) tw (List.cons_ne_nil _ _) (xs 2) (m:=3) (by decide) (by decide) hu
 have eG':Fi [.int (xs 2),.lst (ws.map T.str),.lst [.str (Str.ofString "<"),.str (Str.ofString "<="),.str (Str.ofString ">"),.str (Str.ofString ">="),.str (Str.ofString "=")],.int 3,.int u]=some (.ok (.own G)):=eG;have sG:=hG.sh;have sG2:=AQ _ sG;obtain⟨N,hN,eN⟩:=zki hl a3 sx;have r0:rs≠[]:=λz=>by have:=hR.ok.l1;rw[z]at this;exact absurd this (by decide)
 obtain⟨r,hr,er0⟩:∃r∈rs,AV rs 0=some r:=by
  cases rs with
  |nil=>exact absurd rfl r0
  |cons r rs=>exact⟨r,yac ..,CF (by decide) rfl⟩
 obtain⟨y,hy,ey⟩:=ziv (hR.nm r hr) (xs 4);obtain⟨r1,hr1,er1⟩:=JG rs r0 (xs 0);obtain⟨r2,hr2,er2⟩:=JG rs r0 (xs 1);have er0':=E4 Bo er0;have er1':=E4 Bo er1;have er2':=E4 Bo er2;have b0:∀r:Str×List T,AV [T.str r.1,.lst r.2] 0=some (.str r.1):=λr=>CF (by decide) rfl
 have sk:∀r∈rs,A6 r.2=true:=λr hr=>(hR.ok.lk r hr).1.sh
 have sr:=GC hR.ok;have sr2:=AQ _ sr;have s8:=sl8 (hR.nm r hr).2.2;have fl:r.1.length<=8:=(hR.nm r hr).2.2;have fl2:r.1.length<=100000:=yaf fl (by decide)
 have z1:r.1.length+(Str.ofString "!").length<=100000:=by rw[SO.2.2.1];omega
 have l0:=Ll r0;have lw:ws.length<=AW:=by unfold AW;lia
 have okw:Bg (ws.length:Int)=true:=DU (yaf hl (by decide))
 have er:Bb 0 ws.length=mT ws.length λi=>.int (i:Int):=DQ
 have s6:Bf 6=true:=Ce (by decide) (by decide)
 have sc:=Fx ns;have ss:=Fy ns;have ll:l.length<100000:=by lia
 have hNl:N.length<=7:=yaf hN.length_le hl
 obtain⟨N',hN1,hN2,hN3,eN'⟩:∃N':List Str,(∀x∈N',x∈ws)/\N'.Nodup/\N'.length<=7/\((((xs 4).fdiv 6).fmod 2 == 1)=true/\N'=N.reverse\/(((xs 4).fdiv 6).fmod 2 == 1)=false/\N'=N):=by
  cases hc:(((xs 4).fdiv 6).fmod 2 == 1)
  .exact⟨N,λx hx=>hN.subset hx,hd.sublist hN,hNl,.inr ⟨rfl,rfl⟩⟩
  .exact⟨N.reverse,λx hx=>hN.subset (List.mem_reverse.mp hx),zd5 (hd.sublist hN),by rw[List.length_reverse];exact hNl,.inl ⟨rfl,rfl⟩⟩
 refine⟨⟨r1.1,r2.1,G,N',y⟩,⟨⟨yap.mpr ⟨r1,hr1,rfl⟩,yap.mpr ⟨r2,hr2,rfl⟩,hG,yaf hG3 (by decide),hN1,hN2,yaf hN3 (by decide),hy⟩,hG3,hN3⟩,some (.lst (mT 5 λi=>.int (xs i))),some (.lst G),some (.lst (N'.map T.str)),some (.str y),?_⟩
 unfold Fo;refine sq (τ':=(qD ns rs ws u m [some (.own l),some (.int (k:Int)),some (.lst (mT 5 λi=>.int (xs i))),x8,x9,x10])) (by simp![sc,ss,c5,ex',sx2]) ?_
 refine sq (τ':=(qD ns rs ws u m [some (.own l),some (.int (k:Int)),some (.lst (mT 5 λi=>.int (xs i))),some (.lst G),x9,x10])) (by simp![sc,ss,sx,a2,A3,AS,eG',sG2]) ?_
 refine sq (τ':=(qD ns rs ws u m [some (.own l),some (.int (k:Int)),some (.lst (mT 5 λi=>.int (xs i))),some (.lst G),some (.lst (N.map T.str)),x10])) (by simp![A3,AS,ya2,okw,er,sx,sx2,lw,eN]) ?_
 refine sq (τ':=(qD ns rs ws u m [some (.own l),some (.int (k:Int)),some (.lst (mT 5 λi=>.int (xs i))),some (.lst G),some (.lst (N.map T.str)),some (.str y)])) (by simp![sr,sr2,er0',b0,sk r hr,Bp,DG,DV,s8,fl2,z1,sx,a4,ey]) ?_
 refine sq (τ':=(qD ns rs ws u m [some (.own l),some (.int (k:Int)),some (.lst (mT 5 λi=>.int (xs i))),some (.lst G),some (.lst (N'.map T.str)),some (.str y)])) ?_ ?_
 .rcases eN' with ⟨hc,rfl⟩|⟨hc,rfl⟩
  .have rv:(N.map T.str).reverse=N.reverse.map T.str:=(List.map_reverse ..).symm
   simp![sx,a4,s6,Cj,hc,HI,show(-(1:Int))=-1 from rfl,A3,AS,rv]
  .simp![sx,a4,s6,Cj,hc]
 simp![sx,a0,a1,sr,sr2,ya2,l0,er1',er2',b0,sk r1 hr1,sk r2 hr2,sG,sG2,A3,AS,ll]
theorem zfo{ns:List Int}{ws:List Str}{rs:List (Str×List T)}(hw:∀x∈ws,EJ x)(hd:ws.Nodup)(hl:ws.length<=7)(hR:Rm8 ws rs){u:Int}(hu:0<=u):∃D:List Dr,D.length<=200/\(∀d∈D,Dr8 ws (rs.map (·.1)) d)/\Hx [Au ns,Ar rs,.lst (ws.map T.str),.int u]=some (.ok (.own (D.map A5))):=by
 have c4:=E3 ns (k:=4) (by decide)
 have c2:=E3 ns (k:=2) (by decide)
 obtain⟨q0,hq,hq9⟩:=Ez (ns.getD (4:Int).toNat 0) (m:=10) (by decide)
 have loop:∀q:Nat,q<=200->∃D:List Dr,D.length=q/\(∀d∈D,Dr8 ws (rs.map (·.1)) d)/\∃y5 y6 y7 y8 y9,By (AF 6) Fo (mT q λi=>.int (i:Int)) (qD ns rs ws u q [some (.own []),none,none,none,none,none])=some (.nx (qD ns rs ws u q [some (.own (D.map A5)),y5,y6,y7,y8,y9])):=λq hq2=>by
  obtain⟨τ,e,D,hD,hok,y5,y6,y7,y8,y9,rfl⟩:=Ds (b:=AF 6) (body:=Fo) (ts:=mT q λi=>.int (i:Int)) (τ:=(qD ns rs ws u q [some (.own []),none,none,none,none,none]))
   (λi τ=>∃D:List Dr,D.length=i/\(∀d∈D,Dr8 ws (rs.map (·.1)) d)/\∃y5 y6 y7 y8 y9,τ=(qD ns rs ws u q [some (.own (D.map A5)),y5,y6,y7,y8,y9])) ⟨[],rfl,λ_ z=>(by cases z),none,none,none,none,none,rfl⟩ λi t τ h1 h2=>by
    obtain⟨hi,rfl⟩:=EX h1;obtain⟨D,hD,hok,y5,y6,y7,y8,y9,rfl⟩:=h2;obtain⟨d,hd',z6,z7,z8,z9,ew⟩:=zdt (ns:=ns) (k:=i) hw hd hl hR hu (m:=q) (l:=D.map A5) (by rw[ya2];lia) (by lia) (x7:=y6) (x8:=y7) (x9:=y8) (x10:=y9)
    refine⟨_,(by simp![]),_,ew,D++[d],(by rw[yau,hD];rfl),λu hu=>?_,some (.int (i:Int)),z6,z7,z8,z9,(by rw[ybn];rfl)⟩
    rcases yb3.mp hu with hu|hu
    .exact hok u hu
    .rw[yae.mp hu];exact hd'
  rw[Bv]at hD;exact⟨D,hD,hok,y5,y6,y7,y8,y9,e⟩
 have sr:=GC hR.ok;have sr2:=AQ _ sr;have s8:Bf 8=true:=Ce (by decide) (by decide)
 by_cases hb:((((ns.getD (2:Int).toNat 0).fdiv 8).fmod 8 == 5):Bool)=true
 .obtain⟨D,hD,hok,y5,y6,y7,y8,y9,e⟩:=loop 200 (ya6 _);refine⟨D,by lia,hok,?_⟩
  have e':By (AF 6) Fo (mT 200 λi=>.int (i:Int)) (qD ns rs ws u 200 [some (.own []),none,none,none,none,none])=some (.nx (qD ns rs ws u 200 [some (.own (D.map A5)),y5,y6,y7,y8,y9])):=e
  have ok:Bg (200:Int)=true:=DU (n:=200) (by decide)
  have er:Bb 0 (200:Int).toNat=mT 200 λi=>.int (i:Int):=DQ
  unfold Hx JM
  simp![Fx,Fy,Cj,c4,c2,s8,hb,hq,ok,er,sr,sr2,A3,AS,e']
 .rw[Bool.not_eq_true]at hb;obtain⟨D,hD,hok,y5,y6,y7,y8,y9,e⟩:=loop q0 (by lia)
  refine⟨D,by lia,hok,?_⟩
  have ok:Bg (q0:Int)=true:=DU (by lia)
  have er:Bb 0 q0=mT q0 λi=>.int (i:Int):=DQ
  unfold Hx JM
  simp![Fx,Fy,Cj,c4,c2,s8,hb,hq,ok,er,sr,sr2,A3,AS,e]
abbrev Od:Stmt:=A4 37
def Ld:AH :=
 (AG (Aj (m2 B5 (AU (AA 0) (mC (.int 4))) (mC (.str ""))) (A8 (F6 Hy [(.str "")] (AB (AU (AA 0) (mC (.int 0))) (AB (AU (AA 0) (mC (.int 1))) (AB (AA 1) (AB (AA 2) AE)))))) Ag)
 (A8 (F6 Hy [] (AB (AU (AA 0) (mC (.int 0))) (AB (AU (AA 0) (mC (.int 1))) (AB (AA 1) (AB (AA 2) (AB (AU (AA 0) (mC (.int 4))) AE))))))))
def Jv:List T->Option Ru:=Ac 3 3 Ld
abbrev SH:Fn:=⟨4,["_law_one","_law_guard","_law_noughts"],Jv⟩
abbrev zfi:Gx:={ CN with nw:=[("Door",MR,[(5,[]),(4,[(.str "")])])] }
abbrev zfk:Gm:=gA ["_law_one","_law_guard","_law_noughts"] Od 3 [] [] (ox:=zfi)
theorem zfv:Ck zfk SH Od Ld:={}
theorem Mv{a b c d e:T}:AV [a,b,c,d,e] 4=some e:=rfl
theorem Mw{a b c d e:T}:AV [a,b,c,d,e] 3=some d:=rfl
theorem zi3{ws ns:List Str}{d:Dr}(h:DrOk ws ns d):Jv [A5 d,.nd false .rl d.g,BF d.n]=some (.ok (AO d)):=by
 have hg:=h.g.sh;have e:=Hf (K9 h.z) em_ok;have k:=di_ok h;unfold Jv Ld
 by_cases q:d.z=Str.ofString ""
 .rw[ydp q]at e
  have k2:Hy [.str d.s,.str d.e,.nd false .rl d.g,BF d.n,.str (Str.ofString "")]=some (.ok (AO d)):=by
   rw[<- q];exact k
  simp![Mv,e,k2,hg,AQ _ hg,A3,AS]
 .rw[yd9 q]at e
  simp![Mv,e,k,hg,AQ _ hg,A3,AS]
abbrev O6:Stmt:=A4 38
def L9:AH :=
 (AG (Aj (BK (Ay (m1 (F8 GY) (AA 0))) (BK (m2 B0 (B3 Ai As 0 (AA 0)) (AU (AA 1) (mC (.int 0)))) (BK (m2 B0 (B3 Ai As 1 (AA 0)) (AU (AA 1) (mC (.int 1)))) (m2 B0 (B3 Ai As 4 (AA 0)) (AU (AA 1) (mC (.int 4))))))) (A8 (mC (.bl false))) Ag)
 (A8 (Ci (m2 B5 (Bi Ai As Hz (AA 0) AE) (AU (AA 1) (mC (.int 2)))) (Ci (m2 B5 (Bi Ai As G8 (AA 0) AE) (AU (AA 1) (mC (.int 3)))) (m1 (Bk "list") (Bi Ai As G8 (AA 0) AE))))))
def Jt:List T->Option Ru:=Ac 2 2 L9
abbrev SA:Fn:=⟨2,["_law_door_here","_law_one"],Jt⟩
abbrev zfh:Gx:={ CN with cl:=[("Door",Ai,As)],mt:=[("asks",Ai,As,MS),("sets",Ai,As,MQ)],ci:=[("Door",GY)] }
abbrev zfj:Gm:=gA ["_law_door_here","_law_one"] O6 1 [] ["isinstance","list"] (ox:=zfh)
theorem zfu:Ck zfj SA O6 L9:={}
theorem GK{ws wd:List Str}(tw:BQ ws)(td:BQ wd){l:List T}(h:Dg ws wd l):Fit (.lst l) 2:=Fit.nd λt ht=>by
 obtain⟨x,y,n,rfl,h1,h2,_⟩:=h t ht;refine Fit.tup λt ht=>?_
 simp only[yak,yb8,ydt]at ht
 rcases ht with rfl|rfl|rfl
 .exact Fit.str (tw x h1) _
 .exact Fit.str (td y h2) _
 .exact Fit.int _ _
theorem LI{x:Str}(h:PyData.strOk x=true):B0 (.str x) (.str x)=some (.bl false):=(Dt (Fit.str h 0) (by decide) rfl (Fit.str h 0)).2
theorem zgf{ws ns:List Str}{d:Dr}(tw:BQ ws)(tn:BQ ns)(h:DrOk ws ns d):Jt [AO d,A5 d]=some (.ok (.bl true)):=by
 have hg:=h.g.sh;have ci:List.lookup Ai GY=some true:=rfl;have n1:=LI (tn _ h.s);have n2:=LI (tn _ h.e);have n3:=LI (K9 h.z);have q1:=(Dt (GK tw IG h.g) (by decide) rfl (GK tw IG h.g)).1
 have fn:=E1 λx hx=>tw x (h.n x hx)
 have q2:=(Dt fn (by decide) rfl fn).1
 unfold Jt L9
 simp![Mv,Mw,F8,ci,n1,n2,n3,q1,q2,Sh hg,S6 hg,hg,AQ _ hg,A3,AS]
abbrev O3:Stmt:=A4 39
def Mm:AD :=
 (AU (AA 0) (mC (.int 0)))
def KE:AH :=
 (Aj (BK (m2 B0 (Bi Aa Ab G4 (AA 0) (AB (AU (AU (AA 2) (AA 4)) (mC (.int 0))) AE)) (AU (AU (AA 2) (AA 4)) (mC (.int 1)))) (Ay (m1 (Bk "list") (Bi Aa Ab G4 (AA 0) (AB (AU (AU (AA 2) (AA 4)) (mC (.int 0))) AE))))) (A8 (mC (.bl false))) Ag)
def Mj:AD :=
 (Bi Aa Ab Jq (AA 1) (AB (AA 0) AE))
def Ml:AD :=
 (A7 Jt (AB (AA 0) (AB (AA 1) AE)))
def JJ:AH :=
 (AG (Aj (BK (m2 B0 (Bi Aa Ab Hu (AA 0) AE) (AA 1)) (m2 B0 (Bi Aa Ab Jr (AA 0) AE) (BL 1 [] (BP (AA 2)) (AF 0) (mC (.bl true)) Mm))) (A8 (mC (.bl false))) Ag)
 (AG (CP (CB (AB (m1 BS (AA 2)) AE)) (AF 4) KE)
 (AG (Aj (m2 B0 (BL 1 [0] (BP (AA 1)) (AF 0) (mC (.bl true)) Mj) (HJ (AB (mC (.int 1)) (AB (m2 BA (m1 BS (AA 1)) (mC (.int 1))) AE)))) (A8 (mC (.bl false))) Ag)
 (AG (Ae (Bi Aa Ab G5 (AA 0) AE) (AF 5))
 (AG (Aj (BK (Ay (m1 (Bk "list") (AA 5))) (m2 B0 (m1 BS (AA 5)) (m1 BS (AA 3)))) (A8 (mC (.bl false))) Ag)
 (A8 (m1 Du (BL 2 [] (Fb (AB (AA 5) (AB (AA 3) AE))) (DB 2 (B8 (AF 0) (B8 (AF 1) DM))) (mC (.bl true)) Ml))))))))
def G6:List T->Option Ru:=Ac 4 6 JJ
abbrev Rx:Fn:=⟨3,["_law_machine","_law_watches","_law_rooms_here","_law_doors_here"],G6⟩
abbrev zdj:Gx:={ CN with mt:=[("watches",Aa,Ab,MJ),("rooms",Aa,Ab,ML),("stay",Aa,Ab,MK),("watch_number",Aa,Ab,Rw),("doors",Aa,Ab,MN)] }
abbrev zdl:Gm:=gA ["_law_machine","_law_watches","_law_rooms_here","_law_doors_here","_law_k","_law_told"] O3 2 [("_law_same",SA)] ["range","len","isinstance","list","all","zip"] [] ["_law_machine"] (ox:=zdj)
theorem zdx:Ck zdl Rx O3 JJ:={}
theorem NP{α:Type}:∀l:List α,l.zip l=l.map λx=>(x,x)
 |[]=>rfl
 |x::l=>by rw[ybj,NP l];rfl
theorem zkm{α:Type}(f:α->T)(l:List α)(d:α):(List.range l.length).map (λi=>f (l.getD i d))=l.map f:=by
 refine(Er (n:=l.length) (g:=λi=>f (l.getD i d)) (by simp) λi hi=>?_).symm
 rw[ya9,yaq,ya0 hi]
 rfl
theorem Et{α:Type}{b:T->AI->Option AI}{me:AD}(f g:α->T)(I:AI->Prop):∀(L:List α) (τ:AI),I τ->(∀x∈L,∀τ,I τ->∃τ1,b (f x) τ=some τ1/\me τ1=some (.v (g x) false)/\I τ1)->BM b (mC (.bl true)) me (L.map f) τ=some (L.map g)
 |[],_,_,_=>rfl
 |x::L,τ,h,hs=>by
  obtain⟨τ1,e1,e3,h1⟩:=hs x (yac ..) τ h;have k:=Et f g I L τ1 h1 λu hu=>hs u (ya7 _ hu)
  rw[yal,yal];unfold BM;unfold mC at k ⊢;simp only[e1,e3,k]
section
variable {M:Mc}(h:McOk M)
include h
theorem zef:G6 [BI M,.lst (M.ws.map T.str),Ar M.rs,.lst (M.ds.map A5)]=some (.ok (.bl true)):=by
 have sm:=h.sh;have em:=Ii _ sm;have sr:=GC h.r;have er:=AQ _ sr;have sd:=h.sd;have ed:=AQ _ sd;have h64:=h.r.l64;have h200:=h.dl;have h7:=h.wl;have sp:A6 (M.ds.map A5)=true:=FP λd hd=>Pb (h.d d hd)
 have ep:=AQ _ sp;have mw:=Qf h;have mr:=Qh h;have md:=Qo h;have q1:=(Dt (E1 h.tw) (by decide) rfl (E1 h.tw)).2
 have q2:=(Dt (E1 h.tn) (by decide) rfl (E1 h.tn)).2
 have l3:BM (AF 0) (mC (.bl true)) Mm (M.rs.map Bo) [none]=some ((M.rs.map (·.1)).map T.str):=by
  rw[ybs];refine Et Bo (λr=>T.str r.1) (λτ=>∃a,τ=[a]) M.rs _ ⟨none,rfl⟩ λr hr τ hI=>?_
  obtain⟨a,rfl⟩:=hI;have k:=(h.r.lk r hr).1.sh;exact⟨[some (Bo r)],by simp![],by unfold Mm;simp![k],_,rfl⟩
 have m64:M.rs.length<=AW:=by unfold AW;omega
 have m200:M.ds.length<=AW:=by unfold AW;omega
 have m7:M.ws.length<=AW:=by unfold AW;omega
 have ci:Bk "list" (.lst (M.ds.map AO))=some (.bl true):=rfl
 obtain⟨τ,e,y4,rfl⟩:=Ds (b:=AF 4) (body:=KE) (ts:=mT M.rs.length λi=>.int (i:Int)) (τ:=[some (BI M),some (.lst (M.ws.map T.str)),some (Ar M.rs),some (.lst (M.ds.map A5)),none,none])
  (λi τ=>∃y4,τ=[some (BI M),some (.lst (M.ws.map T.str)),some (Ar M.rs),some (.lst (M.ds.map A5)),y4,none]) ⟨none,rfl⟩ λi t τ h1 h2=>by
   obtain⟨hi,rfl⟩:=EX h1;obtain⟨y4,rfl⟩:=h2;have ea:AV (M.rs.map Bo) (i:Int)=some (Bo M.rs[i]):=E4 Bo (CF (by omega) (by rw[yb2,ya0 hi]))
   have k1:=(h.r.lk _ (yar hi)).1;have k:=k1.sh;have q:=(Dt (GK h.tw Ic k1) (by decide) rfl (GK h.tw Ic k1)).2
   have e:=Qg h hi;refine⟨[some (BI M),some (.lst (M.ws.map T.str)),some (Ar M.rs),some (.lst (M.ds.map A5)),some (.int (i:Int)),none],by simp![],[some (BI M),some (.lst (M.ws.map T.str)),some (Ar M.rs),some (.lst (M.ds.map A5)),some (.int (i:Int)),none],?_,_,rfl⟩
   unfold KE
   simp![ea,sr,er,k,AQ _ k,e,q,A3,AS,h.ss,h.sd,AQ _ h.ss,ed]
 have l6:=HU (b:=AF 0) (me:=Mj) (ts:=M.ws.map T.str) (τ:=[none,some (BI M)]) (λ_ τ=>∃x,τ=[x,some (BI M)]) (λi=>.int ((i:Int)+1)) ⟨none,rfl⟩ λi t τ h1 h2=>by
  obtain⟨x,rfl⟩:=h2;have hi:i<M.ws.length:=by simpa using (ya3.mp h1).1
  rw[ya9,ya0 hi]at h1;have et:t=.str M.ws[i]:=(yao h1).symm;subst et;have e:=zhj h (RY h.wd hi);refine⟨[some (.str M.ws[i]),some (BI M)],by simp![],?_,_,rfl⟩
  unfold Mj
  simp![e,A3,AS,h.ss,h.sd,AQ _ h.ss,ed]
 rw[ya2]at l6
 have rg:Bb 1 M.ws.length=(List.range M.ws.length).map λ(i:Nat)=>T.int ((i:Int)+1):=by
  unfold Bb;exact List.map_congr_left λi _=>by rw[Int.add_comm]
 have fI:Fit (.lst ((List.range M.ws.length).map λ(i:Nat)=>T.int ((i:Int)+1))) 1:=Fit.nd λt ht=>by
  obtain⟨i,_,rfl⟩:=yap.mp ht;exact Fit.int _ _
 have q6:=(Dt fI (by decide) rfl fI).2
 have sI:A6 ((List.range M.ws.length).map λ(i:Nat)=>T.int ((i:Int)+1))=true:=FP λ_ _=>rfl
 have zp:Fl (M.ds.map AO) (M.ds.map A5)=M.ds.map λd=>T.tup [AO d,A5 d]:=by
  rw[NO,NP,ybs]
  rfl
 have l11:BM (DB 2 (B8 (AF 0) (B8 (AF 1) DM))) (mC (.bl true)) Ml (M.ds.map λd=>T.tup [AO d,A5 d]) [none,none]=some (M.ds.map λ_=>T.bl true):=by
  refine Et (λd=>T.tup [AO d,A5 d]) (λ_=>T.bl true) (λτ=>∃a b,τ=[a,b]) M.ds _ ⟨none,none,rfl⟩ λd hd τ hI=>?_
  obtain⟨a,b,rfl⟩:=hI;have k:=h.d d hd;have kg:=k.g.sh;have e:=zgf h.tw h.tn k;exact⟨[some (AO d),some (A5 d)],by simp![],by unfold Ml;simp![e,kg,AQ _ kg,A3,AS],_,_,rfl⟩
 have eb:(M.ds.map λ_=>T.bl true)=mT M.ds.length λ_=>.bl true:=Er (by simp) λi hi=>by simp[hi]
 rw[eb]at l11;have ba:((List.range M.ds.length).map λ_=>true).all id=true:=by simp
 have S7:=AQ _ h.ss;have okr:Bg (M.rs.length:Int)=true:=DU (by omega)
 have erg:Bb 0 M.rs.length=mT M.rs.length λi=>.int (i:Int):=DQ
 have ok1:(Bg 1 && Bg ((M.ws.length:Int)+1))=true:=by
  rw[show(1:Int)=((1:Nat):Int) from rfl,DU (n:=1) (by omega),show((M.ws.length:Int)+((1:Nat):Int))=((M.ws.length+1:Nat):Int) from rfl,DU (n:=M.ws.length+1) (by omega)]
  rfl
 have n1:((M.ws.length:Int)+1 - 1).toNat=M.ws.length:=by omega
 have bq:((M.ds.length:Int) == (M.ds.length:Int))=true:=ydx _
 have key:JJ [some (BI M),some (.lst (M.ws.map T.str)),some (Ar M.rs),some (.lst (M.ds.map A5)),none,none]=some (.rt (.bl true)):=by
  unfold JJ;refine sq (τ':=[some (BI M),some (.lst (M.ws.map T.str)),some (Ar M.rs),some (.lst (M.ds.map A5)),none,none]) (by simp![h.ss,S7,mw,mr,A3,AS,ed,sd,er,sr,ya2,m64,l3,q1,q2]) ?_
  refine sq (τ':=[some (BI M),some (.lst (M.ws.map T.str)),some (Ar M.rs),some (.lst (M.ds.map A5)),y4,none]) (by simp![er,sr,ya2,okr,erg,e]) ?_
  refine sq (τ':=[some (BI M),some (.lst (M.ws.map T.str)),some (Ar M.rs),some (.lst (M.ds.map A5)),y4,none]) (by simp![h.ss,S7,A3,AS,ed,sd,ya2,m7,l6,HJ,ok1,n1,rg,q6,sI,AQ _ sI]) ?_
  refine sq (τ':=[some (BI M),some (.lst (M.ws.map T.str)),some (Ar M.rs),some (.lst (M.ds.map A5)),y4,some (.lst (M.ds.map AO))]) (by simp![h.ss,S7,A3,AS,ed,sd,md]) ?_
  refine sq (τ':=[some (BI M),some (.lst (M.ws.map T.str)),some (Ar M.rs),some (.lst (M.ds.map A5)),y4,some (.lst (M.ds.map AO))]) (by simp![ed,sd,ep,sp,ci,LJ,ya2,bq]) ?_
  simp![ed,sd,ep,sp,zp,ya2,Bv,m200,l11,G0,ba]
 unfold G6
 simp![h.ss,S7,A3,AS,ed,sd,er,sr,ep,sp,key]
end
abbrev O5:Stmt:=A4 40
def KI:AH :=
 (AG (DN (Bi Ai As Hz (AA 2) AE) (Dk (AB (mC (.str "z")) (AB (mC (.str "<")) (AB (mC (.int 1)) AE)))))
 (DN (Bi Ai As G8 (AA 2) AE) (mC (.str "z"))))
def L8:AH :=
 (AG (DN (Bi Aa Ab Hu (AA 0) AE) (mC (.str "z")))
 (AG (FQ (Bi Aa Ab Jr (AA 0) AE))
 (AG (DN (Bi Aa Ab G5 (AA 0) AE) (mC .non))
 (AG (DN (Bi Aa Ab G4 (AA 0) (AB (AU (AU (AA 1) (mC (.int 0))) (mC (.int 0))) AE)) (Dk (AB (mC (.str "z")) (AB (mC (.str "<")) (AB (mC (.int 1)) AE)))))
 (CP (BP (Bi Aa Ab G5 (AA 0) AE)) (AF 2) KI)))))
def Hv:List T->Option Ru:=Ac 2 3 L8
abbrev Rz:Fn:=⟨2,["_law_machine","_law_rooms_here"],Hv⟩
abbrev zdk:Gx:={ CN with mt:=[("watches",Aa,Ab,MJ),("rooms",Aa,Ab,ML),("doors",Aa,Ab,MN),("stay",Aa,Ab,MK),("asks",Ai,As,MS),("sets",Ai,As,MQ)] }
abbrev zdm:Gm:=gA ["_law_machine","_law_rooms_here","_law_door_here"] O5 1 [] [] (ox:=zdk)
theorem zdy:Ck zdm Rz O5 L8:={}
theorem zei{M:Mc}(h:McOk M):Hv [BI M,Ar M.rs]=some (.ok .non):=by
 have S7:=AQ _ h.ss;have sr:=GC h.r;have er:=AQ _ sr;have sd:=h.sd;have ed:=AQ _ sd;have h200:=h.dl;have h7:=h.wl;have h1:=h.r.l1;have hi:0<M.rs.length:=by omega
 have mw:=Qf h;have mr:=Qh h;have md:=Qo h;have ms:=Qg h hi;have k:=(h.r.lk _ (yar hi)).1.sh;have kl:=(h.r.lk _ (yar hi)).2;have ea:AV (M.rs.map Bo) 0=some (Bo M.rs[0]):=E4 Bo (CF (by decide) (ya0 hi))
 have m7:M.ws.length<AW:=by unfold AW;omega
 have m200:M.ds.length<AW:=by unfold AW;omega
 have mk:M.rs[0].2.length<AW:=by unfold AW;omega
 obtain⟨τ,e,y2,rfl⟩:=Ds (b:=AF 2) (body:=KI) (ts:=M.ds.map AO) (τ:=[some (BI M),some (Ar M.rs),none])
  (λi τ=>∃y,τ=[some (BI M),some (Ar M.rs),y]) ⟨none,rfl⟩ λi t τ h1 h2=>by
   obtain⟨y,rfl⟩:=h2;obtain⟨d,hd,rfl⟩:=yap.mp (ybb h1);have kd:=h.d d hd;have kg:=kd.g.sh;have l1:d.g.length<AW:=by have:=kd.gl;unfold AW;omega
   have l2:d.n.length<AW:=by have:=kd.nl;unfold AW;omega
   refine⟨[some (BI M),some (Ar M.rs),some (AO d)],by simp![],[some (BI M),some (Ar M.rs),some (AO d)],?_,_,rfl⟩
   unfold KI
   simp![DN,Sh kg,S6 kg,kg,AQ _ kg,A3,AS,ya2,l1,l2]
 unfold Hv L8
 simp![DN,FQ,h.ss,S7,A3,AS,ed,sd,er,sr,ya2,m7,m200,mk,mw,mr,md,ms,ea,k,e]
abbrev Ka:Stmt:=A4 41
def M6:AD :=
 (m1 CA (AU (AA 0) (mC (.int 2))))
def Ma:AD :=
 (m1 CA (AU (AA 0) (mC (.int 3))))
def Jb:AD :=
 (A7 Jv (AB (AU (AA 2) (AA 0)) (AB (AU (AA 3) (AA 0)) (AB (AU (AA 1) (AA 0)) AE))))
def M9:AD :=
 (HH (Bj (AA 0) (Bj (m1 CA (AA 1)) AE)))
def M8:AD :=
 (AU (AA 0) (mC (.int 2)))
def M7:AD :=
 (AU (AA 0) (mC (.int 3)))
def II:AH :=
 (AG (ET 7 (AA 12) (Dk (AB (mC (.str "z")) (AB (mC (.str "<")) (AB (mC (.int 1)) AE)))))
 (ET 8 (AA 12) (mC (.str "z"))))
def Ge:AH :=
 (Ee 10 (AA 12))
def JH:AH :=
 (AG (Ae (A7 Hw (AB (A7 Cn (AB (AA 0) (AB (mC (.int 1)) AE))) (AB (mC (.int 72)) AE))) (AF 1))
 (AG (Ae (AU (Cv (Bj (mC (.int 64)) (Bj (mC (.int 0)) AE))) (m2 Am (m2 CD (A7 Cn (AB (AA 0) (AB (mC (.int 0)) AE))) (mC (.int 224))) (mC (.int 2)))) (AF 2))
 (AG (Ae (Bp (DG (AA 1) (some (AA 2)) (some (m2 BA (AA 2) (m2 Am (m2 CD (A7 Cn (AB (AA 0) (AB (mC (.int 0)) AE))) (mC (.int 8))) (mC (.int 7)))))) (DV (AA 1) (some (AA 2)) (some (m2 BA (AA 2) (m2 Am (m2 CD (A7 Cn (AB (AA 0) (AB (mC (.int 0)) AE))) (mC (.int 8))) (mC (.int 7))))))) (AF 3))
 (AG (Aj (m2 B5 (m2 Am (m2 CD (A7 Cn (AB (AA 0) (AB (mC (.int 0)) AE))) (mC (.int 56))) (mC (.int 4))) (mC (.int 1))) (Ae (m2 BA (m2 BA (Bp (DG (AA 3) none (some (mC (.int 3)))) (DV (AA 3) none (some (mC (.int 3))))) (Cv (Bj (mC (.str "/")) AE))) (Bp (DG (AA 3) (some (mC (.int 3))) none) (DV (AA 3) (some (mC (.int 3))) none))) (AF 3)) Ag)
 (AG (Ae (m2 BA (mC (.int 1)) (m2 Am (A7 Cn (AB (AA 0) (AB (mC (.int 14)) AE))) (m2 Ei (mC (.int 10)) (mC (.int 40))))) (AF 4))
 (AG (Ae (A7 Ju (AB (AA 0) (AB (AA 1) (AB (AA 3) (AB (AA 4) AE))))) (AF 5))
 (AG (Ae (A7 Hx (AB (AA 0) (AB (AA 5) (AB (AA 3) (AB (AA 4) AE))))) (AF 6))
 (AG (DO 7 (BL 1 [] (BP (AA 6)) (AF 0) (mC (.bl true)) M6))
 (AG (DO 8 (BL 1 [] (BP (AA 6)) (AF 0) (mC (.bl true)) Ma))
 (AG (DO 9 (DW 8 (DW 7 (BL 1 [8,6,7] (CB (AB (m1 BS (AA 6)) AE)) (AF 0) (mC (.bl true)) Jb))))
 (AG (FU 10 9 (m1 CA (AA 3)) (BL 2 [] (BP (AA 5)) (DB 2 (B8 (AF 0) (B8 (AF 1) DM))) (mC (.bl true)) M9))
 (AG (Ae (DW 10 (F6 Js [] (AB (AU (AA 10) (mC (.int 0))) (AB (AU (AA 10) (mC (.int 1))) (AB (AU (AA 10) (mC (.int 2))) AE))))) (AF 11))
 (AG (Aj (BK (m2 B0 (AU (AA 10) (mC (.int 0))) (AA 3)) (BK (m2 B0 (AU (AA 10) (mC (.int 1))) (AA 5)) (m2 B0 (AA 7) (BL 1 [] (BP (AA 6)) (AF 0) (mC (.bl true)) M8)))) (A8 (mC (.bl false))) Ag)
 (AG (Aj (BK (m2 B0 (AA 8) (BL 1 [] (BP (AA 6)) (AF 0) (mC (.bl true)) M7)) (Ay (A7 G6 (AB (AA 11) (AB (AA 3) (AB (AA 5) (AB (AA 6) AE))))))) (A8 (mC (.bl false))) Ag)
 (AG (CP (CB (AB (m1 BS (AA 6)) AE)) (AF 12) II)
 (AG (FR 1 10 13 14 (.tup [(.str "z"),(.str "<"),(.int 1)]))
 (AG (CP (CB (AB (mC (.int 3)) AE)) (AF 12) Ge)
 (AG (Ed (A7 Hv (AB (AA 11) (AB (AA 5) AE))))
 (A8 (A7 G6 (AB (AA 11) (AB (AA 3) (AB (AA 5) (AB (AA 6) AE))))))))))))))))))))))))
def NA:List T->Option Ru:=Ac 1 15 JH
abbrev zld:Fn:=⟨8,["_law_script"],NA⟩
abbrev zl8:Gx:={ CN with nw:=[("Machine",MM,[(3,[])])],fo:=["()","_law_made","_law_handed"] }
abbrev zl9:Gm:=⟨["_law_script","_law_names_here","_law_first","_law_watches","_law_unit","_law_rooms_here","_law_doors_here","_law_guards","_law_backs","_law_made","_law_handed","_law_machine","_law_k","_law_name","_law_stay"],(BU Ka).names,["_law_doors_here","_law_guards","_law_backs"],7,[("_law_names",SE),("_law_cell_at",J6),("_law_rooms",SD),("_law_doors",SG),("_law_door",SH),("_law_tells",Rx),("_law_spoil",Rz)],["list","range","len"],[],["_law_guards","_law_backs","_law_handed","_law_made"],[],false,[],["_law_guards","_law_backs","_law_handed"],[],zl8⟩
theorem zll:Ck zl9 zld Ka JH:={}
theorem zi4{α:Type}(l:List α)(lo hi:Option Int):(B7 l lo hi).Sublist l:=(List.take_sublist _ _).trans (List.drop_sublist _ _)
theorem zlg(l:List Str):B7 l none (some 3)=l.take 3:=by
 match l with
 |[]=>rfl
 |[a]=>rfl
 |[a,b]=>rfl
 |a::b::c::r =>
  unfold B7;rw[show(some (3:Int))=some ((3:Nat):Int) from rfl,HT.sIx_nat,HT.sIx_none,yax,yax,yax,Nat.min_eq_left (by omega)]
  rfl
theorem zlh(l:List Str):B7 l (some 3) none=l.drop 3:=by
 match l with
 |[]=>rfl
 |[a]=>rfl
 |[a,b]=>rfl
 |a::b::c::r =>
  unfold B7;rw[show(some (3:Int))=some ((3:Nat):Int) from rfl,HT.sIx_nat,HT.sIx_none,yax,yax,yax,Nat.min_eq_left (by omega)]
  show r.take (r.length+1+1+1 - 3)=r;rw[show r.length+1+1+1 - 3=r.length by omega,yco]
def Dh(f:Nat->Str)(a q:Nat):List Str:=B7 ((List.range 72).map f) (some (a:Int)) (some ((a:Int)+(q:Int)))
theorem zig{f:Nat->Str}(hf:Nms f){a q:Nat}(hq:q<7)(b:Bool):(Dh f a q).length<=6/\∃W:List Str,(∀x∈W,EJ x)/\W.Nodup/\W.length<=7/\(b=false->W=Dh f a q)/\(b=true->W=(Dh f a q).take 3++Str.ofString "/"::(Dh f a q).drop 3):=by
 have hsub:(Dh f a q).Sublist ((List.range 72).map f):=zi4 _ _ _;have hnd:=(Qc hf (n:=72) (ya6 _)).sublist hsub
 have hl:(Dh f a q).length<=6:=by
  unfold Dh B7;rw[show(a:Int)+(q:Int)=((a+q:Nat):Int) from rfl,HT.sIx_nat,HT.sIx_nat,yb4]
  omega
 have hm:∀x∈Dh f a q,∃k,x=f k:=λx hx=>by
  obtain⟨k,_,e⟩:=yap.mp (hsub.subset hx);exact⟨k,e.symm⟩
 refine⟨hl,?_⟩;generalize Dh f a q=W0 at *
 have hw:∀x∈W0,EJ x:=λx hx=>by
  obtain⟨k,rfl⟩:=hm x hx;have:=hf.l2 k;exact .inr ⟨hf.sm k,by omega,by omega⟩
 cases b
 .exact⟨W0,hw,hnd,by omega,λ_=>rfl,λz=>by cases z⟩
 .refine⟨W0.take 3++Str.ofString "/"::W0.drop 3,λx hx=>?_,?_,?_,(λz=>by cases z),λ_=>rfl⟩
  .rcases yb3.mp hx with hx|hx
   .exact hw x (List.mem_of_mem_take hx)
   .rcases yak.mp hx with rfl|hx
    .exact .inl rfl
    .exact hw x (List.mem_of_mem_drop hx)
  .rw[List.perm_middle.nodup_iff,yc7,List.take_append_drop];refine⟨λz=>?_,hnd⟩
   obtain⟨k,e⟩:=hm _ z;have h2:=(hf.l2 k).1;rw[<- e]at h2;exact absurd h2 (by decide +kernel)
  .rw[yau,yax,yb4,List.length_drop]
   omega
theorem GI{α:Type}{f:α->T}:∀{L:List α},(∀x∈L,(f x).lnd=true)->CW (L.map f)=true
 |[],_=>rfl
 |x::L,h=>by
  rw[yal,CW,h x (yac ..),GI λy hy=>h y (ya7 _ hy)]
  rfl
theorem JF{α:Type}{f:α->T}:∀{L:List α},(∀x∈L,(f x).noR=true)->BY (L.map f)=true
 |[],_=>rfl
 |x::L,h=>by
  rw[yal,BY,h x (yac ..),JF λy hy=>h y (ya7 _ hy)]
  rfl
theorem HP{α:Type}{f g:α->T}{L:List α}(h:∀x∈L,(f x).lend=g x):CM (L.map f)=L.map g:=by
 rw[HQ,ybs];exact List.map_congr_left h
theorem GJ{ws wd:List Str}{l:List T}(h:Dg ws wd l):CW l=true/\CM l=l/\BY l=true:=by
 induction l with
 |nil=>exact⟨rfl,rfl,rfl⟩
 |cons t r ih =>
  obtain⟨i1,i2,i3⟩:=ih λu hu=>h u (ya7 _ hu)
  obtain⟨x,y,n,rfl,_⟩:=h t (yac ..);refine⟨?_,?_,?_⟩
  .rw[CW,i1]
   rfl
  .rw[CM,i2]
   rfl
  .rw[BY,i3]
   rfl
theorem Fw(l:List Str):CW (l.map T.str)=true/\CM (l.map T.str)=l.map T.str/\BY (l.map T.str)=true:=⟨GI λ_ _=>rfl,HP λ_ _=>rfl,JF λ_ _=>rfl⟩
abbrev Cc(d:Dr):T:=.own d.g
abbrev FC(d:Dr):T:=.nd false .rl d.g
abbrev Cm(d:Dr):T:=.own (d.n.map T.str)
abbrev FA(d:Dr):T:=BF d.n
abbrev Bq(r:Str×List T):T:=.nd true .tup [.str r.1,.own r.2]
section
variable {M:Mc}(h:McOk M)
include h
theorem lnd7:(T.own (M.ds.map Cc)).lnd=true/\(T.own (M.ds.map Cc)).lend=.nd false .rl (M.ds.map FC):=by
 refine⟨GI λd hd=>(GJ (h.d d hd).g).1,?_⟩
 show T.nd false .rl (CM _)=_;rw[HP (g:=FC) λd hd=>?_]
 show T.nd false .rl (CM _)=_;rw[(GJ (h.d d hd).g).2.1]
theorem lnd8:(T.own (M.ds.map Cm)).lnd=true/\(T.own (M.ds.map Cm)).lend=.nd false .rl (M.ds.map FA):=by
 refine⟨GI λd hd=>(Fw d.n).1,?_⟩
 show T.nd false .rl (CM _)=_;rw[HP (g:=FA) λd hd=>?_]
 show T.nd false .rl (CM _)=_;rw[(Fw d.n).2.1]
theorem Q9:BY (M.ds.map AO)=true:=JF λd hd=>by
 show(true && (true && (true && ((true && BY d.g) && ((true && BY (d.n.map T.str)) && (true && true))))))=true;rw[(GJ (h.d d hd).g).2.2,(Fw d.n).2.2]
 rfl
theorem lnd10:(T.own [.own (M.ws.map T.str),.own (M.rs.map Bq),.own (M.ds.map AO)]).lnd=true/\(T.own [.own (M.ws.map T.str),.own (M.rs.map Bq),.own (M.ds.map AO)]).lend=.nd false .rl [BF M.ws,Cs M.rs,.nd false .rl (M.ds.map AO)]:=by
 constructor
 .show(CW (M.ws.map T.str) && (CW (M.rs.map Bq) && (CW (M.ds.map AO) && true)))=true;rw[(Fw M.ws).1,GI (f:=Bq) λr hr=>?_,GI (f:=AO) λd hd=>?_]
  .rfl
  .exact MX (h.d d hd)
  .show([T.str r.1,.own r.2].any JY && (true && (CW r.2 && true)))=true;rw[(GJ (h.r.lk r hr).1).1]
   rfl
 .show T.nd false .rl [.nd false .rl (CM _),.nd false .rl (CM _),.nd false .rl (CM _)]=_;rw[(Fw M.ws).2.1,HP (f:=Bq) (g:=C7) λr hr=>?_,HP (f:=AO) (g:=AO) λd hd=>rfl]
  show T.nd false .tup [.str r.1,.nd false .rl (CM r.2)]=_;rw[(GJ (h.r.lk r hr).1).2.1]
theorem nor11:(BI M).noR=true:=by
 show(true && ((true && BY (M.ws.map T.str)) && ((true && BY (M.rs.map λr=>T.lst r.2)) && ((true && BY (M.ds.map AO)) && true))))=true
 rw[(Fw M.ws).2.2,Q9 h,JF (f:=λr:Str×List T=>T.lst r.2) λr hr=>?_]
 .rfl
 .show(true && BY r.2)=true;rw[(GJ (h.r.lk r hr).1).2.2]
  rfl
end
theorem RQ{n k:Nat}(h:k<n):CZ n (k:Int)=some k:=by
 unfold CZ;rw[if_pos (by omega),if_pos (by omega),yb2]
theorem TQ{τ:AI}{i k:Nat}{l r:List T}{mk m:AD}{te:T}{b:Bool}(h1:τ[i]?=some (some (.own l)))(h2:mk τ=some (.v (.int (k:Int)) b))(hk:k<l.length)(h3:l[k]?=some (.own r))(h4:m τ=some (.v te false))(hs:te.sh=true)(hr:r.length<AW):ET i mk m τ=some (.nx (τ.set i (some (.own (l.set k (.own (r++[te]))))))):=by
 unfold ET CJ;simp only[h1,h2,RQ hk,h3,Dj,h4,hs,hr,and_self,ydn]
theorem zlk{τ:AI}{i k:Nat}{l r:List T}{mk:AD}{b:Bool}(h1:τ[i]?=some (some (.own l)))(h2:mk τ=some (.v (.int (k:Int)) b))(hk:k<l.length)(h3:l[k]?=some (.own r)):Ee i mk τ=some (.nx (τ.set i (some (.own (l.set k (.own [])))))):=by
 unfold Ee CJ;simp only[h1,h2,RQ hk,h3,Dj]
abbrev IF:T:=.tup [.str (Str.ofString "z"),.str (Str.ofString "<"),.int 1]
def Dw(i n:Nat)(A:List T):Prop:=A.length=n/\∀j,i<=j->j<n->∃r,A[j]?=some (.own r)/\r.length<=1000
theorem Dw.step{i n:Nat}{A:List T}(h:Dw i n A)(t:T):Dw (i+1) n (A.set i t):=by
 refine⟨by rw[ybl];exact h.1,λj hj hn=>?_⟩
 obtain⟨r,e,hr⟩:=h.2 j (by omega) hn
 exact⟨r,by rw[ya5 (by omega)];exact e,hr⟩
theorem Dw.of{α:Type}{f:α->List T}{L:List α}(h:∀x∈L,(f x).length<=1000):Dw 0 L.length (L.map λx=>T.own (f x)):=by
 refine⟨by rw[ya2],λj _ hj=>⟨f L[j],?_,h _ (yar hj)⟩⟩
 rw[ya9,ya0 hj]
 rfl
section
variable {p0 p1 p2 p3 p4 p5 p6 p10 p11:Option T}
abbrev Bw(p0 p1 p2 p3 p4 p5 p6 x7 x8 x10 p11 x12:Option T):AI:=[p0,p1,p2,p3,p4,p5,p6,x7,x8,none,x10,p11,x12,none,none]
theorem zkp{n:Nat}{A B:List T}(hA:Dw 0 n A)(hB:Dw 0 n B):∃A' B' y,By (AF 12) II (mT n λi=>.int (i:Int)) (Bw p0 p1 p2 p3 p4 p5 p6 (some (.own A)) (some (.own B)) p10 p11 none)=some (.nx (Bw p0 p1 p2 p3 p4 p5 p6 (some (.own A')) (some (.own B')) p10 p11 y)):=by
 obtain⟨τ,e,A',B',y,_,_,rfl⟩:=Ds (b:=AF 12) (body:=II) (ts:=mT n λi=>.int (i:Int)) (τ:=Bw p0 p1 p2 p3 p4 p5 p6 (some (.own A)) (some (.own B)) p10 p11 none)
  (λi τ=>∃A B y,Dw i n A/\Dw i n B/\τ=Bw p0 p1 p2 p3 p4 p5 p6 (some (.own A)) (some (.own B)) p10 p11 y) ⟨A,B,none,hA,hB,rfl⟩ λi t τ h1 h2=>by
   obtain⟨hi,rfl⟩:=EX h1;obtain⟨A,B,y,hA,hB,rfl⟩:=h2;obtain⟨r,er,lr⟩:=hA.2 i (ya6 _) hi;obtain⟨s,es,ls⟩:=hB.2 i (ya6 _) hi;refine⟨Bw p0 p1 p2 p3 p4 p5 p6 (some (.own A)) (some (.own B)) p10 p11 (some (.int (i:Int))),by simp![],Bw p0 p1 p2 p3 p4 p5 p6 (some (.own (A.set i (.own (r++[IF]))))) (some (.own (B.set i (.own (s++[.str (Str.ofString "z")]))))) p10 p11 (some (.int (i:Int))),?_,_,_,_,hA.step _,hB.step _,rfl⟩
   unfold II;refine sq (TQ (b:=false) (k:=i) (l:=A) (r:=r) (te:=IF) rfl (by simp![]) (by rw[hA.1];exact hi) er (by simp![]) rfl (by unfold AW;omega)) ?_
   exact TQ (b:=false) (k:=i) (l:=B) (r:=s) (te:=.str (Str.ofString "z")) rfl (by simp![]) (by rw[hB.1];exact hi) es (by simp![]) rfl (by unfold AW;omega)
 exact⟨A',B',y,e⟩
variable {p7 p8:Option T}
theorem zko{y:Option T}{a b c:List T}:∃z,By (AF 12) Ge (mT 3 λi=>.int (i:Int)) (Bw p0 p1 p2 p3 p4 p5 p6 p7 p8 (some (.own [.own a,.own b,.own c])) p11 y)=some (.nx (Bw p0 p1 p2 p3 p4 p5 p6 p7 p8 z p11 (some (.int 2)))):=by
 have w:∀(l r:List T) (k:Nat),k<l.length->l[k]?=some (.own r)->Ge (Bw p0 p1 p2 p3 p4 p5 p6 p7 p8 (some (.own l)) p11 (some (.int (k:Int))))=some (.nx (Bw p0 p1 p2 p3 p4 p5 p6 p7 p8 (some (.own (l.set k (.own [])))) p11 (some (.int (k:Int))))):=λl r k hk e=>by
  unfold Ge;exact zlk (b:=false) (k:=k) (l:=l) (r:=r) rfl (by simp![]) hk e
 have w0:=w [.own a,.own b,.own c] a 0 (show 0<3 by decide) rfl
 have w1:=w [.own [],.own b,.own c] b 1 (show 1<3 by decide) rfl
 have w2:=w [.own [],.own [],.own c] c 2 (show 2<3 by decide) rfl
 refine⟨some (.own [.own [],.own [],.own []]),?_⟩;show By (AF 12) Ge [.int ((0:Nat):Int),.int ((1:Nat):Int),.int ((2:Nat):Int)] _=_;unfold By;rw[show AF 12 (.int ((0:Nat):Int)) (Bw p0 p1 p2 p3 p4 p5 p6 p7 p8 (some (.own [.own a,.own b,.own c])) p11 y)=some (Bw p0 p1 p2 p3 p4 p5 p6 p7 p8 (some (.own [.own a,.own b,.own c])) p11 (some (.int ((0:Nat):Int)))) from rfl];simp only[w0];unfold By;rw[show AF 12 (.int ((1:Nat):Int)) (Bw p0 p1 p2 p3 p4 p5 p6 p7 p8 (some (.own ([T.own a,.own b,.own c].set 0 (.own [])))) p11 (some (.int ((0:Nat):Int))))=some (Bw p0 p1 p2 p3 p4 p5 p6 p7 p8 (some (.own [.own [],.own b,.own c])) p11 (some (.int ((1:Nat):Int)))) from rfl];simp only[w1];unfold By;rw[show AF 12 (.int ((2:Nat):Int)) (Bw p0 p1 p2 p3 p4 p5 p6 p7 p8 (some (.own ([T.own [],.own b,.own c].set 1 (.own [])))) p11 (some (.int ((1:Nat):Int))))=some (Bw p0 p1 p2 p3 p4 p5 p6 p7 p8 (some (.own [.own [],.own [],.own c])) p11 (some (.int ((2:Nat):Int)))) from rfl];simp only[w2]
 rfl
theorem zj8{rs:List (Str×List T)}(hr:∀r∈rs,r.2.length<=3){a c:T}{x12:Option T}:∃b:List T,FR 1 10 13 14 IF (Bw p0 p1 p2 p3 p4 p5 p6 p7 p8 (some (.own [a,.own (rs.map Bq),c])) p11 x12)=some (.nx (Bw p0 p1 p2 p3 p4 p5 p6 p7 p8 (some (.own [a,.own b,c])) p11 x12)):=by
 have e:((rs.map Bq).all λt=>(FV t).isSome)=true:=by
  rw[yan];intro t ht;obtain⟨r,hm,rfl⟩:=yap.mp ht;have hl:=hr r hm;show(if ((T.str r.1).sh && decide (r.2.length<1000000))=true then some (T.str r.1,r.2) else none).isSome=true
  rw[ydp (show r.2.length<1000000 by omega)]
  rfl
 refine⟨(rs.map Bq).map (FE IF),?_⟩;show(if _ then _ else _)=_
 rw[if_pos ⟨e,by decide,(show 13<15/\14<15 by decide),rfl⟩]
 rfl
end
theorem Ik{α:Type}{f g:α->T}:∀{L:List α},(∀x∈L,(f x).share=g x)->Af (L.map f)=L.map g
 |[],_=>rfl
 |x::L,h=>by
  rw[yal,yal,Af,h x (yac ..),Ik λy hy=>h y (ya7 _ hy)]
abbrev Hh(d:Dr):T:=.lst d.g
abbrev Hg(d:Dr):T:=.lst (d.n.map T.str)
abbrev Cw(p0 p1 p2 p3 p4 p5 p6 x7 x8 x9 x10 x11:Option T):AI:=[p0,p1,p2,p3,p4,p5,p6,x7,x8,x9,x10,x11,none,none,none]
theorem law_true(ns:List Int)(h:ns.length<=63):NA [Au ns]=some (.ok (.bl true)):=by
 have c0:=E3 ns (k:=0) (by decide)
 have c1:=E3 ns (k:=1) (by decide)
 have c14:=E3 ns (k:=14) (by decide)
 obtain⟨f,hf,en⟩:=nm_ex (ns.getD (1:Int).toNat 0);obtain⟨q,hq,hq7⟩:=Ez ((ns.getD (0:Int).toNat 0).fdiv 8) (m:=7) (by decide)
 have hq7':q<7:=by omega
 obtain⟨a,ea⟩:∃a:Nat,AV [T.int 64,T.int 0] (((ns.getD (0:Int).toNat 0).fdiv 224).fmod 2)=some (.int (a:Int)):=by
  have h2:((ns.getD (0:Int).toNat 0).fdiv 224).fmod 2=0\/((ns.getD (0:Int).toNat 0).fdiv 224).fmod 2=1:=by
   rw[fm (by decide)]
   omega
  rcases h2 with e|e<;>rw[e]
  .exact⟨64,rfl⟩
  .exact⟨0,rfl⟩
 obtain⟨hl6,W,hW1,hW2,hW3,hW4,hW5⟩:=zig hf (a:=a) hq7' (((ns.getD (0:Int).toNat 0).fdiv 56).fmod 4 == 1);have c3:B7 (((List.range 72).map f).map T.str) (some (a:Int)) (some ((a:Int)+(q:Int)))=(Dh f a q).map T.str:=MY ..;generalize Dh f a q=W0 at *;have tw:BQ W:=λx hx=>Fm (hW1 x hx)
 obtain⟨u,hu,eu⟩:∃u:Int,0<=u/\1+(ns.getD (14:Int).toNat 0).fmod (10 ^ 40)=u:=⟨_,by have:=ybz (ns.getD (14:Int).toNat 0) (show(0:Int)<10 ^ 40 by decide +kernel);exact ycy (by decide) this,rfl⟩
 have p40:(0:Int)<=40/\(40:Int)<=1000000/\ED 10=true:=⟨by decide,by decide,EC (by decide) (by decide)⟩
 have r40:(40:Int).toNat=40:=rfl;have n40:((10:Int) ^ 40=0)=False:=eq_false (by decide +kernel)
 obtain⟨rs,hR,eR⟩:=zer ns hf tw hu;obtain⟨D,hDl,hD,eD⟩:=zfo (ns:=ns) hW1 hW2 hW3 hR hu;have hM:McOk ⟨W,rs,D⟩:=⟨hW1,hW2,hW3,hR.ok,λd hd=>(hD d hd).ok,hDl⟩
 have tn:BQ (rs.map (·.1)):=hM.tn;have sc:=Fx ns;have ss:=Fy ns;have s8:Bf 8=true:=Ce (by decide) (by decide)
 have s56:Bf 56=true:=Ce (by decide) (by decide)
 have s224:Bf 224=true:=Ce (by decide) (by decide)
 have sr:=GC hR.ok;have er:=AQ _ sr;have sp:A6 (D.map A5)=true:=FP λd hd=>Pb (hD d hd).ok
 have ep:=AQ _ sp;have sd:A6 (D.map AO)=true:=hM.sd;have ed:=AQ _ sd;obtain⟨l7,e7⟩:(T.own (D.map Cc)).lnd=true/\(T.own (D.map Cc)).lend=.nd false .rl (D.map FC):=lnd7 hM;obtain⟨l8,e8⟩:(T.own (D.map Cm)).lnd=true/\(T.own (D.map Cm)).lend=.nd false .rl (D.map FA):=lnd8 hM;obtain⟨l10,e10⟩:(T.own [.own (W.map T.str),.own (rs.map Bq),.own (D.map AO)]).lnd=true/\(T.own [.own (W.map T.str),.own (rs.map Bq),.own (D.map AO)]).lend=.nd false .rl [BF W,Cs rs,.nd false .rl (D.map AO)]:=lnd10 hM;have n9:BY (D.map AO)=true:=Q9 hM;have mi:=zhk hM;have te:=zef hM;have so:=zei hM;have sm:=hM.sh;have em:=Ii _ sm;have n11:=nor11 hM;generalize eMT:BI ⟨W,rs,D⟩=MT at mi te so sm em n11;have mi:Js [BF W,Cs rs,.nd false .rl (D.map AO)]=some (.ok MT):=mi;have te:G6 [MT,.lst (W.map T.str),Ar rs,.lst (D.map A5)]=some (.ok (.bl true)):=te;have so:Hv [MT,Ar rs]=some (.ok .non):=so;have m200:D.length<=AW:=by unfold AW;omega
 have m64:rs.length<=AW:=by have:=hR.ok.l64;unfold AW;omega
 have kg:∀d∈D,A6 d.g=true:=λd hd=>(hD d hd).ok.g.sh
 have l9:BM (AF 0) (mC (.bl true)) M6 (D.map A5) [none]=some (D.map Cc):=Et A5 Cc (λτ=>∃a,τ=[a]) D _ ⟨none,rfl⟩ λd hd τ hI=>by
  obtain⟨a,rfl⟩:=hI;exact⟨[some (A5 d)],by simp![],by unfold M6;simp![kg d hd,AQ _ (kg d hd),A3,AS],_,rfl⟩
 have lb:BM (AF 0) (mC (.bl true)) Ma (D.map A5) [none]=some (D.map Cm):=Et A5 Cm (λτ=>∃a,τ=[a]) D _ ⟨none,rfl⟩ λd hd τ hI=>by
  obtain⟨a,rfl⟩:=hI;exact⟨[some (A5 d)],by simp![],by unfold Ma;simp![Mw,kg d hd,AQ _ (kg d hd),A3,AS],_,rfl⟩
 have l14:BM (AF 0) (mC (.bl true)) M8 (D.map A5) [none]=some (D.map Hh):=Et A5 Hh (λτ=>∃a,τ=[a]) D _ ⟨none,rfl⟩ λd hd τ hI=>by
  obtain⟨a,rfl⟩:=hI;exact⟨[some (A5 d)],by simp![],by unfold M8;simp![kg d hd,AQ _ (kg d hd),A3,AS],_,rfl⟩
 have l16:BM (AF 0) (mC (.bl true)) M7 (D.map A5) [none]=some (D.map Hg):=Et A5 Hg (λτ=>∃a,τ=[a]) D _ ⟨none,rfl⟩ λd hd τ hI=>by
  obtain⟨a,rfl⟩:=hI;exact⟨[some (A5 d)],by simp![],by unfold M7;simp![Mw,kg d hd,AQ _ (kg d hd),A3,AS],_,rfl⟩
 have l12:BM (DB 2 (B8 (AF 0) (B8 (AF 1) DM))) (mC (.bl true)) M9 (rs.map Bo) [none,none]=some (rs.map Bq):=Et Bo Bq (λτ=>∃a b,τ=[a,b]) rs _ ⟨none,none,rfl⟩ λr hr τ hI=>by
  obtain⟨a,b,rfl⟩:=hI;have k:=(hR.ok.lk r hr).1.sh;exact⟨[some (.str r.1),some (.lst r.2)],by simp![],by unfold M9;simp![HH,k,AQ _ k],_,_,rfl⟩
 have sG:A6 (D.map FC)=true:=FP λd hd=>by show((!false) && A6 d.g)=true;rw[kg d hd];rfl
 have sN:A6 (D.map FA)=true:=FP λd hd=>by show((!false) && A6 (d.n.map T.str))=true;rw[AS];rfl
 have l11:=Eu (n:=D.length) (me:=Jb) (x:=none) (cs:=[some (.nd false .rl (D.map FA)),some (.lst (D.map A5)),some (.nd false .rl (D.map FC))]) (g:=λi=>.int (i:Int)) (f:=λi=>AO (D.getD i ⟨Str.empty,Str.empty,[],[],Str.empty⟩)) λi hi=>by
  have eg:D.getD i ⟨Str.empty,Str.empty,[],[],Str.empty⟩=D[i]:=by simp[hi]
  have e0:AV D (i:Int)=some D[i]:=CF (by omega) (by rw[yb2,ya0 hi])
  have a1:=E4 FA e0;have a2:=E4 A5 e0;have a3:=E4 FC e0;have hm:=yar hi;have ed:=zi3 (hD _ hm).ok;have k:=kg _ hm;rw[eg];unfold Jb
  simp![a1,a2,a3,sG,sN,sp,ep,AQ _ sG,AQ _ sN,ed,k,AQ _ k,A3,AS]
 have l11':BM (AF 0) (mC (.bl true)) Jb (mT D.length λi=>.int (i:Int)) [none,some (.nd false .rl (D.map FA)),some (.lst (D.map A5)),some (.nd false .rl (D.map FC))]=some (D.map AO):=by
  rw[l11];exact congrArg some (zkm AO D _)
 have okD:Bg (D.length:Int)=true:=DU (by omega)
 have erD:Bb 0 D.length=mT D.length λi=>.int (i:Int):=DQ
 have hG:Af (D.map Cc)=D.map Hh:=Ik λd hd=>by show T.lst (Af d.g)=_;rw[AQ _ (kg d hd)]
 have hN:Af (D.map Cm)=D.map Hg:=Ik λd hd=>by show T.lst (Af (d.n.map T.str))=_;rw[A3]
 have hO:Af (rs.map Bq)=rs.map Bo:=Ik λr hr=>by
  show T.tup [.str r.1,.lst (Af r.2)]=_;rw[AQ _ (hR.ok.lk r hr).1.sh]
 have sGL:A6 (D.map Hh)=true:=FP λd hd=>by show((!false) && A6 d.g)=true;rw[kg d hd];rfl
 have sNL:A6 (D.map Hg)=true:=FP λd hd=>by show((!false) && A6 (d.n.map T.str))=true;rw[AS];rfl
 have q1:=(Dt (E1 tw) (by decide) rfl (E1 tw)).2
 have fR:Fit (Ar rs) 4:=Fit.nd λt ht=>by
  obtain⟨r,hr,rfl⟩:=yap.mp ht;refine Fit.tup λt ht=>?_
  simp only[yak,yb8,ydt]at ht
  rcases ht with rfl|rfl
  .exact Fit.str (tn _ (yap.mpr ⟨r,hr,rfl⟩)) _
  .exact GK tw Ic (hR.ok.lk r hr).1
 have q2:=(Dt fR (by decide) rfl fR).2
 have fG:Fit (.lst (D.map Hh)) 3:=Fit.nd λt ht=>by
  obtain⟨d,hd,rfl⟩:=yap.mp ht;exact GK tw IG (hD d hd).ok.g
 have q3:=(Dt fG (by decide) rfl fG).2
 have fN:Fit (.lst (D.map Hg)) 3:=Fit.nd λt ht=>by
  obtain⟨d,hd,rfl⟩:=yap.mp ht;exact(E1 λx hx=>tw x ((hD d hd).ok.n x hx)).mono (by decide)
 have q4:=(Dt fN (by decide) rfl fN).2
 obtain⟨A,B,y,e18⟩:=zkp (p0:=some (Au ns)) (p1:=some (.lst (((List.range 72).map f).map T.str))) (p2:=some (.int (a:Int))) (p3:=some (.lst (W.map T.str))) (p4:=some (.int u)) (p5:=some (Ar rs)) (p6:=some (.lst (D.map A5))) (p10:=some (.own [.own (W.map T.str),.own (rs.map Bq),.own (D.map AO)])) (p11:=some MT) (Dw.of (f:=λd:Dr=>d.g) (L:=D) λd hd=>(hD d hd).ok.gl) (Dw.of (f:=λd:Dr=>d.n.map T.str) (L:=D) λd hd=>by have:=(hD d hd).nl;rw[ya2];omega)
 obtain⟨b,eb⟩:=zj8 (p0:=some (Au ns)) (p1:=some (.lst (((List.range 72).map f).map T.str))) (p2:=some (.int (a:Int))) (p3:=some (.lst (W.map T.str))) (p4:=some (.int u)) (p5:=some (Ar rs)) (p6:=some (.lst (D.map A5))) (p7:=some (.own A)) (p8:=some (.own B)) (p11:=some MT) hR.ll (a:=.own (W.map T.str)) (c:=.own (D.map AO)) (x12:=y);obtain⟨z,e23⟩:=zko (p0:=some (Au ns)) (p1:=some (.lst (((List.range 72).map f).map T.str))) (p2:=some (.int (a:Int))) (p3:=some (.lst (W.map T.str))) (p4:=some (.int u)) (p5:=some (Ar rs)) (p6:=some (.lst (D.map A5))) (p7:=some (.own A)) (p8:=some (.own B)) (p11:=some MT) (y:=y) (a:=W.map T.str) (b:=b) (c:=D.map AO);have ok3:Bg (3:Int)=true:=DU (n:=3) (by decide)
 have er3:Bb 0 (3:Int).toNat=mT 3 λi=>.int (i:Int):=DQ
 have key:JH [some (Au ns),none,none,none,none,none,none,none,none,none,none,none,none,none,none]=some (.rt (.bl true)):=by
  unfold JH;refine sq (τ':=Cw (some (Au ns)) (some (.lst (((List.range 72).map f).map T.str))) none none none none none none none none none none) (by simp![sc,ss,c1,en,A3]) ?_
  refine sq (τ':=Cw (some (Au ns)) (some (.lst (((List.range 72).map f).map T.str))) (some (.int (a:Int))) none none none none none none none none none) (by simp![sc,ss,c0,s224,ea]) ?_
  refine sq (τ':=Cw (some (Au ns)) (some (.lst (((List.range 72).map f).map T.str))) (some (.int (a:Int))) (some (.lst (W0.map T.str))) none none none none none none none none) (by simp![sc,ss,c0,s8,hq,Bp,c3,A3,AS]) ?_
  refine sq (τ':=Cw (some (Au ns)) (some (.lst (((List.range 72).map f).map T.str))) (some (.int (a:Int))) (some (.lst (W.map T.str))) none none none none none none none none) ?_ ?_
  .cases hb:(((ns.getD (0:Int).toNat 0).fdiv 56).fmod 4 == 1)
   .rw[hW4 hb]
    simp![sc,ss,c0,s56,Cj,hb]
   .rw[hW5 hb];have t1:B7 (W0.map T.str) none (some 3)=(W0.take 3).map T.str:=by rw[MY,zlg]
    have t2:B7 (W0.map T.str) (some 3) none=(W0.drop 3).map T.str:=by rw[MY,zlh]
    have u1:(W0.take 3).length+1<=AW:=by rw[yb4];unfold AW;omega
    have u2:(W0.take 3).length+1+(W0.drop 3).length<=AW:=by rw[yb4,List.length_drop];unfold AW;omega
    have u3:Af ((W0.take 3).map T.str++[T.str (Str.ofString "/")])=(W0.take 3).map T.str++[T.str (Str.ofString "/")]:=by
     refine AQ _ ?_;rw[C4,List.all_append,<- C4,AS]
     rfl
    have u4:Af ((W0.take 3).map T.str++T.str (Str.ofString "/")::(W0.drop 3).map T.str)=(W0.take 3).map T.str++T.str (Str.ofString "/")::(W0.drop 3).map T.str:=by
     refine AQ _ ?_;rw[C4,List.all_append,<- C4,AS,List.all_cons,<- C4,AS]
     rfl
    rw[ybn,yal]
    simp![sc,ss,c0,s56,Cj,hb,Bp,AS,A3,t1,t2,ya2,u1,yau,u2,u3,yd5,u4]
  refine sq (τ':=Cw (some (Au ns)) (some (.lst (((List.range 72).map f).map T.str))) (some (.int (a:Int))) (some (.lst (W.map T.str))) (some (.int u)) none none none none none none none) (by simp![sc,ss,c14,p40,r40,n40,eu]) ?_
  refine sq (τ':=Cw (some (Au ns)) (some (.lst (((List.range 72).map f).map T.str))) (some (.int (a:Int))) (some (.lst (W.map T.str))) (some (.int u)) (some (Ar rs)) none none none none none none) (by simp![sc,ss,A3,AS,eR,er]) ?_
  refine sq (τ':=Cw (some (Au ns)) (some (.lst (((List.range 72).map f).map T.str))) (some (.int (a:Int))) (some (.lst (W.map T.str))) (some (.int u)) (some (Ar rs)) (some (.lst (D.map A5))) none none none none none) (by simp![sc,ss,A3,AS,sr,er,eD,ep]) ?_
  refine sq (τ':=Cw (some (Au ns)) (some (.lst (((List.range 72).map f).map T.str))) (some (.int (a:Int))) (some (.lst (W.map T.str))) (some (.int u)) (some (Ar rs)) (some (.lst (D.map A5))) (some (.own (D.map Cc))) none none none none) (by simp![sp,ep,ya2,m200,l9]) ?_
  refine sq (τ':=Cw (some (Au ns)) (some (.lst (((List.range 72).map f).map T.str))) (some (.int (a:Int))) (some (.lst (W.map T.str))) (some (.int u)) (some (Ar rs)) (some (.lst (D.map A5))) (some (.own (D.map Cc))) (some (.own (D.map Cm))) none none none) (by simp![sp,ep,ya2,m200,lb]) ?_
  have l7':(T.nd true .lst (D.map Cc)).lnd=true:=l7;have e7':(T.nd true .lst (D.map Cc)).lend=.nd false .rl (D.map FC):=e7;have l8':(T.nd true .lst (D.map Cm)).lnd=true:=l8;have e8':(T.nd true .lst (D.map Cm)).lend=.nd false .rl (D.map FA):=e8
  have n9':(T.nd true .lst (D.map AO)).noR=true:=by
   show(true && BY (D.map AO))=true;rw[n9]
   rfl
  have l10':(T.nd true .lst [.nd true .lst (W.map T.str),.nd true .lst (rs.map Bq),.nd true .lst (D.map AO)]).lnd=true:=l10;have e10':(T.nd true .lst [.nd true .lst (W.map T.str),.nd true .lst (rs.map Bq),.nd true .lst (D.map AO)]).lend=.nd false .rl [BF W,Cs rs,.nd false .rl (D.map AO)]:=e10;have srR:=Kl hR.ok;refine sq (τ':=Cw (some (Au ns)) (some (.lst (((List.range 72).map f).map T.str))) (some (.int (a:Int))) (some (.lst (W.map T.str))) (some (.int u)) (some (Ar rs)) (some (.lst (D.map A5))) (some (.own (D.map Cc))) (some (.own (D.map Cm))) (some (.own (D.map AO))) none none) (by simp![DW,l7',e7',l8',e8',sp,ep,sG,sN,ya2,okD,erD,Bv,m200,l11',n9']) ?_
  refine sq (τ':=Cw (some (Au ns)) (some (.lst (((List.range 72).map f).map T.str))) (some (.int (a:Int))) (some (.lst (W.map T.str))) (some (.int u)) (some (Ar rs)) (some (.lst (D.map A5))) (some (.own (D.map Cc))) (some (.own (D.map Cm))) none (some (.own [.own (W.map T.str),.own (rs.map Bq),.own (D.map AO)])) none) (by simp![FU,A3,AS,sr,er,ya2,m64,l12];exact if_pos (by decide)) ?_
  refine sq (τ':=Cw (some (Au ns)) (some (.lst (((List.range 72).map f).map T.str))) (some (.int (a:Int))) (some (.lst (W.map T.str))) (some (.int u)) (some (Ar rs)) (some (.lst (D.map A5))) (some (.own (D.map Cc))) (some (.own (D.map Cm))) none (some (.own [.own (W.map T.str),.own (rs.map Bq),.own (D.map AO)])) (some MT)) (by simp![DW,l10',e10',A3,AS,srR,AQ _ srR,sd,ed,mi,n11,em]) ?_
  refine sq (τ':=Cw (some (Au ns)) (some (.lst (((List.range 72).map f).map T.str))) (some (.int (a:Int))) (some (.lst (W.map T.str))) (some (.int u)) (some (Ar rs)) (some (.lst (D.map A5))) (some (.own (D.map Cc))) (some (.own (D.map Cm))) none (some (.own [.own (W.map T.str),.own (rs.map Bq),.own (D.map AO)])) (some MT)) (by simp![A3,AS,hO,hG,sr,er,sp,ep,ya2,m200,l14,sGL,AQ _ sGL,q1,q2,q3]) ?_
  refine sq (τ':=Cw (some (Au ns)) (some (.lst (((List.range 72).map f).map T.str))) (some (.int (a:Int))) (some (.lst (W.map T.str))) (some (.int u)) (some (Ar rs)) (some (.lst (D.map A5))) (some (.own (D.map Cc))) (some (.own (D.map Cm))) none (some (.own [.own (W.map T.str),.own (rs.map Bq),.own (D.map AO)])) (some MT)) (by simp![A3,AS,hN,sr,er,sp,ep,sm,em,ya2,m200,l16,sNL,AQ _ sNL,q4,te]) ?_
  refine sq (τ':=Bw (some (Au ns)) (some (.lst (((List.range 72).map f).map T.str))) (some (.int (a:Int))) (some (.lst (W.map T.str))) (some (.int u)) (some (Ar rs)) (some (.lst (D.map A5))) (some (.own A)) (some (.own B)) (some (.own [.own (W.map T.str),.own (rs.map Bq),.own (D.map AO)])) (some MT) y) (by simp![sp,ep,ya2,okD,erD];exact e18) ?_
  refine sq eb ?_;refine sq (τ':=Bw (some (Au ns)) (some (.lst (((List.range 72).map f).map T.str))) (some (.int (a:Int))) (some (.lst (W.map T.str))) (some (.int u)) (some (Ar rs)) (some (.lst (D.map A5))) (some (.own A)) (some (.own B)) z (some MT) (some (.int 2))) (by simp![ok3,er3];exact e23) ?_
  refine sqn (by simp![sm,em,sr,er,so]) ?_
  simp![sm,em,sr,er,sp,ep,A3,AS,te]
 unfold NA
 simp![sc,ss,key]
end
end Zl
namespace Zl
open PySem PySem.W L2 Zw Zx Pu Hd
abbrev pw:Program:=PySem.Challenge.pw_zonewalk_k21_a_machine_told
abbrev Kg:OpenLaw:=PySem.Challenge.rw_zonewalk_k21_a_machine_told
abbrev md:String:="__module__"
abbrev fl:String:="__firstlineno__"
abbrev sa:String:="__static_attributes__"
abbrev dc:String:="__doc__"
noncomputable abbrev cf:Str:="/claim/cut.py"
noncomputable def tO(l:List Value):Obj:=⟨(.type "tuple"),none,(.seq (Array.mk l) 0),Array.mk []⟩
noncomputable def dO(l:List DictEntry)(n:Nat):Obj:=⟨(.type "dict"),none,(.dict (Array.mk l) n),Array.mk []⟩
def eb:List Value:=[(.type "ValueError"),(.type "Exception"),(.type "BaseException"),(.type "object")]
noncomputable def yO(a:Str)(b c:List Value)(n:Addr)(d:List Value)(r ta tb:Nat)(w:String):Obj:=⟨(.type "type"),none,(.cls ⟨a,b,c,n,a,true,[],d,false,none,false⟩),Array.mk [(some (.ref r)),none,(some (.str a ta)),(some (.str a tb)),(some (.builtin w)),(some (.bool true))]⟩
def cP(a:Str)(ta:Nat)(b:Str)(tb tf:Nat)(r n k:Int)(r1:Nat)(z:Int)(v1 v2 v3 v4 v5:Value)(x y:Int)(tg:Nat):Obj:=⟨(.type "code"),none,(.fields (Array.mk [(.str a ta),(.str b tb),(.str cf tf),(.int r 0),(.int n 0),(.int 0 0),(.int 0 0),(.int k 0),(.ref r1),(.bool true),(.int z 0),v1,v2,v3,v4,v5,(.int x 0),(.int y 0),(.str cf tg)])),Array.mk []⟩
noncomputable def cO(a:Str)(ta tb tf:Nat)(r n k:Int)(r1:Nat)(z:Int)(r2 r3 r4 r5:Nat)(x y:Int)(tg:Nat):Obj:=cP a ta a tb tf r n k r1 z (.ref r2) .none (.ref r3) (.ref r4) (.ref r5) x y tg
def o2(P:Params):Obj:=⟨.none,none,(.dict (Array.mk []) 0),Array.mk []⟩
def o3(P:Params):Obj:=dO [en P "__name__" 165 (.str "law_zonewalk_k21_a_machine_told" 482),en P "__doc__" 166 .none,en P "__package__" 167 .none,en P "__loader__" 168 (.builtin "__main__.__loader__#opaque"),en P "__spec__" 169 .none,en P "__annotations__" 170 (.ref 6),en P "__builtins__" 171 (.ref 4),en P "__file__" 173 (.str "/claim/cut.py" 172),en P "__cached__" 174 .none,en P "WalkError" 206 (.ref 24),en P "BadMachine" 222 (.ref 37),en P "TooMany" 238 (.ref 49),en P "is_whole" 247 (.ref 58),en P "WORDS" 255 (.ref 59),en P "STAY_WORDS" 258 (.ref 60),en P "is_look" 267 (.ref 67),en P "is_number" 274 (.ref 74),en P "is_guard" 280 (.ref 79),en P "MOST_WATCHES" 284 (.int 7 283),en P "MOST_ROOMS" 286 (.int 64 285),en P "MOST_DOORS" 288 (.int 200 287),en P "is_small_letter" 295 (.ref 86),en P "is_name" 301 (.ref 91),en P "is_watch_name" 308 (.ref 98),en P "is_room_name" 314 (.ref 103),en P "is_sign" 321 (.ref 110),en P "own_copy" 328 (.ref 117),en P "Door" 380 (.ref 149),en P "Machine" 446 (.ref 203),en P "check_watches" 452 (.ref 212),en P "are_unlike" 459 (.ref 219),en P "check_rooms" 465 (.ref 224),en P "check_doors" 475 (.ref 231),en P "are_noughts" 481 (.ref 236),en P "_law_cell_at" 491 (.ref 243),en P "_law_stream" 503 (.ref 250),en P "_law_draws" 512 (.ref 257),en P "_law_names" 528 (.ref 264),en P "_law_looks" 543 (.ref 271),en P "_law_rooms" 549 (.ref 276),en P "_law_doors" 555 (.ref 281),en P "_law_door" 564 (.ref 288),en P "_law_same" 572 (.ref 295),en P "_law_tells" 578 (.ref 300),en P "_law_spoil" 587 (.ref 307),en P "law" 593 (.ref 312)] 46
def o15(P:Params):Obj:=tO [(.type "ValueError")]
def o22(P:Params):Obj:=tO []
def o23(P:Params):Obj:=dO [en P md 196 (.str "zonewalk.errors" 187),en P fl 200 (.int 2 199),en P sa 201 (.ref 22),en P "__weakref__" 203 (.ref 25),en P dc 204 .none] 3
def o24(P:Params):Obj:=yO "WalkError" [(.type "ValueError")] ([(.ref 24)]++eb) 23 [(.ref 37),(.ref 49)] 15 189 197 "ValueError.__new__"
def o25(P:Params):Obj:=⟨(.type "getset_descriptor"),none,(.fields (Array.mk [(.str "__weakref__" 202),(.ref 24),(.builtin "ExceptionGroup.__weakref__"),.none])),Array.mk []⟩
def o28(P:Params):Obj:=tO [(.ref 24)]
def o35(P:Params):Obj:=tO []
def o36(P:Params):Obj:=dO [en P md 214 (.str "zonewalk.errors" 187),en P fl 218 (.int 4 217),en P sa 219 (.ref 35),en P dc 220 .none] 2
def o37(P:Params):Obj:=yO "BadMachine" [(.ref 24)] ([(.ref 37),(.ref 24)]++eb) 36 [] 28 207 215 "ValueError.__new__"
def o40(P:Params):Obj:=tO [(.ref 24)]
def o47(P:Params):Obj:=tO []
def o48(P:Params):Obj:=dO [en P md 230 (.str "zonewalk.errors" 187),en P fl 234 (.int 6 233),en P sa 235 (.ref 47),en P dc 236 .none] 2
def o49(P:Params):Obj:=yO "TooMany" [(.ref 24)] ([(.ref 49),(.ref 24)]++eb) 48 [] 40 223 231 "ValueError.__new__"
def o57(_:Params):=cO "is_whole" 241 242 243 9 1 3 52 181 53 54 55 56 245 9 246
def gO1(a:Str)(s:Stmt)(c:Nat):=gO a s "zonewalk.fractions" 239 c
def Pz(_:Params):=gO1 "is_whole" (A4 5) 57
def Py(P:Params):Obj:=tO [(.str "<" 250),(.str "<=" 251),(.str ">" 252),(.str ">=" 253),(.str "=" 254)]
def Px(P:Params):Obj:=tO [(.str "<" 256),(.str "<=" 257)]
def o66(_:Params):=cO "is_look" 259 260 261 14 3 3 61 181 62 63 64 65 265 14 266
def MB(a:Str)(s:Stmt)(c:Nat):=gO a s "zonewalk.looks" 248 c
def Pw(_:Params):=MB "is_look" (A4 9) 66
def o73(_:Params):=cO "is_number" 268 269 270 18 1 3 68 181 69 70 71 72 272 18 273
def Pt(_:Params):=MB "is_number" (A4 10) 73
def o78(P:Params):Obj:=cP "is_guard" 275 "is_guard" 276 277 20 3 3 75 181 (.ref 76) .none .none .none (.ref 77) 278 20 279
def Pr(_:Params):=MB "is_guard" (A4 11) 78
def o85(_:Params):=cO "is_small_letter" 289 290 291 26 1 3 80 181 81 82 83 84 293 26 294
def Dq(a:Str)(s:Stmt)(c:Nat):=gO a s "zonewalk.machines" 281 c
def Pq(_:Params):=Dq "is_small_letter" (A4 16) 85
def o90(P:Params):Obj:=cP "is_name" 296 "is_name" 297 298 28 1 3 87 181 (.ref 88) .none .none .none (.ref 89) 299 28 300
def Pp(_:Params):=Dq "is_name" (A4 17) 90
def o97(_:Params):=cO "is_watch_name" 302 303 304 30 1 3 92 181 93 94 95 96 306 30 307
def Po(_:Params):=Dq "is_watch_name" (A4 18) 97
def o102(P:Params):Obj:=cP "is_room_name" 309 "is_room_name" 310 311 32 1 3 99 181 (.ref 100) .none .none .none (.ref 101) 312 32 313
def Q4(_:Params):=Dq "is_room_name" (A4 19) 102
def o109(_:Params):=cO "is_sign" 315 316 317 36 1 3 104 181 105 106 107 108 319 36 320
def Q3(_:Params):=Dq "is_sign" (A4 20) 109
def o116(_:Params):=cO "own_copy" 322 323 324 40 1 3 111 181 112 113 114 115 326 40 327
def Q2(_:Params):=Dq "own_copy" (A4 21) 116
def LF(P:Params):Obj:=tO [(.str "" 341)]
def o131(P:Params):Obj:=cP "__init__" 342 "Door.__init__" 343 344 44 6 3 126 181 (.ref 127) .none (.ref 128) (.ref 129) (.ref 130) 351 44 352
def Q1(_:Params):=fO "__init__" "Door.__init__" (CK 22 0) (.ref 125) "zonewalk.machines" 281 131 .none
def o138(P:Params):Obj:=cP "asks" 354 "Door.asks" 355 356 51 1 3 133 181 (.ref 134) .none (.ref 135) (.ref 136) (.ref 137) 358 51 359
def Q0(_:Params):=fO "asks" "Door.asks" (CK 22 1) .none "zonewalk.machines" 281 138 .none
def o145(P:Params):Obj:=cP "sets" 361 "Door.sets" 362 363 54 1 3 140 181 (.ref 141) .none (.ref 142) (.ref 143) (.ref 144) 365 54 366
def QZ(_:Params):=fO "sets" "Door.sets" (CK 22 2) .none "zonewalk.machines" 281 145 .none
def o147(P:Params):Obj:=tO [(.str "end" 368),(.str "guard" 369),(.str "noughts" 370),(.str "sign" 371),(.str "start" 372)]
def o148(P:Params):Obj:=dO [en P md 336 (.str "zonewalk.machines" 281),en P fl 340 (.int 42 339),en P "__init__" 353 (.ref 132),en P "asks" 360 (.ref 139),en P "sets" 367 (.ref 146),en P sa 373 (.ref 147),en P "__dict__" 375 (.ref 150),en P "__weakref__" 377 (.ref 151),en P dc 378 .none] 4
def o149(P:Params):Obj:=⟨(.type "type"),none,(.cls ⟨"Door",[(.type "object")],[(.ref 149),(.type "object")],148,"Door",true,[],[],false,none,false⟩),Array.mk [none,none,(some (.str "Door" 329)),(some (.str "Door" 337)),(some (.builtin "object.__new__")),(some (.bool true))]⟩
def o150(P:Params):Obj:=⟨(.type "getset_descriptor"),none,(.fields (Array.mk [(.str "__dict__" 374),(.ref 149),(.builtin "function.__dict__"),(.builtin "function.__dict__#set")])),Array.mk []⟩
def o151(P:Params):Obj:=⟨(.type "getset_descriptor"),none,(.fields (Array.mk [(.str "__weakref__" 376),(.ref 149),(.builtin "ExceptionGroup.__weakref__"),.none])),Array.mk []⟩
def o164(P:Params):Obj:=cP "__init__" 393 "Machine.__init__" 394 395 58 4 3 161 181 (.ref 162) .none .none .none (.ref 163) 396 58 397
def QY(_:Params):=fO "__init__" "Machine.__init__" (CK 23 0) .none "zonewalk.machines" 281 164 .none
def o171(P:Params):Obj:=cP "watches" 399 "Machine.watches" 400 401 70 1 3 166 181 (.ref 167) .none (.ref 168) (.ref 169) (.ref 170) 403 70 404
def QX(_:Params):=fO "watches" "Machine.watches" (CK 23 1) .none "zonewalk.machines" 281 171 .none
def o178(P:Params):Obj:=cP "rooms" 406 "Machine.rooms" 407 408 73 1 3 173 181 (.ref 174) .none (.ref 175) (.ref 176) (.ref 177) 410 73 411
def QW(_:Params):=fO "rooms" "Machine.rooms" (CK 23 2) .none "zonewalk.machines" 281 178 .none
def o185(P:Params):Obj:=cP "doors" 413 "Machine.doors" 414 415 76 1 3 180 181 (.ref 181) .none (.ref 182) (.ref 183) (.ref 184) 417 76 418
def QV(_:Params):=fO "doors" "Machine.doors" (CK 23 3) .none "zonewalk.machines" 281 185 .none
def o192(P:Params):Obj:=cP "stay" 420 "Machine.stay" 421 422 79 2 3 187 181 (.ref 188) .none (.ref 189) (.ref 190) (.ref 191) 425 79 426
def QU(_:Params):=fO "stay" "Machine.stay" (CK 23 4) .none "zonewalk.machines" 281 192 .none
def o199(P:Params):Obj:=cP "watch_number" 428 "Machine.watch_number" 429 430 82 2 3 194 181 (.ref 195) .none (.ref 196) (.ref 197) (.ref 198) 433 82 434
def QT(_:Params):=fO "watch_number" "Machine.watch_number" (CK 23 5) .none "zonewalk.machines" 281 199 .none
def o201(P:Params):Obj:=tO [(.str "door_list" 436),(.str "stays" 437),(.str "watch_names" 438)]
def o202(P:Params):Obj:=dO [en P md 388 (.str "zonewalk.machines" 281),en P fl 392 (.int 56 391),en P "__init__" 398 (.ref 165),en P "watches" 405 (.ref 172),en P "rooms" 412 (.ref 179),en P "doors" 419 (.ref 186),en P "stay" 427 (.ref 193),en P "watch_number" 435 (.ref 200),en P sa 439 (.ref 201),en P "__dict__" 441 (.ref 204),en P "__weakref__" 443 (.ref 205),en P dc 444 .none] 4
def o203(P:Params):Obj:=⟨(.type "type"),none,(.cls ⟨"Machine",[(.type "object")],[(.ref 203),(.type "object")],202,"Machine",true,[],[],false,none,false⟩),Array.mk [none,none,(some (.str "Machine" 381)),(some (.str "Machine" 389)),(some (.builtin "object.__new__")),(some (.bool true))]⟩
def o204(P:Params):Obj:=⟨(.type "getset_descriptor"),none,(.fields (Array.mk [(.str "__dict__" 440),(.ref 203),(.builtin "function.__dict__"),(.builtin "function.__dict__#set")])),Array.mk []⟩
def o205(P:Params):Obj:=⟨(.type "getset_descriptor"),none,(.fields (Array.mk [(.str "__weakref__" 442),(.ref 203),(.builtin "ExceptionGroup.__weakref__"),.none])),Array.mk []⟩
def o211(P:Params):Obj:=cP "check_watches" 447 "check_watches" 448 449 84 1 3 208 181 (.ref 209) .none .none .none (.ref 210) 450 84 451
def QS(_:Params):=Dq "check_watches" (A4 24) 211
def o218(_:Params):=cO "are_unlike" 453 454 455 89 1 3 213 181 214 215 216 217 457 89 458
def QP(_:Params):=Dq "are_unlike" (A4 25) 218
def o223(P:Params):Obj:=cP "check_rooms" 460 "check_rooms" 461 462 91 2 3 220 181 (.ref 221) .none .none .none (.ref 222) 463 91 464
def QO(_:Params):=Dq "check_rooms" (A4 26) 223
def o230(_:Params):=cO "check_doors" 466 467 468 101 3 3 225 181 226 227 228 229 473 101 474
def QN(_:Params):=Dq "check_doors" (A4 27) 230
def o235(P:Params):Obj:=cP "are_noughts" 476 "are_noughts" 477 478 113 2 3 232 181 (.ref 233) .none .none .none (.ref 234) 479 113 480
def QM(_:Params):=Dq "are_noughts" (A4 28) 235
def o242(_:Params):=cO "_law_cell_at" 484 485 486 118 2 3 237 181 238 239 240 241 489 118 490
def DX(a:Str)(s:Stmt)(c:Nat):=gO a s "law_zonewalk_k21_a_machine_told" 482 c
def QL(_:Params):=DX "_law_cell_at" (A4 30) 242
def o249(_:Params):=cO "_law_stream" 492 493 494 122 2 3 244 181 245 246 247 248 501 122 502
def QK(_:Params):=DX "_law_stream" (A4 31) 249
def o256(_:Params):=cO "_law_draws" 504 505 506 135 3 3 251 181 252 253 254 255 510 135 511
def QJ(_:Params):=DX "_law_draws" (A4 32) 256
def o263(_:Params):=cO "_law_names" 513 514 515 139 2 3 258 181 259 260 261 262 526 139 527
def QI(_:Params):=DX "_law_names" (A4 33) 263
def o270(_:Params):=cO "_law_looks" 529 530 531 155 5 3 265 181 266 267 268 269 541 155 542
def QH(_:Params):=DX "_law_looks" (A4 34) 270
def o275(P:Params):Obj:=cP "_law_rooms" 544 "_law_rooms" 545 546 163 4 3 272 181 (.ref 273) .none .none .none (.ref 274) 547 163 548
def QG(_:Params):=DX "_law_rooms" (A4 35) 275
def o280(P:Params):Obj:=cP "_law_doors" 550 "_law_doors" 551 552 169 4 3 277 181 (.ref 278) .none .none .none (.ref 279) 553 169 554
def QF(_:Params):=DX "_law_doors" (A4 36) 280
def o287(_:Params):=cO "_law_door" 556 557 558 183 3 3 282 181 283 284 285 286 562 183 563
def QE(_:Params):=DX "_law_door" (A4 37) 287
def o294(_:Params):=cO "_law_same" 565 566 567 187 2 3 289 181 290 291 292 293 570 187 571
def QD(_:Params):=DX "_law_same" (A4 38) 294
def o299(P:Params):Obj:=cP "_law_tells" 573 "_law_tells" 574 575 191 4 3 296 181 (.ref 297) .none .none .none (.ref 298) 576 191 577
def QC(_:Params):=DX "_law_tells" (A4 39) 299
def o306(_:Params):=cO "_law_spoil" 579 580 581 203 2 3 301 181 302 303 304 305 585 203 586
def QB(_:Params):=DX "_law_spoil" (A4 40) 306
def o311(P:Params):Obj:=cP "law" 588 "law" 589 590 211 1 3 308 181 (.ref 309) .none .none .none (.ref 310) 591 211 592
def QA(_:Params):=DX "law" (A4 41) 311
noncomputable def SN:List Addr:=[2,3,15,22,23,24,25,28,35,36,37,40,47,48,49,57,58,59,60,66,67,73,74,78,79,85,86,90,91,97,98,102,103,109,110,116,117,125,131,132,138,139,145,146,147,148,149,150,151,164,165,171,172,178,179,185,186,192,193,199,200,201,202,203,204,205,211,212,218,219,223,224,230,231,235,236,242,243,249,250,256,257,263,264,270,271,275,276,280,281,287,288,294,295,299,300,306,307,311,312]
def GW(P:Params):Frag:=SN.zipWith (λa o=>(a,o P)) [o2,o3,o15,o22,o23,o24,o25,o28,o35,o36,o37,o40,o47,o48,o49,o57,Pz,Py,Px,o66,Pw,o73,Pt,o78,Pr,o85,Pq,o90,Pp,o97,Po,o102,Q4,o109,Q3,o116,Q2,LF,o131,Q1,o138,Q0,o145,QZ,o147,o148,o149,o150,o151,o164,QY,o171,QX,o178,QW,o185,QV,o192,QU,o199,QT,o201,o202,o203,o204,o205,o211,QS,o218,QP,o223,QO,o230,QN,o235,QM,o242,QL,o249,QK,o256,QJ,o263,QI,o270,QH,o275,QG,o280,QF,o287,QE,o294,QD,o299,QC,o306,QB,o311,QA]
def vq:Program:={ pw with main:={ (pw).main with body:=[A4 41] } }
noncomputable def loo:List Str:=["WalkError","BadMachine","TooMany","is_whole","WORDS","STAY_WORDS","is_look","is_number","is_guard","MOST_WATCHES","MOST_ROOMS","MOST_DOORS","is_small_letter","is_name","is_watch_name","is_room_name","is_sign","own_copy","Door","Machine","check_watches","are_unlike","check_rooms","check_doors","are_noughts","_law_cell_at","_law_stream","_law_draws","_law_names","_law_looks","_law_rooms","_law_doors","_law_door","_law_same","_law_tells","_law_spoil"].map Str.ofString
abbrev hk:Hook:=kHook GW SN (λ_=>by ext)
theorem zj5(w:World)(os:OsState):(go pw 2243 w os).map (λs=>Io pw vq loo (xt Kg.row.toRowW vq) hk.obs (boot_heap w.params) s.abs)=some (true,openGood vq loo,hk.val w):=by ext
theorem left:LeftO pw vq loo (xt Kg.row.toRowW vq) hk.obs hk.val 5066 true:=zhr 5066 2243 (by ext) (by decide) (λs=>by ext) (by decide) zj5
theorem said:Kg.wellSaid=true:=zgg (by ext)
abbrev fr(w:World):Frag:=GW w.params
noncomputable def ca:Str->Value:=λc=>if c="BadMachine" then .ref 37 else if c="TooMany" then .ref 49 else if c="WalkError" then .ref 24 else .none
section
variable {w:World}{mg:Str->Option Value}{base:Heap} [q:Qx pw w (fr w) mg base ca]
theorem E2:Cls (fr w) Ai:=⟨by ext,by ext,by ext,by ext⟩
theorem HF:∀f∈As,Bd (fr w) Ai f:=(Av (by unfold Bd;ext) (Av (by unfold Bd;ext) (Av (by unfold Bd;ext) (Av (by unfold Bd;ext) (Av (by unfold Bd;ext) B9)))))
theorem DL:Cls (fr w) Aa:=⟨by ext,by ext,by ext,by ext⟩
theorem GH:∀f∈Ab,Bd (fr w) Aa f:=(Av (by unfold Bd;ext) (Av (by unfold Bd;ext) (Av (by unfold Bd;ext) B9)))
theorem yg:specialIn (fr w) (.builtin "object.__class__") "__get__"=some (some (.builtin "getset_descriptor.__get__"))/\takesIn (fr w) (.builtin "object.__class__")=some true:=⟨by ext,by ext⟩
include q
def zbc:ECls (fr w) mg "BadMachine":=SW yg 37 (q.c _ _ (by ext)) (by ext)
theorem NL:∃T:ECls (fr w) mg "BadMachine",ca "BadMachine"=.ref T.C/\DI (fr w) T.C=some none:=⟨zbc,by rfl,by ext⟩
def zcr:ECls (fr w) mg "TooMany":=SW yg 49 (q.c _ _ (by ext)) (by ext)
theorem zea:∃T:ECls (fr w) mg "TooMany",ca "TooMany"=.ref T.C/\DI (fr w) T.C=some none:=⟨zcr,by rfl,by ext⟩
def D1:=BN QL 243 zc7 (BO Ao An)
def D2:=BN QK 250 zcq (BO Ao An)
def D3:=BN QJ 257 ze2 (BO (Ap D2 Ao) An)
def D4:=BN Pq 86 za6 (BO Ao An)
def D5:=BN Pp 91 zco (BO (Ap D4 Ao) An)
def D6:=BN Po 98 zaf (BO (Ap D5 Ao) An)
def D7:=BN Q4 103 zar (BO (Ap D4 Ao) An)
def D8:=BN Pz 58 zc5 (BO Ao An)
def D9:=BN Pt 74 zbo (BO (Ap D8 Ao) An)
def D10:=BN Pw 67 zcp (BO (Ap D9 Ao) An)
def Tc:=BN Pr 79 zc6 (BO (Ap D10 Ao) An)
def NM:=BN QP 219 zba (BO Ao An)
theorem zaq:∃u v,mg "MOST_WATCHES"=some u/\AN v u/\∀F:Hp,Rp (fr w) F F JT v R0:=⟨(.int (7) 283),(.int 7),q.c _ _ (by ext),⟨_,rfl⟩,λF=>.int _⟩
def D13:=BN QS 212 zag (BO (Ap D6 (Ap NM Ao)) (An (co:=(Cy zaq CY))) (hex:=(Av NL B9)))
theorem zb7:∃u v,mg "STAY_WORDS"=some u/\AN v u/\∀F:Hp,Rp (fr w) F F JS v R0:=⟨_,.ref 60,q.c _ (.ref 60) (by ext),rfl,λF=>A2.of_node (k:=.rt) (xs:=[.str "<",.str "<="]) (.inr ⟨Px w.params,_,_,by ext,rfl,rfl,by decide,(.cons ⟨_,rfl⟩ (.cons ⟨_,rfl⟩ .nil))⟩) (Kj ["<","<="])⟩
def D14:=BN QO 224 zb0 (BO (Ap D7 (Ap Tc (Ap NM Ao))) (An (co:=(Cy zb7 CY))) (hex:=(Av NL B9)))
def D15:=BN QM 236 zb2 (BO (Ap D6 (Ap NM Ao)) An)
def D16:=BN Q3 110 zcn (BO (Ap D5 Ao) An)
def D17:=BN Q2 117 zc4 (BO Ao An)
theorem zft:∃u v,mg "WORDS"=some u/\AN v u/\∀F:Hp,Rp (fr w) F F JR v R0:=⟨_,.ref 59,q.c _ (.ref 59) (by ext),rfl,λF=>A2.of_node (k:=.rt) (xs:=[.str "<",.str "<=",.str ">",.str ">=",.str "="]) (.inr ⟨Py w.params,_,_,by ext,rfl,rfl,by decide,(.cons ⟨_,rfl⟩ (.cons ⟨_,rfl⟩ (.cons ⟨_,rfl⟩ (.cons ⟨_,rfl⟩ (.cons ⟨_,rfl⟩ .nil)))))⟩) (Kj ["<","<=",">",">=","="])⟩
def D18:=BN QN 231 zb1 (BO (Ap Tc (Ap D15 (Ap D16 Ao))) (An (co:=(Cy zft CY)) (cl:=(Av ⟨E2,HF⟩ B9)) (ci:=(Cy ⟨149,q.c _ _ (by ext),(Cy ⟨⟨E2,by ext,by ext,by ext,by ext⟩,by ext⟩ (Cy ⟨⟨DL,by ext,by ext,by ext,by ext⟩,by ext⟩ CY)),by ext⟩ CY))) (hex:=(Av NL B9)))
def Ta:=Sd "Door" Ai As Q1 132 zbq (TJ (Ap D17 Ao) (An (sf:=(λC fs h=>by cases h;exact⟨E2,HF⟩))))
theorem E19:Ba (fr w) (Ta (w:=w) (mg:=mg) (base:=base)).fd MR.ps []:=λs us X hl=>KL (P:=λus=>BindsTo s _ ⟨us,[]⟩ (List.zip _ (us++_))) (λ_ _ _ _ _ _=>binds_K X rfl (show(fr w).lookup 125=some (LF w.params) by ext) rfl rfl rfl) us (by simpa using hl)
theorem zb8:∃u v,mg "MOST_ROOMS"=some u/\AN v u/\∀F:Hp,Rp (fr w) F F JU v R0:=⟨(.int (64) 285),(.int 64),q.c _ _ (by ext),⟨_,rfl⟩,λF=>.int _⟩
theorem zb9:∃u v,mg "MOST_DOORS"=some u/\AN v u/\∀F:Hp,Rp (fr w) F F JV v R0:=⟨(.int (200) 287),(.int 200),q.c _ _ (by ext),⟨_,rfl⟩,λF=>.int _⟩
def T9:=Sd "Machine" Aa Ab QY 165 zat (TJ (Ap D13 (Ap D14 (Ap D18 Ao))) (An (co:=(Cy zb8 (Cy zb9 CY))) (sf:=(λC fs h=>by cases h;exact⟨DL,GH⟩))) (hex:=(Av zea B9)))
theorem E20:Ba (fr w) (T9 (w:=w) (mg:=mg) (base:=base)).fd MM.ps []:=.all (KO λ_ _ _ _=>rfl)
def T8:=Fe QX 172 za7 DL (Fg Ao (An (cl:=(Av ⟨DL,GH⟩ B9))))
def T7:=Fe QW 179 zah DL (Fg Ao (An (cl:=(Av ⟨DL,GH⟩ B9))))
def T6:=Fe QV 186 zai DL (Fg Ao (An (cl:=(Av ⟨DL,GH⟩ B9))))
def T5:=Fe QU 193 zas DL (Fg Ao (An (cl:=(Av ⟨DL,GH⟩ B9))))
def D25:=Fe QT 200 za2 DL (Fg Ao (An (cl:=(Av ⟨DL,GH⟩ B9))))
def T4:=Fe Q0 139 zbr E2 (Fg Ao (An (cl:=(Av ⟨E2,HF⟩ B9))))
def T3:=Fe QZ 146 zbp E2 (Fg Ao (An (cl:=(Av ⟨E2,HF⟩ B9))))
def D28:=BN QI 264 ze0 (BO Ao An)
def TZ:=BN QH 271 ze1 (BO Ao An)
def D30:=BN QG 276 zdz (BO (Ap D1 (Ap D2 (Ap TZ Ao))) An)
def D31:=BN QF 281 ze3 (BO (Ap D1 (Ap D3 (Ap TZ Ao))) An)
def D32:=BN QE 288 zfv (BO Ao (An (nw:=(Q5 ⟨by decide,Ai,Ta,(Cy ⟨[],[],E19,.nil,λ_=>.nil⟩ (Cy ⟨[.str ""],[.str (Str.ofString "") 341],(λs us X hl=>KN (P:=λus=>BindsTo s _ ⟨us,[]⟩ (List.zip _ (us++_))) (λ_ _ _ _ _=>binds_K X rfl (show(fr w).lookup 125=some (LF w.params) by ext) rfl rfl rfl) us (by simpa using hl)),.cons ⟨_,rfl⟩ .nil,λF=>.cons (H:=F) (.str _) .nil⟩ CY))⟩ LG))))
def D33:=BN QD 295 zfu (BO Ao (An (cl:=(Av ⟨E2,HF⟩ B9)) (mt:=(Av ⟨by decide,⟨T4⟩⟩ (Av ⟨by decide,⟨T3⟩⟩ B9))) (ci:=(Cy ⟨149,q.c _ _ (by ext),(Cy ⟨⟨E2,by ext,by ext,by ext,by ext⟩,by ext⟩ (Cy ⟨⟨DL,by ext,by ext,by ext,by ext⟩,by ext⟩ CY)),by ext⟩ CY))))
def D34:=BN QC 300 zdx (BO (Ap D33 Ao) (An (mt:=(Av ⟨by decide,⟨T8⟩⟩ (Av ⟨by decide,⟨T7⟩⟩ (Av ⟨by decide,⟨T5⟩⟩ (Av ⟨by decide,⟨D25⟩⟩ (Av ⟨by decide,⟨T6⟩⟩ B9))))))))
def D35:=BN QB 307 zdy (BO Ao (An (mt:=(Av ⟨by decide,⟨T8⟩⟩ (Av ⟨by decide,⟨T7⟩⟩ (Av ⟨by decide,⟨T6⟩⟩ (Av ⟨by decide,⟨T5⟩⟩ (Av ⟨by decide,⟨T4⟩⟩ (Av ⟨by decide,⟨T3⟩⟩ B9)))))))))
def D36:=BN QA 312 zll (BO (Ap D28 (Ap D1 (Ap D30 (Ap D31 (Ap D32 (Ap D34 (Ap D35 Ao))))))) (An (nw:=(Q5 ⟨by decide,Aa,T9,(Cy ⟨[],[],E20,.nil,λ_=>.nil⟩ CY)⟩ LG))))
end
theorem all_mk{w:World}{h:Heap}{mg:Str->Option Value}{fa:Addr}(X:(GW w.params).In h)(G:h.Ns mainGlobals mg)(hfa:mg "law"=some (.ref fa))
  : ∃fd:FuncData,(∀(s:Shared) (v:Value),BindsTo s fd ⟨[v],[]⟩ [("_law_script",v)])/\∀base:Heap,(GW w.params).In base->base.Ns mainGlobals mg->FnOk pw w (GW w.params) mg base Dy 8 fa fd ["_law_script"] (Ih (GW w.params)):=by
 have e:=hfa.symm.trans (mg_of X G (show nsIn (fr w) mainGlobals "law"=some (some (.ref 312)) by ext))
 cases e;refine⟨gF "law" "law" Ka .none "law_zonewalk_k21_a_machine_told" 482 311 .none,λs v=>.of_eq rfl,λbase _ _=>?_⟩
 have q:Qx pw w (fr w) mg base ca:=⟨λ_ _ e=>mg_of X G e,λ_ e=>mg_none_of X G e⟩
 exact zku (D36 (mg:=mg)).ok λns h=>law_true ns h
theorem walk{l:PySem.W.OpenLaw}{q:Program}{loose:List Str}{XP:(Str->Option Value)->Heap->Prop}{YP:World->Heap->Prop}{d:DefRec}{K:Params->k7}(hn:l.most=some 63)(hdf:d.params.defaults=[])
  (hY:∀(w:World) (h:Heap),YP w h->(K w.params).In h)
  (F : ∀ (w : World) (mg : Str -> Option Value) (fa : Addr) (h : Heap), (K w.params).In h -> h.Ns mainGlobals mg -> mg d.name = some (.ref fa) ->
   ∃fd:FuncData,(∀(s:Shared) (u:Value),BindsTo s fd ⟨[u],[]⟩ [("_law_script",u)])/\∀base:Heap,(K w.params).In base->base.Ns mainGlobals mg->FnOk l.prog w (K w.params) mg base Dy 8 fa fd ["_law_script"] (Ih (K w.params))) :
  PySem.W.WalkO q loose XP YP l.row.toRowW d [] (λf vs=>PySem.call f vs) :=
 L2.walk_of (n:=63) (k:=8) (x:="_law_script") (CX:=λ_=>Dy) (sp:=λw=>Ih (K w.params)) hn (by decide) hdf ⟨rfl,by decide,by decide⟩ hY F (λ_ _ a ns hl hO hS=>⟨a,ns,rfl,E5.of hO hS,hl,λ_=>rfl⟩) λ_ _ _ _ _ z=>z
end Zl
open PySem PySem.W PyProof.Rows
set_option maxRecDepth 100000 in
set_option maxHeartbeats 0 in
theorem PySem.Challenge.cw_zonewalk_k21_a_machine_told_holds : PySem.Challenge.rw_zonewalk_k21_a_machine_told.Holds := by
 refine holds_law Zl.said λs=>?_
 refine holds_open (q:=Zl.vq) (loose:=Zl.loo) (Xt:=Hd.xt PySem.Challenge.rw_zonewalk_k21_a_machine_told.row.toRowW Zl.vq) (XP:=XL Zl.vq []) (Yf:=Zl.hk.obs) (Ya:=Zl.hk.val) (YP:=Zl.hk.says) Zl.left Zl.hk.of Zl.hk.keeps (λs e=>xl_of s (Bool.and_eq_true_iff.mp e).1) XL.keeps (by rfl) (by rfl) (by rfl) (λs e=>recFacts_of (Bool.and_eq_true_iff.mp e).2) (by rfl) s (by decide +kernel) ⟨rfl,rfl,rfl,rfl,rfl,by decide +kernel⟩ ?hw ?hc
 case hw=>w_witness2
 case hc=>exact Zl.walk (l:=PySem.Challenge.rw_zonewalk_k21_a_machine_told) rfl rfl (λw h Y=>kIn_of Y) λw mg fa h X G e=>Zl.all_mk X G e
end
