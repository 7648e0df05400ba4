import PyProof.Rows.All
import Wide.All
import OpenK.AllK
import Wide.FinOn
import Lean
import PyProof.EqAt
import PyProof.EqKinds
import PyProof.TupleCall
import PySem.Challenge.RW_zonewalk_k64_papers_refused
set_option compiler.extract_closed false
set_option bootstrap.genMatcherCode false
set_option linter.all false
def ya0:=@List.getElem?_eq_getElem
def ya1:=@List.length_map
def ya2:=@Bool.and_eq_true
def ya3:=@List.getElem?_eq_some_iff
def ya4:=@List.mem_cons_of_mem
def ya5:=@PySem.Heap.lt_size
def ya6:=@PySem.Heap.get?_push_of_some
def ya7:=@List.mem_cons_self
def ya8:=@List.getElem?_map
def ya9:=@Nat.le_refl
def yaa:=@List.mem_cons
def yab:=@List.mem_singleton
def yac:=@Nat.lt_of_lt_of_le
def yad:=@Option.map_eq_some_iff
def yae:=@List.mem_append_right
def yaf:=@Nat.ne_of_lt
def yag:=@List.mem_map
def yah:=@List.getElem?_set_ne
def yai:=@List.all_eq_true
def yaj:=@PySem.Heap.get?_push_size
def yak:=@Nat.le_trans
def yal:=@List.getElem?_set_self
def yam:=@List.getD_eq_getElem?_getD
def yan:=@List.contains_iff_mem
def yao:=@Ne.symm
def yap:=@Option.some.inj
def yaq:=@List.map_cons
def yar:=@List.not_mem_nil
def yas:=@Int.mul_assoc
def yat:=@List.length_take
def yau:=@List.getElem?_append_left
def yav:=@List.findIdx?_eq_some_iff_getElem
def yaw:=@Nat.lt_irrefl
def yax:=@List.mem_append
def yay:=@PySem.W.kia_one
def yaz:=@List.getElem?_append_right
def yb0:=@Bool.or_eq_false_iff
def yb1:=@List.map_append
def yb2:=@PySem.Heap.get?_update_other
def yb3:=@List.size_toArray
def yb4:=@PyProof.Rows.callWith_type1
def yb5:=@List.getElem_mem
def yb6:=@PySem.mem_of_lookup
def yb7:=@Array.getElem?_eq_getElem
def yb8:=@Bool.false_ne_true
def yb9:=@List.length_cons
def yba:=@List.map_map
def ybb:=@Array.getElem?_eq_some_iff
def ybc:=@List.getElem_inj
def ybd:=@List.lookup_cons
def ybe:=@List.length_append
def ybf:=@List.drop_eq_getElem_cons
def ybg:=@Nat.zero_le
def ybh:=@List.mem_append_left
def ybi:=@List.length_nil
def ybj:=@Int.mul_le_mul_of_nonneg_right
def ybk:=@List.getElem?_cons_succ
def ybl:=@PySem.W.hideAll_get
def ybm:=@Int.mul_comm
def ybn:=@List.length_set
def ybo:=@List.mem_range
def ybp:=@PySem.Heap.size_push
def ybq:=@Bool.and_false
def ybr:=@Nat.lt_succ_self
def ybs:=@PySem.F.slot_str_getitem
def ybt:=@List.take_succ_eq_append_getElem
def ybu:=@List.getElem?_range
def ybv:=@PySem.F.plainAttrs_list
def ybw:=@List.all_cons
def ybx:=@PySem.W.of_hideAll
def yby:=@List.mem_filterMap
def ybz:=@Bool.or_eq_true
def yc0:=@Bool.false_eq_true
def yc1:=@Int.fmod_nonneg_of_pos
def yc2:=@PyProof.Rows.boot_list
def yc3:=@Nat.lt_succ_of_lt
def yc4:=@Int.toNat_natCast
def yc5:=@PySem.Heap.get?_update_self
def yc6:=@PyProof.Rows.boot_isinstance
def yc7:=@List.getElem?_eq_none
def yc8:=@Array.getD_eq_getD_getElem?
def yc9:=@List.mem_of_getElem?
def yca:=@List.getElem_map
def ycb:=@PySem.F.excBase_ValueError
def ycc:=@List.nodup_cons
def ycd:=@Option.map_some
def yce:=@List.all_append
def ycf:=@List.mem_take_iff_getElem
def ycg:=@Nat.lt_trans
def ych:=@Int.le_of_lt
def yci:=@PySem.W.callWith_K
def ycj:=@Option.isSome_iff_exists
def yck:=@PySem.Obj.data_mapFields
def ycl:=@List.zip_cons_cons
def ycm:=@PySem.F.called_set
def ycn:=@Bool.false_and
def yco:=@PyProof.Rows.F.plain_set_update_loop
def ycp:=@List.length_range
def ycq:=@PyProof.V.reads_dictOf
def ycr:=@PySem.SeqAt.notIn_list_reads
def ycs:=@Nat.le_succ
def yct:=@List.take_of_length_le
def ycu:=@List.any_cons
def ycv:=@List.map_take
def ycw:=@List.take_length
def ycx:=@List.length_replicate
def ycy:=@PySem.Obj.isFreed_of_fields
def ycz:=@List.length_singleton
def yd0:=@Nat.succ_pos
def yd1:=@PySem.W.hideAll_none
def yd2:=@Nat.le_of_lt
def yd3:=@List.append_nil
def yd4:=@Int.lt_or_le
def yd5:=@Nat.min_eq_left
def yd6:=@Int.emod_nonneg
def yd7:=@PySem.W.plainGet_of
def yd8:=@PySem.SeqAt.in_list_reads
def yd9:=@List.getD_cons_succ
def yda:=@List.getD_cons_zero
def ydb:=@Int.fmod_lt_of_pos
def ydc:=@List.contains_cons
def ydd:=@List.getElem?_drop
def yde:=@List.findIdx?_cons
def ydf:=@Int.emod_lt_of_pos
def ydg:=@PySem.Paired.length
def ydh:=@PySem.W.kitx_dict
def ydi:=@Option.some.injEq
def ydj:=@List.filter_cons
def ydk:=@List.cons_append
def ydl:=@PySem.Txt.slice_le
def ydm:=@List.length_drop
def ydn:=@Option.getD_some
def ydo:=@List.all_map
def ydp:=@decide_eq_false
def ydq:=@PySem.wpAny_mono
def ydr:=@PySem.wpAny_truthy_bool
def yds:=@PySem.wpAny_execs_nil
def ydt:=@PySem.wpAny_bind
def ydu:=@PySem.wpAny_holding
def ydv:=@PySem.wpAny_standAt
def ydw:=@PySem.wpAny_passesOwn
def ydx:=@PySem.wpAny_pure
def ydy:=@PySem.wpAny_pyIter_list
def ydz:=@PySem.sizeLine_eq
def ye0:=@PySem.wpAny_call
def ye1:=@PySem.codeAny_mono
def ye2:=@PySem.wpAny_Call_Name_kw
def ye3:=@PySem.typeIs_str
def ye4:=@if_true
def ye5:=@PySem.call_meets
def ye6:=@decide_eq_true
def ye7:=@PySem.wpAny_setField
def ye8:=@PySem.wpAny_field
def ye9:=@PySem.codeAny_call_builtin
def yea:=@PySem.codeAny_builtin
def yeb:=@PySem.wpAny_of_eq
def yec:=@decide_eq_true_eq
def yed:=@or_false
def yee:=@PySem.pushCells_keeps
def yef:=@of_decide_eq_true
def yeg:=@if_false
def yeh:=@PySem.wpAny_ite_false
def yei:=@PySem.wpAny_isInstance
def yej:=@beq_self_eq_true
def yek:=@PySem.wpAny_getItem_str_slice
def yel:=@PySem.post_val_or_str
def yem:=@not_false_eq_true
noncomputable section
local macro_rules|`(tactic|ext)=>`(tactic|kernel_rfl)
abbrev k6:=PySem.W.Frag
set_option Elab.async false
set_option linter.all false
set_option maxRecDepth 100000
set_option genSizeOf false
set_option genInjectivity false
local macro_rules
  |`(tactic| omega)=>`(tactic| first
    |assumption
    |exact yak (by assumption) (by decide +kernel)
    |exact yac (by assumption) (by decide +kernel)
    |exact Nat.lt_of_le_of_lt (by assumption) (by decide +kernel)
    |exact yd0 _
    |exact yac (by assumption) (Nat.succ_le_succ (yak (by assumption) (by decide +kernel)))
    |exact Nat.succ_le_succ (yak (by assumption) (by decide +kernel))
    |exact ycg (by assumption) (by assumption)
    |exact yac (by assumption) (by assumption)
    |exact Int.lt_trans (b:=0) (by decide +kernel) (by assumption)
    |exact Int.lt_of_lt_of_le (b:=0) (by decide +kernel) (by assumption)
    |exact Int.lt_of_le_of_lt (by assumption) (by decide +kernel)
    |exact Int.le_trans (by assumption) (by decide +kernel)
    |exact ych (by assumption)
    |exact Int.ne_of_gt (by assumption)
    |lia
    |fail)
namespace L2
open PySem PySem.Spec PyProof.Rows
abbrev Key:=Sum Int Str
noncomputable def Fo:Key->Value->Bool
 |.inl k,v=>Value.isInt k v
 |.inr x,v=>Value.isStrOf x v
def keyH(w:World):Key->Int
 |.inl k=>hashInt k
 |.inr x=>hashStr w x
theorem EM:∀{k} {v},Fo k v=true->(∃i t,k=Sum.inl i/\v=Value.int i t)\/(∃x t,k=Sum.inr x/\v=Value.str x t)
 |.inl i,v,h=>by
  obtain⟨t,e⟩:=Value.isInt_shape h
  grind
 |.inr x,v,h=>by
  obtain⟨t,e⟩:=Value.isStrOf_shape h
  grind
theorem zfi(i)(t):Fo (.inl i) (.int i t)=true:=by simp[Fo,Value.isInt]
theorem zfh(x)(t):Fo (.inr x) (.str x t)=true:=by simp[Fo,Value.isStrOf]
theorem zo4(a b:Int):decide ((Sum.inl a:Key)=Sum.inl b)=(a == b):=by
 grind
theorem zo1(a b:Str):decide ((Sum.inr a:Key)=Sum.inr b)=decide (a=b):=by
 simp
theorem zo3(a:Int)(b:Str):decide (Sum.inl a=Sum.inr b)=false:=ydp (λq=>nomatch q)
theorem zo2(a:Str)(b:Int):decide (Sum.inr a=Sum.inl b)=false:=ydp (λq=>nomatch q)
def Ci(prog:Program)(w:World):PySem.KeyKind prog w Key where
 is:=Fo
 hash:=keyH w
 inj:=λv a b ha hb=>by
  rcases EM ha with ⟨i,t,rfl,rfl⟩|⟨x,t,rfl,rfl⟩
  .rcases EM hb with ⟨j,u,rfl,e⟩|⟨y,u,rfl,e⟩
   .injection e with e1 _;rw[e1]
   .exact nomatch e
  .rcases EM hb with ⟨j,u,rfl,e⟩|⟨y,u,rfl,e⟩
   .exact nomatch e
   .injection e with e1 _;rw[e1]
 byValue:=λk v h=>by
  rcases EM h with ⟨i,t,rfl,rfl⟩|⟨x,t,rfl,rfl⟩<;>rfl
 pyHash:=λhv h=>by
  rcases EM hv with ⟨i,t,rfl,rfl⟩|⟨x,t,rfl,rfl⟩
  .exact wpAny_pyHash_int h
  .exact wpAny_pyHash_str h
 eqBool:=λhu hv h=>by
  rcases EM hu with ⟨i,t,rfl,rfl⟩|⟨x,t,rfl,rfl⟩
  .rcases EM hv with ⟨j,u,rfl,rfl⟩|⟨y,u,rfl,rfl⟩
   .rw[zo4]at h;exact wpAny_eqBool_int h
   .rw[zo3]at h;exact SeqAt.EqAt.int_str i t y u _ _ _ _ h
  .rcases EM hv with ⟨j,u,rfl,rfl⟩|⟨y,u,rfl,rfl⟩
   .rw[zo2]at h;exact SeqAt.EqAt.str_int x t j u _ _ _ _ h
   .rw[zo1]at h;exact wpAny_eqBool_str h
 «strs»:=λk x t v h=>by
  rcases EM h with ⟨i,u,rfl,e⟩|⟨y,u,rfl,e⟩
  .exact nomatch e
  .injection e with e1 _
   subst e1;cases v<;>rfl
theorem zdf(prog)(w)(i)(t):(Ci prog w).is (.inl i) (.int i t)=true:=zfi i t
theorem zde(prog)(w)(x)(t):(Ci prog w).is (.inr x) (.str x t)=true:=zfh x t
set_option genInjectivity true in
inductive V where
 |non|bl (b:Bool)|int (i:Int)|str (x:Str)|byt (b:Array UInt8)|flt (b:UInt64)|ref (a:Addr)|ty (n:String)
 deriving DecidableEq
def A3:V->Value->Prop
 |.non,u=>u=Value.none
 |.bl b,u=>u=Value.bool b
 |.int i,u=>∃t,u=Value.int i t
 |.str x,u=>∃t,u=Value.str x t
 |.byt b,u=>∃t,u=Value.bytes b t
 |.flt b,u=>∃t,u=Value.float b t
 |.ref a,u=>u=Value.ref a
 |.ty n,u=>u=Value.type n
abbrev AZ:List V->List Value->Prop:=Paired A3
theorem AZ.length(r:AZ xs us):xs.length=us.length:=ydg r
theorem AZ.get:∀{xs} {us} {i:Nat} {x},AZ xs us->xs[i]?=some x->∃u,us[i]?=some u/\A3 x u
 |_,_,_,_,.nil,e=>by simp at e
 |_,_,0,_,.cons r _,e=>by grind
 |_,_,i+1,x,.cons _ t,e=>by
  obtain⟨u,h1,h2⟩:=AZ.get t (by simpa using e)
  grind
theorem AZ.set(r:A3 x u):∀{xs} {us} (i),AZ xs us->AZ (xs.set i x) (us.set i u)
 |_,_,_,.nil=>.nil
 |_,_,0,.cons _ t=>.cons r t
 |_,_,i+1,.cons q t=>.cons q (AZ.set r i t)
theorem AZ.append:∀{xs ys} {us ws},AZ xs us->AZ ys ws->AZ (xs++ys) (us++ws)
 |_,_,_,_,.nil,s=>s
 |_,_,_,_,.cons r t,s=>.cons r (AZ.append t s)
theorem AZ.take:∀{xs} {us} (n),AZ xs us->AZ (xs.take n) (us.take n)
 |_,_,0,_=>.nil
 |_,_,_+1,.nil=>.nil
 |_,_,n+1,.cons r t=>.cons r (AZ.take n t)
theorem AZ.drop:∀{xs} {us} (n),AZ xs us->AZ (xs.drop n) (us.drop n)
 |_,_,0,r=>r
 |_,_,_+1,.nil=>.nil
 |_,_,n+1,.cons _ t=>AZ.drop n t
theorem AZ.none_of:∀{i:Nat},AZ xs us->xs[i]?=none->us[i]?=none:=λr e=>by
 have h1:=r.length
 grind
def Cm:Option V->Option Value->Prop
 |some v,some u=>A3 v u
 |none,none=>True
 |_,_=>False
def KV{κ:Type}:List (κ×V)->List (κ×Value)->Prop:=Paired λ(p:κ×V) (q:κ×Value)=>p.1=q.1/\A3 p.2 q.2
def kV:Key->V
 |.inl i=>.int i
 |.inr x=>.str x
set_option genInjectivity true in
inductive HO where
 |lst (xs:List V)
 |tup (xs:List V)
 |dK (kvs:List (Key×V))|dT (kvs:List (List Key×V))
 |set (S:Int->Bool) (n:Nat)
 |ins (C dx:Addr) (fs:List (Str×V))
 |own (x:Addr)
 |xd (fs:List (Str×V))
 |met (f x:Addr)
 |rng (lo hi:Int)
 |frz (o:Obj) (u:HO)
 |tbl (ps:Array Value)
 |ext (φ:Heap->Prop)
abbrev Hp:=Addr->Option HO
noncomputable def upd(H:Hp)(a:Addr)(o:HO):Hp:=λb=>if b=a then some o else H b
theorem Bd{H:Hp}{a:Addr}{o:HO}:upd H a o a=some o:=by unfold upd;simp
theorem Ak(h:b≠a):upd H a o b=H b:=by unfold upd;rw[if_neg h]
theorem ne_of{H:Hp}   (h:H a=some o)(h':H b=some u)(d:o≠u):a≠b:=by
 grind
theorem Bi{H:Hp}(h:H a=some o)(h':H b=none):a≠b:=by
 grind
section
variable (P:Program)(w:World)
def CN(H:Hp)(h:Heap)(a:Addr):HO->Prop
 |.lst xs=>xs.length<=sizeLine/\∃(its:List Value) (n:Nat),AZ xs its/\h.get? a=some { cls:=.type "list",data:=.seq its.toArray n }
 |.tup xs=>xs.length<=sizeLine/\∃its:List Value,AZ xs its/\IsTup h a its.toArray
 |.dK kvs=>kvs.length<=sizeLine/\(a == sysModules)=false/\∃vs,KV kvs vs/\h.DictOf (Ci P w) a vs
 |.dT kvs=>kvs.length<=sizeLine/\(a == sysModules)=false/\∃xs:List (List Key×Addr×Value),
   Paired (λ(p:List Key×V) (q:List Key×Addr×Value)=>p.1=q.1/\H q.2.1=some (.tup (p.1.map kV))/\A3 p.2 q.2.2) kvs xs /\
   ∃o es ep,h.get? a=some o/\o.ExactDict/\o.data=.dict es ep/\es.toList=xs.map (entryOfKey (tupleKind (Ci P w)))/\(xs.map (·.1)).Nodup
 |.set S n=>h.SetOf (intKind P w) a S n
 |.ins C dx fs=>H dx=some (.own a)/\fs.length<=1000/\dx≠a/\h.get? a=some (PySem.W.instObj C dx) /\
   ∃mA,h.Ns1 dx mA/\(∀f,Cm (fs.lookup f) (mA f))/\PySem.Within mA (fs.map (·.1))
 |.own _=>∃o,h.get? a=some o
 |.xd fs=>∃mA,h.Ns1 a mA/\∀f,Cm (fs.lookup f) (mA f)
 |.rng lo hi=>∃t u v,h.get? a=some { cls:=.type "range",data:=.fields #[.int lo t,.int hi u,.int 1 v] }
 |.frz o u=>h.get? a=some o/\CN H h a u
 |.tbl ps=>h.get? a=some { cls:=.none,data:=.fields ps }
 |.met f x=>h.get? a=some (PySem.W.methodObj (.ref f) (.ref x))
 |.ext φ=>φ h/\(∃o,h.get? a=some o)/\∀h1 h2:Heap,φ h1->(∀o,h1.get? a=some o->h2.get? a=some o)->φ h2
def HOk(H:Hp)(h:Heap):Prop:=∀a o,H a=some o->CN P w H h a o
end
section
variable {P:Program}{w:World}{H H':Hp}{h h':Heap}{a:Addr}{o:HO}
theorem CN.lt(x:CN P w H h a o):a<h.objs.size:=by
 cases o with
 |lst xs=>obtain⟨_,_,_,_,e⟩:=x;exact ya5 e
 |tup xs=>obtain⟨_,_,_,p⟩:=x;exact p.lt
 |dK kvs=>obtain⟨_,_,_,_,o,_,_,e,_⟩:=x;exact ya5 e
 |dT kvs=>obtain⟨_,_,_,_,o,_,_,e,_⟩:=x;exact ya5 e
 |set S n=>obtain⟨o,_,_,_,e,_⟩:=x;exact ya5 e
 |ins C dx fs=>obtain⟨_,_,_,e,_⟩:=x;exact ya5 e
 |own y=>obtain⟨_,e⟩:=x;exact ya5 e
 |xd fs=>obtain⟨_,⟨_,_,_,e,_⟩,_⟩:=x;exact ya5 e
 |rng lo hi=>obtain⟨_,_,_,e⟩:=x;exact ya5 e
 |frz ob u=>obtain⟨e,_⟩:=x;exact ya5 e
 |tbl ps=>exact ya5 (x)
 |met f y=>exact ya5 (x)
 |ext φ=>obtain⟨_,⟨_,e⟩,_⟩:=x;exact ya5 e
theorem Paired.mapP:∀{l₁:List α} {l₂:List β},Paired F l₁ l₂->(∀a b,F a b->G a b)->Paired G l₁ l₂
 |_,_,.nil,_=>.nil
 |_,_,.cons r t,f=>.cons (f _ _ r) (Paired.mapP t f)
theorem CN.stay(x:CN P w H h a o)(k:∀b u,(b=a\/H b=some (.own a))->h.get? b=some u->h'.get? b=some u)
  (ho:∀b,H b=some (.own a)->H' b=some (.own a)) (ht:∀b xs,H b=some (.tup xs)->H' b=some (.tup xs)):CN P w H' h' a o:=by
 induction o with
 |lst xs=>obtain⟨z,its,n,r,e⟩:=x;exact⟨z,its,n,r,k _ _ (.inl rfl) e⟩
 |tup xs=>obtain⟨z,its,r,ob,e,c⟩:=x;exact⟨z,its,r,ob,k _ _ (.inl rfl) e,c⟩
 |dK kvs=>obtain⟨z,y,vs,r,ob,es,ep,e,c⟩:=x;exact⟨z,y,vs,r,ob,es,ep,k _ _ (.inl rfl) e,c⟩
 |dT kvs =>
  obtain⟨z,y,xs,r,ob,es,ep,e,c⟩:=x;exact⟨z,y,xs,Paired.mapP r λp q z=>⟨z.1,ht _ _ z.2.1,z.2.2⟩,ob,es,ep,k _ _ (.inl rfl) e,c⟩
 |set S n=>obtain⟨ob,es,ep,t,e,c⟩:=x;exact⟨ob,es,ep,t,k _ _ (.inl rfl) e,c⟩
 |ins C dx fs =>
  obtain⟨d,z,ne,e,mA,⟨od,es,ep,e2,c⟩,r⟩:=x;exact⟨ho _ d,z,ne,k _ _ (.inl rfl) e,mA,⟨od,es,ep,k _ _ (.inr d) e2,c⟩,r⟩
 |own y=>obtain⟨ob,e⟩:=x;exact⟨ob,k _ _ (.inl rfl) e⟩
 |xd fs=>obtain⟨mA,⟨od,es,ep,e,c⟩,r⟩:=x;exact⟨mA,⟨od,es,ep,k _ _ (.inl rfl) e,c⟩,r⟩
 |rng lo hi=>obtain⟨t,u,v,e⟩:=x;exact⟨t,u,v,k _ _ (.inl rfl) e⟩
 |frz ob u ih=>obtain⟨e,q⟩:=x;exact⟨k _ _ (.inl rfl) e,ih q⟩
 |tbl ps =>
  have e :=x;exact k a _ (.inl rfl) e
 |met f y =>
  have e :=x;exact k a _ (.inl rfl) e
 |ext φ=>obtain⟨p,⟨o,e⟩,st⟩:=x;exact⟨st _ _ p λo q=>k _ _ (.inl rfl) q,⟨o,k _ _ (.inl rfl) e⟩,st⟩
theorem HOk.lt(x:HOk P w H h)(e:H a=some o):a<h.objs.size:=(x a o e).lt
theorem HOk.fresh(x:HOk P w H h)(e:h.objs.size<=a):H a=none:=by
 cases q:H a with
 |none=>rfl
 |some u=>exact absurd (yac (x.lt q) e) (yaw _)
theorem HOk.kept(x:HOk P w H h)(k:∀b u,h.get? b=some u->h'.get? b=some u):HOk P w H h':=λa o e =>
 (x a o e).stay (λb u _ q=>k b u q) (λ_ q=>q) λ_ _ q=>q
theorem HOk.laid(x:HOk P w H h)(k:∀b u,h.get? b=some u->h'.get? b=some u)(hp:h.objs.size<=a)(new:CN P w (upd H a o) h' a o):HOk P w (upd H a o) h':=λb u e=>by
 have hn:=x.fresh hp
 by_cases hb:b=a
 .subst hb;rw[Bd]at e;grind
 .rw[Ak hb]at e;exact(x b u e).stay (λc v _ q=>k c v q) (λc q=>by rw[Ak (Bi q hn)];exact q) λc xs q=>by rw[Ak (Bi q hn)];exact q
end
def Rd(H:Hp)(a:Addr)(u:HO):Prop:=H a=some u\/∃o,H a=some (.frz o u)
theorem Rd.of{H:Hp}{a:Addr}{u:HO}(h:H a=some u):Rd H a u:=.inl h
theorem Rd.ok(r:Rd H a u)(x:HOk P w H h):CN P w H h a u:=by
 rcases r with r|⟨o,r⟩
 .exact x a u r
 .obtain⟨_,q⟩:=x a _ r;exact q
def Jn:Option HO->Prop
 |some (.lst _)=>True
 |some (.dK _)=>True
 |some (.dT _)=>True
 |some (.set _ _)=>True
 |some (.ins _ _ _)=>True
 |some (.ext _)=>True
 |_=>False
section
variable {P:Program}{w:World}{H:Hp}{h h':Heap}{x e:Addr}{o':HO}
theorem HOk.write(ok:HOk P w H h)(mu:Jn (H x))(he:e=x\/H e=some (.own x))(k:∀b u,b≠e->h.get? b=some u->h'.get? b=some u)(heo:∃u,h'.get? e=some u)
  (new:CN P w (upd H x o') h' x o'):HOk P w (upd H x o') h':=λb u q=>by
 have nown:∀c y,H c=some (.own y)->c≠x:=λc y r z=>by subst z;rw[r]at mu;exact mu
 have ntup:∀c xs,H c=some (.tup xs)->c≠x:=λc xs r z=>by subst z;rw[r]at mu;exact mu
 by_cases hb:b=x
 .subst hb;rw[Bd]at q;cases q;exact new
 .rw[Ak hb]at q
  by_cases hbe:b=e
  .have q':H b=some (.own x):=by
    grind
   rw[q]at q';cases q';obtain⟨v,hv⟩:=heo;exact⟨v,by rw[hbe];exact hv⟩
  .refine(ok b u q).stay (λc v hc r=>k c v ?_ r) (λc r=>by rw[Ak (nown c b r)];exact r) λc xs r=>by rw[Ak (ntup c xs r)];exact r
   grind
end
structure Un(fs ex:List Addr)(H H':Hp)(h h':Heap):Prop where
 keep:∀b o,h.get? b=some o->H b=none->b∉fs->b∉ex->h'.get? b=some o
 slot:∀b o,h.get? b=some o->H b=none->b∈fs->b∉ex->∃sl,h'.get? b=some { o with slots:=sl }
 free:∀b o,h.get? b=some o->H b=none->b∉ex->H' b=none
 there:∀b o,h.get? b=some o->b∉ex->∃o',h'.get? b=some o'
 tups:∀b xs,H b=some (.tup xs)->H' b=some (.tup xs)
 frzs:∀b o u,H b=some (.frz o u)->H' b=some (.frz o u)
 tbls:∀b ps,H b=some (.tbl ps)->∃more,H' b=some (.tbl (ps++more))
section
variable {fs fs' ex ex':List Addr}{H H1 H2:Hp}{h h1 h2 h':Heap}{a x e:Addr}{o:HO}
theorem Un.any(u:Un fs ex H H1 h h1)(q:h.get? b=some ob)(n:H b=none)(hx:b∉ex):∃sl,h1.get? b=some { ob with slots:=sl}:=by
 by_cases hb:b∈fs
 .exact u.slot b ob q n hb hx
 .exact⟨ob.slots,u.keep b ob q n hb hx⟩
theorem Un.trans(a:Un fs ex H H1 h h1)(b:Un fs ex H1 H2 h1 h2):Un fs ex H H2 h h2 where
 keep:=λc ob q n hc hx=>b.keep c ob (a.keep c ob q n hc hx) (a.free c ob q n hx) hc hx
 slot:=λc ob q n hc hx=>by
  obtain⟨sl,e1⟩:=a.slot c ob q n hc hx;obtain⟨sl',e2⟩:=b.slot c _ e1 (a.free c ob q n hx) hc hx
  grind
 free:=λc ob q n hx=>by
  obtain⟨o',e1⟩:=a.there c ob q hx;exact b.free c o' e1 (a.free c ob q n hx) hx
 there:=λc ob q hx=>by
  obtain⟨o',e1⟩:=a.there c ob q hx;exact b.there c o' e1 hx
 tups:=λc xs q=>b.tups c xs (a.tups c xs q)
 frzs:=λc ob xs q=>b.frzs c ob xs (a.frzs c ob xs q)
 tbls:=λc ps q=>by
  obtain⟨m1,e1⟩:=a.tbls c ps q;obtain⟨m2,e2⟩:=b.tbls c _ e1
  grind
theorem Un.kept(k:∀b u,h.get? b=some u->h'.get? b=some u):Un fs ex H H h h' :=
 ⟨λb ob q _ _ _=>k b ob q,λb ob q _ _ _=>⟨ob.slots,k b ob q⟩,λ_ _ _ n _=>n,λb ob q _=>⟨ob,k b ob q⟩,λ_ _ q=>q,λ_ _ _ q=>q,λ_ ps q=>⟨#[],by rw[q];simp⟩⟩
theorem Un.refl:Un fs ex H H h h:=Un.kept λ_ _ q=>q
theorem Un.laid(k:∀b u,h.get? b=some u->h'.get? b=some u)(hp:h.objs.size<=a)(hn:H a=none):Un fs ex H (upd H a o) h h' where
 keep:=λb u q _ _ _=>k b u q
 slot:=λb u q _ _ _=>⟨u.slots,k b u q⟩
 free:=λb u q n _=>by rw[Ak (yaf (yac (ya5 q) hp))];exact n
 there:=λb u q _=>⟨u,k b u q⟩
 tups:=λb xs q=>by rw[Ak (Bi q hn)];exact q
 frzs:=λb u xs q=>by rw[Ak (Bi q hn)];exact q
 tbls:=λb ps q=>⟨#[],by rw[Ak (Bi q hn),q];simp⟩
theorem Un.write(mu:Jn (H x))(he:e=x\/H e=some (.own x))(k:∀b u,b≠e->h.get? b=some u->h'.get? b=some u)(heo:∃u,h'.get? e=some u):Un fs ex H (upd H x o) h h':=by
 have hx:∀b,H b=none->b≠x:=λb n z=>by subst z;rw[n]at mu;exact mu
 have hb:∀b,H b=none->b≠e:=λb n z=>by
  grind
 have hm:∀b u,H b=some u->¬ Jn (some u)->b≠x:=λb u q nm z=>by grind
 refine⟨λb u q n _ _=>k b u (hb b n) q,λb u q n _ _=>⟨u.slots,k b u (hb b n) q⟩,λb u q n _=>by rw[Ak (hx b n)];exact n,λb u q _=>?_,
  λb xs q=>by rw[Ak (hm b _ q λz=>z)];exact q,λb u xs q=>by rw[Ak (hm b _ q λz=>z)];exact q,λb ps q=>⟨#[],by rw[Ak (hm b _ q λz=>z),q];simp⟩⟩
 grind
theorem Un.mono(u:Un fs ex H H1 h h1)(hs:∀b∈fs,b∈fs')(hx:∀b∈ex,b∈ex'):Un fs' ex' H H1 h h1 :=
 ⟨λb ob q n hb he=>u.keep b ob q n (λz=>hb (hs b z)) λz=>he (hx b z),λ_ _ q n _ he=>u.any q n λz=>he (hx _ z),λb ob q n he=>u.free b ob q n λz=>he (hx b z),λb ob q he=>u.there b ob q λz=>he (hx b z),u.tups,u.frzs,u.tbls⟩
end
def KI(h:Heap)(H:Hp):List Addr:=(List.range h.objs.size).filter λa=>(H a).isSome
def Fq(h:Heap)(H:Hp):Heap:=PySem.W.hideAll h (KI h H)
theorem zfl(h)(H):(Fq h H).objs.size=h.objs.size:=PySem.W.hideAll_size _ _
theorem zhm(e:h.get? b=some o)(n:H b=none):(Fq h H).get? b=some o :=
 ybl _ e λhm=>by
  have q :=(List.mem_filter.mp hm).2
  grind
theorem zk5(e:(Fq h H).get? b=some o):h.get? b=some o/\H b=none:=by
 have e' :=ybx (KI h H) e;refine⟨e',?_⟩;cases q:H b with
 |none=>rfl
 |some x =>
  have hm:b∈KI h H:=List.mem_filter.mpr ⟨ybo.mpr (ya5 e'),by simp[q]⟩
  have z:(Fq h H).get? b=none:=yd1 (KI h H) hm
  grind
def zlc(g h:Heap)(L:Addr):List (Addr×Obj):=(List.range h.objs.size).filterMap λa=>if a=L\/(g.get? a).isSome=true then none else (h.get? a).map λo=>(a,o)
def BO(g h:Heap)(L d:Addr):List (Addr×Obj):=(zlc g h L).filter λp=>decide (p.1≠d)
structure Mod(K:k6)(mg:Str->Option Value)(base:Heap):Prop where
 kin:K.In base
 glob:base.Ns mainGlobals mg
 blt:∃mb,base.Ns builtinsNs mb/\∀x:Str,x≠"__name__"->mb x=bootBuiltins x
 nolimit:base.NoLimit
structure Cx where
 prog:Program
 w:World
 K:k6
 mg:Str->Option Value
 base:Heap
 A:Around
 N:List Str
 s₀:Shared
 H₀:Hp
 env:Env
 outer:List Env
 stack:List Env
 ex:List Addr
 fn:Str->Bool
 calm:Bool
 pn:List (Addr×Obj)
 xe:Value->Shared->Prop
def BM(l:List Env):List Addr:=l.filterMap (·.frame)
abbrev Cx.fs(X:Cx):List Addr:=BM X.outer
def C8(sc:Scope)(x:Str):Prop:=sc.names.lookup x=some .local\/sc.names.lookup x=some .cell\/sc.names.lookup x=some .free
def GC(sc:Scope)(x:Str):Prop:=sc.names.lookup x=some .local\/sc.names.lookup x=some .cell
def Look(env:Env)(h:Heap)(m:Str->Option Value)(x:Str)(u:Value):Prop :=
 (env.kindOf x=some .local/\m x=some u)\/((env.kindOf x=some .cell\/env.kindOf x=some .free)/\∃c,env.cells.lookup x=some c/\h.IsCell c (some u))
structure Cx.Ok(X:Cx):Prop where
 mod:Mod X.K X.mg X.base
 kind:X.env.scope.kind=.function
 glob:X.env.globals=mainGlobals
 blt:X.env.builtins=builtinsNs
 above:X.s₀.heap.objs.size<=X.env.locals
 inj:∀x y c,X.env.cells.lookup x=some c->X.env.cells.lookup y=some c->x=y
 has:∀x,(X.env.kindOf x=some .cell\/X.env.kindOf x=some .free)->∃c,X.env.cells.lookup x=some c
 cab:∀x c,X.fn x=true->X.env.cells.lookup x=some c->X.s₀.heap.objs.size<=c
 hd:X.calm=true->X.A.handled=none
 frames:X.A.frames=some X.stack
 stk:X.stack=X.outer\/(X.stack=X.env::X.outer/\X.env.frame=some X.env.locals)
 exf:∀b∈X.ex,b≠X.env.locals/\∀x c,X.env.cells.lookup x=some c->c≠b
 bs:∀b o,X.base.get? b=some o->X.s₀.heap.get? b=some o/\X.H₀ b=none
 bsz:X.base.objs.size<=X.s₀.heap.objs.size
 noex:∀b o,X.base.get? b=some o->b∉X.ex
 exfs:∀b∈X.ex,b∉X.fs
 funs:X.s₀.heap.FunFrames X.base X.outer
 frf:∀b∈X.fs,X.H₀ b=none
structure Inv(X:Cx)(pins:List (Addr×Obj))(σ:List (Option V))(H:Hp)(s:Shared):Prop where
 ok:X.Ok
 os:s.os=X.s₀.os
 bare:AllBare s.gens
 base:Un X.fs X.ex X.H₀ H X.s₀.heap s.heap
 loc:∃m,s.heap.Ns X.env.locals m/\∀(i:Nat) (x:Str) (v:V),X.N[i]?=some x->σ[i]?=some (some v)->C8 X.env.scope x->∃u,A3 v u/\Look X.env s.heap m x u
 cell:∀x c,X.env.cells.lookup x=some c->∃v,s.heap.IsCell c v
 free:H X.env.locals=none
 freeC:∀x c,X.env.cells.lookup x=some c->H c=none
 pin:∀p∈X.pn++pins,s.heap.get? p.1=some p.2/\H p.1=none/\p.1≠X.env.locals/\p.1∉X.fs/\∀v,p.2.data≠.cell v
 hok:HOk X.prog X.w H s.heap
 len:σ.length=X.N.length
section
variable {X:Cx}{pins:List (Addr×Obj)}{σ:List (Option V)}{H H':Hp}{s:Shared}{h':Heap}
theorem Cx.Ok.nofr(ok:X.Ok)(e:X.base.get? b=some o):b∉X.fs:=λhb=>by
 have:=(ok.funs.mem hb).1
 grind
theorem Inv.bs(I:Inv X pins σ H s):∀b o,X.base.get? b=some o->s.heap.get? b=some o/\H b=none:=λb o e =>
 ⟨I.base.keep b o (I.ok.bs b o e).1 (I.ok.bs b o e).2 (I.ok.nofr e) (I.ok.noex b o e),I.base.free b o (I.ok.bs b o e).1 (I.ok.bs b o e).2 (I.ok.noex b o e)⟩
theorem Inv.bk(I:Inv X pins σ H s):∀b o,X.base.get? b=some o->s.heap.get? b=some o:=λb o e=>(I.bs b o e).1
theorem Inv.mod(I:Inv X pins σ H s):Mod X.K X.mg X.base:=I.ok.mod
theorem Inv.kIn(I:Inv X pins σ H s):X.K.In s.heap:=I.ok.mod.kin.keeps I.bk
theorem Inv.nolimit(I:Inv X pins σ H s):s.heap.NoLimit:=I.ok.mod.nolimit.keeps I.bk
theorem Inv.fr(I:Inv X pins σ H s):∃m,Fr X.base X.env.locals s.heap m :=
 let ⟨m,hn,_⟩:=I.loc
 ⟨m,hn,I.bk,yak I.ok.bsz I.ok.above⟩
theorem Inv.lt(I:Inv X pins σ H s):X.env.locals<s.heap.objs.size:=let ⟨_,hn,_⟩:=I.loc;hn.lt
theorem Inv.sz(I:Inv X pins σ H s):X.s₀.heap.objs.size<=s.heap.objs.size:=yak I.ok.above (yd2 I.lt)
theorem Inv.nofs(I:Inv X pins σ H s){a:Addr}(h:s.heap.objs.size<=a):a∉X.fs:=λhb=>by
 obtain⟨_,o,ho,_⟩:=I.ok.funs.mem hb;exact absurd (yac (ya5 ho) (yak I.sz h)) (yaw _)
theorem Inv.cne(I:Inv X pins σ H s):∀x c,X.env.cells.lookup x=some c->c≠X.env.locals:=λx c e z=>by
 obtain⟨v,o,ho,hd⟩:=I.cell x c e;obtain⟨m,⟨o',es,ep,ho',hd',_⟩,_⟩:=I.loc
 grind
theorem Inv.funs(I:Inv X pins σ H s):s.heap.FunFrames X.base X.outer:=by
 have all:∀(l ),(∀b∈BM l,b∈X.fs)->X.s₀.heap.FunFrames X.base l->s.heap.FunFrames X.base l:=by
  intro l
  induction l with
  |nil=>intro _ _;trivial
  |cons env r ih =>
   intro hs hl;obtain⟨hk,⟨L,o,hf,hn,ho,hd⟩,hr⟩:=hl;have hL :=hs L (by unfold BM;grind)
   obtain⟨sl,e⟩:=I.base.slot L o ho (I.ok.frf L hL) hL λz=>I.ok.exfs L z hL
   exact⟨hk,⟨L,_,hf,hn,e,hd⟩,ih (λb hb=>hs b (by unfold BM;rw[List.filterMap_cons,hf];exact ya4 _ hb)) hr⟩
 exact all X.outer (λ_ hb=>hb) I.ok.funs
theorem Inv.stack(I:Inv X pins σ H s):s.heap.FunFrames X.base X.stack:=by
 rcases I.ok.stk with e|⟨e,hf⟩
 .rw[e];exact I.funs
 .rw[e];obtain⟨m,hn,_⟩:=I.loc;refine .cons (by rw[I.ok.kind];decide) hf hn ?_ I.funs
  exact Heap.get?_none_of_le (yak I.ok.bsz I.ok.above)
theorem Inv.stkSub(I:Inv X pins σ H s):∀b∈BM X.stack,b∈X.env.locals::X.fs:=λb hb=>by
 rcases I.ok.stk with e|⟨e,hf⟩
 .grind
 .rw[e]at hb;unfold BM at hb;rw[List.filterMap_cons,hf]at hb;exact hb
theorem Inv.stkFree(I:Inv X pins σ H s):∀b∈BM X.stack,H b=none:=λb hb=>by
 rcases yaa.mp (I.stkSub b hb) with e|hb
 .rw[e];exact I.free
 .obtain⟨_,o,ho,_⟩:=I.ok.funs.mem hb;exact I.base.free b o ho (I.ok.frf b hb) λz=>I.ok.exfs b z hb
theorem Inv.step  {t':Nat}{d':Drawn}{ch:List Addr}(I:Inv X pins σ H s)
  (hch:∀b∈ch,(b∈X.ex\/X.s₀.heap.objs.size<=b)/\b≠X.env.locals/\(∀x c,X.env.cells.lookup x=some c->c≠b)/\∀p∈X.pn++pins,p.1≠b)
  (keep:∀b o,b≠X.env.locals->b∉X.fs->b∉ch->s.heap.get? b=some o->H b=none->h'.get? b=some o)
  (slot:∀b o,b≠X.env.locals->b∈X.fs->b∉ch->s.heap.get? b=some o->H b=none->∃sl,h'.get? b=some { o with slots:=sl }) (free:∀b o,b∉ch->s.heap.get? b=some o->H b=none->H' b=none)
  (there:∀b o,b∉ch->s.heap.get? b=some o->∃o',h'.get? b=some o')
  (tups:∀b xs,H b=some (.tup xs)->H' b=some (.tup xs)) (frzs:∀b o u,H b=some (.frz o u)->H' b=some (.frz o u)) (tbls:∀b ps,H b=some (.tbl ps)->∃more,H' b=some (.tbl (ps++more)))
  (ns:∀m,s.heap.Ns X.env.locals m->h'.Ns X.env.locals m) (hok:HOk X.prog X.w H' h') (hg:AllBare g') :
  Inv X pins σ H' { s with heap:=h',gens:=g',drawn:=d',toks:=t' }:=by
 have neL:∀b o,X.s₀.heap.get? b=some o->b≠X.env.locals:=λb o e=>yaf (yac (ya5 e) I.ok.above)
 have neC:∀b o,X.s₀.heap.get? b=some o->b∉X.ex->b∉ch:=λb o e hx hb=>by
  rcases(hch b hb).1 with z|z
  .exact hx z
  .exact absurd (yac (ya5 e) z) (yaw _)
 have cellK:∀x c,X.env.cells.lookup x=some c->∀v,s.heap.IsCell c v->h'.IsCell c v:=λx c e v ⟨o,ho,hd⟩=>by
  have nch :=λz=>(hch c z).2.2.1 x c e rfl
  by_cases hc:c∈X.fs
  .obtain⟨sl,q⟩:=slot c o (I.cne x c e) hc nch ho (I.freeC x c e);exact⟨_,q,hd⟩
  .exact⟨o,keep c o (I.cne x c e) hc nch ho (I.freeC x c e),hd⟩
 refine⟨I.ok,I.os,hg,⟨λb o e n hb hx=>?_,λb o e n hb hx=>?_,λb o e n hx=>?_,λb o e hx=>?_,λb xs e=>tups b xs (I.base.tups b xs e),λb o xs e=>frzs b o xs (I.base.frzs b o xs e),λb ps e=>?_⟩,?_,λx c e=>?_,?_,λx c e=>?_,λp hp=>?_,hok,I.len⟩
 .exact keep b o (neL b o e) hb (neC b o e hx) (I.base.keep b o e n hb hx) (I.base.free b o e n hx)
 .obtain⟨sl,e1⟩:=I.base.slot b o e n hb hx;obtain⟨sl',e2⟩:=slot b _ (neL b o e) hb (neC b o e hx) e1 (I.base.free b o e n hx);exact⟨sl',e2⟩
 .obtain⟨o',e1⟩:=I.base.there b o e hx;exact free b o' (neC b o e hx) e1 (I.base.free b o e n hx)
 .obtain⟨o',e1⟩:=I.base.there b o e hx;exact there b o' (neC b o e hx) e1
 .obtain⟨m1,e1⟩:=I.base.tbls b ps e;obtain⟨m2,e2⟩:=tbls b _ e1;exact⟨m1++m2,by rw[e2,Array.append_assoc]⟩
 .obtain⟨m,hn,hl⟩:=I.loc;refine⟨m,ns m hn,λi x v e1 e2 e3=>?_⟩
  obtain⟨u,r,l⟩:=hl i x v e1 e2 e3;refine⟨u,r,?_⟩
  rcases l with l|⟨k,c,e,z⟩
  .exact .inl l
  .exact .inr ⟨k,c,e,cellK x c e _ z⟩
 .obtain⟨v,z⟩:=I.cell x c e;exact⟨v,cellK x c e v z⟩
 .obtain⟨m,⟨o,_,_,ho,_⟩,_⟩:=I.loc;exact free _ o (λz=>(hch _ z).2.1 rfl) ho I.free
 .obtain⟨v,o,ho,hd⟩:=I.cell x c e;exact free c o (λz=>(hch c z).2.2.1 x c e rfl) ho (I.freeC x c e)
 .obtain⟨e,n,ne,nf,d⟩:=I.pin p hp;have nch :=λz=>(hch p.1 z).2.2.2 p hp rfl
  exact⟨keep p.1 p.2 ne nf nch e n,free p.1 p.2 nch e n,ne,nf,d⟩
theorem Inv.un  (I:Inv X pins σ H s)(u:Un X.fs [] H H' s.heap h')(hok:HOk X.prog X.w H' h'):Inv X pins σ H' { s with heap:=h',toks:=t' }:=by
 obtain⟨m,⟨o,es,ep,ho,r⟩,_⟩:=id I.loc;obtain⟨sl,hL⟩:=u.any ho I.free (by simp)
 exact I.step (ch:=[]) (λ_ z=>nomatch z) (λb o _ hb _ e n=>u.keep b o e n hb (by simp)) (λb o _ hb _ e n=>u.slot b o e n hb (by simp)) (λb o _ e n=>u.free b o e n (by simp)) (λb o _ e=>u.there b o e (by simp)) u.tups u.frzs u.tbls (λm' hm=>by
  obtain⟨o',es',ep',ho',r'⟩:=hm;rw[ho]at ho';cases ho';exact⟨_,es',ep',hL,r'⟩) hok I.bare
theorem Inv.call     (I:Inv X pins σ H s)(u:Un (BM X.stack) ch H H' s.heap h')(hok:HOk X.prog X.w H' h')(hg:AllBare g')
  (hch:∀b∈ch,(b∈X.ex\/X.s₀.heap.objs.size<=b)/\b≠X.env.locals/\(∀x c,X.env.cells.lookup x=some c->c≠b)/\∀p∈X.pn++pins,p.1≠b) :
  Inv X pins σ H' { s with heap:=h',gens:=g',drawn:=d',toks:=t' }:=by
 obtain⟨m,⟨o,es,ep,ho,r⟩,_⟩:=id I.loc;obtain⟨sl,hL⟩:=u.any ho I.free λz=>(hch _ z).2.1 rfl
 exact I.step hch (λb o hL hb hc e n=>u.keep b o e n (λz=>(yaa.mp (I.stkSub b z)).elim hL hb) hc) (λb o _ _ hc e n=>u.any e n hc) (λb o hc e n=>u.free b o e n hc) (λb o hc e=>u.there b o e hc) u.tups u.frzs u.tbls (λm' hm=>by
  obtain⟨o',es',ep',ho',r'⟩:=hm;rw[ho]at ho';cases ho';exact⟨_,es',ep',hL,r'⟩) hok hg
theorem Inv.turned   (I:Inv X pins σ H s)(k:∀b o,b≠it->s.heap.get? b=some o->h'.get? b=some o)(hn:H it=none)(hL:it≠X.env.locals)
  (h1:it∈X.ex\/X.s₀.heap.objs.size<=it) (h2:∀x c,X.env.cells.lookup x=some c->c≠it) (h3:∀p∈X.pn++pins,p.1≠it):Inv X pins σ H { s with heap:=h',toks:=t' }:=by
 refine I.step (ch:=[it]) (λb hb=>?_) (λb o _ _ hc e _=>k b o (λz=>hc (by simp[z])) e) (λb o _ _ hc e _=>⟨o.slots,k b o (λz=>hc (by simp[z])) e⟩) (λ_ _ _ _ n=>n)
  (λb o hc e=>⟨o,k b o (λz=>hc (by simp[z])) e⟩) (λ_ _ e=>e) (λ_ _ _ e=>e) (λb ps e=>⟨#[],by rw[e];simp⟩) (λm hm=>?_) (λb u e=>?_) I.bare
 .grind
 .obtain⟨o,es,ep,ho,r⟩:=hm;exact⟨o,es,ep,k _ o (yao hL) ho,r⟩
 .refine(I.hok b u e).stay (λc v hc q=>k c v ?_ q) (λ_ q=>q) λ_ _ q=>q
  grind
theorem Inv.tok(I:Inv X pins σ H s)(t):Inv X pins σ H { s with toks:=t}:=I.un Un.refl I.hok
theorem Inv.kept  (I:Inv X pins σ H s)(k:∀b u,s.heap.get? b=some u->h'.get? b=some u):Inv X pins σ H { s with heap:=h',toks:=t' }:=I.un (Un.kept k) (I.hok.kept k)
theorem Inv.laid{a:Addr}   (I:Inv X pins σ H s)(k:∀b u,s.heap.get? b=some u->h'.get? b=some u)(hp:s.heap.objs.size<=a)(new:CN X.prog X.w (upd H a o) h' a o) :
  Inv X pins σ (upd H a o) { s with heap:=h',toks:=t' }:=I.un (Un.laid k hp (I.hok.fresh hp)) (I.hok.laid k hp new)
theorem Inv.write    (I:Inv X pins σ H s)(mu:Jn (H x))(he:e=x\/H e=some (.own x))(k:∀b u,b≠e->s.heap.get? b=some u->h'.get? b=some u)(heo:∃u,h'.get? e=some u)
  (new:CN X.prog X.w (upd H x o) h' x o):Inv X pins σ (upd H x o) { s with heap:=h',toks:=t' }:=I.un (Un.write mu he k heo) (I.hok.write mu he k heo new)
theorem Inv.weak  (I:Inv X pins σ H s)(hl:σ'.length=σ.length)(w:∀(i:Nat) v,σ'[i]?=some (some v)->σ[i]?=some (some v)):Inv X pins σ' H s :=
 ⟨I.ok,I.os,I.bare,I.base,let ⟨m,hn,hl'⟩:=I.loc;⟨m,hn,λi x v e1 e2 e3=>hl' i x v e1 (w i v e2) e3⟩,I.cell,I.free,I.freeC,I.pin,I.hok,hl.trans I.len⟩
theorem Inv.pins_of(I:Inv X pins σ H s)(h:∀p∈pins',s.heap.get? p.1=some p.2/\H p.1=none/\p.1≠X.env.locals/\p.1∉X.fs/\∀v,p.2.data≠.cell v):Inv X pins' σ H s :=
 ⟨I.ok,I.os,I.bare,I.base,I.loc,I.cell,I.free,I.freeC,λp hp=>(yax.mp hp).elim (λz=>I.pin p (ybh _ z)) (h p),I.hok,I.len⟩
theorem N0{N:List Str}(hN:N.Nodup){i j:Nat}(a:N[i]?=some x)(b:N[j]?=some x):i=j:=by
 obtain⟨h1,e1⟩:=ya3.mp a;obtain⟨h2,e2⟩:=ya3.mp b;exact(ybc hN).mp (e1.trans e2.symm)
theorem SA         (I:Inv X pins σ H s)(hN:X.N.Nodup)(hi:X.N[i]?=some x)(hx:GC X.env.scope x)(r:A3 v u)
  (h:∀s',Inv X pins (σ.set i (some v)) H s'->(∃a,Heap.SameBut a s.heap s'.heap/\(a=X.env.locals\/X.env.cells.lookup x=some a))->Q () s') (hf:X.fn x=true\/X.env.scope.names.lookup x=some .local:=by first|exact .inl rfl|exact .inr rfl|assumption):wpAny M A (storeName X.env x u) Q E s:=by
 obtain⟨m,hn,hl⟩:=id I.loc;have hcls:(X.env.scope.kind == .class || (X.env.scope.kind == .module && X.env.locals != X.env.globals))=false:=by rw[I.ok.kind];rfl
 have hiσ:i<σ.length:=by rw[I.len];exact(ya3.mp hi).1
 have cne:=I.cne
 have tracked:∀{a } {h' },(∃o,s.heap.get? a=some o/\H a=none)->Heap.SameBut a s.heap h'->HOk X.prog X.w H h':=fun  ha hs b ob e=>by
  obtain⟨_,_,hfree⟩:=ha;refine(I.hok b ob e).stay (λc w' hc q=>(hs.2 c ?_).trans q) (λ_ q=>q) λ_ _ q=>q
  rintro rfl
  rcases hc with rfl|hc
  .rw[hfree]at e;cases e
  .rw[hfree]at hc;cases hc
 rcases hx with hk|hk
 .refine wpAny_storeName_local hk hn (λh' hn' hs=>?_) hcls
  obtain⟨oL,_,_,hoL,_⟩:=id hn;refine h _ ⟨I.ok,I.os,I.bare,⟨λb o e n hb hx=>?_,λb o e n hb hx=>?_,I.base.free,λb o e hx=>?_,I.base.tups,I.base.frzs,I.base.tbls⟩,⟨_,hn',λj y v' e1 e2 e3=>?_⟩,λy c e=>?_,I.free,I.freeC,λp hp=>?_,tracked ⟨oL,hoL,I.free⟩ hs,by simpa using I.len⟩ ⟨_,hs,.inl rfl⟩
  .exact(hs.2 b (yaf (yac (ya5 e) I.ok.above))).trans (I.base.keep b o e n hb hx)
  .obtain⟨sl,e1⟩:=I.base.slot b o e n hb hx;exact⟨sl,(hs.2 b (yaf (yac (ya5 e) I.ok.above))).trans e1⟩
  .obtain⟨o',e1⟩:=I.base.there b o e hx;exact⟨o',(hs.2 b (yaf (yac (ya5 e) I.ok.above))).trans e1⟩
  .by_cases hj:j=i
   .subst hj;rw[hi]at e1;cases e1;rw[yal hiσ]at e2;cases e2;exact⟨u,r,.inl ⟨hk,by simp⟩⟩
   .rw[yah (yao hj)]at e2;obtain⟨u',r',q⟩:=hl j y v' e1 e2 e3;refine⟨u',r',?_⟩
    rcases q with ⟨k,e⟩|⟨k,c,e,z⟩
    .refine .inl ⟨k,?_⟩;have:y≠x:=λe=>hj (N0 hN e1 (e▸hi))
     simp[this,e]
    .exact .inr ⟨k,c,e,z.sameBut hs (cne y c e)⟩
  .obtain⟨w',z⟩:=I.cell y c e;exact⟨w',z.sameBut hs (cne y c e)⟩
  .obtain⟨e,n,ne,nf,d⟩:=I.pin p hp;exact⟨(hs.2 p.1 ne).trans e,n,ne,nf,d⟩
 .have hfn:X.fn x=true:=by
   rcases hf with z|z
   .exact z
   .rw[z]at hk;cases hk
  obtain⟨c,hc⟩:=I.ok.has x (.inl hk);obtain⟨w',z⟩:=I.cell x c hc;refine wpAny_storeName_cell I.ok.kind hk hc z (λh' hc' hs=>?_)
  obtain⟨oc,hoc,hocd⟩:=id z;refine h { s with heap:=h' } ⟨I.ok,I.os,I.bare,⟨λb o e n hb hx=>?_,λb o e n hb hx=>?_,I.base.free,λb o e hx=>?_,I.base.tups,I.base.frzs,I.base.tbls⟩,⟨m,hn.sameBut hs (yao (cne x c hc)),λj y v' e1 e2 e3=>?_⟩,λy c' e=>?_,I.free,I.freeC,λp hp=>?_,tracked ⟨oc,hoc,I.freeC x c hc⟩ hs,by simpa using I.len⟩ ⟨c,hs,.inr hc⟩
  .exact(hs.2 b (yaf (yac (ya5 e) (I.ok.cab x c hfn hc)))).trans (I.base.keep b o e n hb hx)
  .obtain⟨sl,e1⟩:=I.base.slot b o e n hb hx;exact⟨sl,(hs.2 b (yaf (yac (ya5 e) (I.ok.cab x c hfn hc)))).trans e1⟩
  .obtain⟨o',e1⟩:=I.base.there b o e hx;exact⟨o',(hs.2 b (yaf (yac (ya5 e) (I.ok.cab x c hfn hc)))).trans e1⟩
  .by_cases hj:j=i
   .subst hj;rw[hi]at e1;cases e1;rw[yal hiσ]at e2;cases e2;exact⟨u,r,.inr ⟨.inl hk,c,hc,hc'⟩⟩
   .rw[yah (yao hj)]at e2;obtain⟨u',r',q⟩:=hl j y v' e1 e2 e3;refine⟨u',r',?_⟩
    rcases q with q|⟨k,c',e,z'⟩
    .exact .inl q
    .refine .inr ⟨k,c',e,z'.sameBut hs ?_⟩;rintro rfl;exact hj (N0 hN e1 (I.ok.inj _ _ _ e hc▸hi))
  .by_cases hcc:c'=c
   .subst hcc;exact⟨_,hc'⟩
   .obtain⟨w2,z2⟩:=I.cell y c' e;exact⟨w2,z2.sameBut hs hcc⟩
  .obtain⟨e,n,ne,nf,d⟩:=I.pin p hp;refine⟨(hs.2 p.1 ?_).trans e,n,ne,nf,d⟩;intro q;rw[q,hoc]at e;have q' :=yap e;exact d w' (by rw[<- q'];exact hocd)
theorem Mt(I:Inv X pins σ H s)(hN:X.N.Nodup)(hi:X.N[i]?=some x)(hx:GC X.env.scope x)(r:A3 v u)
  (h:∀s',Inv X pins (σ.set i (some v)) H s'->Q () s') (hf:X.fn x=true\/X.env.scope.names.lookup x=some .local:=by rfl):wpAny M A (storeName X.env x u) Q E s :=
 SA I hN hi hx r (λs' I' _=>h s' I') hf
theorem Inv.call'   (I:Inv X pins σ H s)(ho:s'.os=s.os)(u:Un (BM X.stack) ch H H' s.heap s'.heap)(hok:HOk X.prog X.w H' s'.heap)(hg:AllBare s'.gens)
  (hch:∀b∈ch,(b∈X.ex\/X.s₀.heap.objs.size<=b)/\b≠X.env.locals/\(∀x c,X.env.cells.lookup x=some c->c≠b)/\∀p∈X.pn++pins,p.1≠b):Inv X pins σ H' s':=by
 obtain⟨h',g',d',t',o'⟩:=s';have e :=ho;subst e;exact I.call u hok hg hch
end
abbrev XK:=Value->Option Addr->Hp->Prop
abbrev St:=List (Option V)
abbrev VK:=V->Hp->Prop
abbrev TE:=St->Hp->VK->Prop
abbrev TT:=St->Hp->(Bool->Hp->Prop)->Prop
abbrev TA:=St->Hp->(List V->Hp->Prop)->Prop
structure Ends where
 nx:St->Hp->Prop
 rt:VK
 bk:St->Hp->Prop:=λ_ _=>False
 ct:St->Hp->Prop:=λ_ _=>False
abbrev TS:=Ends->St->Hp->Prop
def EP(X:Cx)(pins:List (Addr×Obj))(σ:St)(Q:VK)(u:Value)(s':Shared):Prop:=∃v H',Inv X pins σ H' s'/\A3 v u/\Q v H'
def TP(X:Cx)(pins:List (Addr×Obj))(σ:St)(Q:Bool->Hp->Prop)(b:Bool)(s':Shared):Prop:=∃H',Inv X pins σ H' s'/\Q b H'
def AP(X:Cx)(pins:List (Addr×Obj))(σ:St)(Q:List V->Hp->Prop)(us:List Value)(s':Shared):Prop:=∃vs H',Inv X pins σ H' s'/\AZ vs us/\Q vs H'
def SP(X:Cx)(pins:List (Addr×Obj))(D:Ends)(f:Flow)(s':Shared):Prop :=
 match f with
 |.next=>∃σ' H',Inv X pins σ' H' s'/\D.nx σ' H'
 |.brk=>∃σ' H',Inv X pins σ' H' s'/\D.bk σ' H'
 |.cont=>∃σ' H',Inv X pins σ' H' s'/\D.ct σ' H'
 |.ret u=>∃v σ' H',Inv X pins σ' H' s'/\A3 v u/\D.rt v H'
def PE(X:Cx)(e:Expr)(t:TE):Prop :=
 ∀(pins:List (Addr×Obj)) (s:Shared) (σ:St) (H:Hp) (Q:VK),Inv X pins σ H s->t σ H Q->wpAny (model X.prog X.w) X.A (eval e X.env) (EP X pins σ Q) X.xe s
def PT(X:Cx)(e:Expr)(t:TT):Prop :=
 ∀(pins:List (Addr×Obj)) (s:Shared) (σ:St) (H:Hp) (Q:Bool->Hp->Prop),Inv X pins σ H s->t σ H Q->wpAny (model X.prog X.w) X.A (isTrue e X.env (eval e X.env)) (TP X pins σ Q) X.xe s
def PW(X:Cx)(e:Expr)(t:TT):Prop :=
 ∀(whole:Sem Value) (pins:List (Addr×Obj)) (s:Shared) (σ:St) (H:Hp) (Q:Bool->Hp->Prop),Inv X pins σ H s->t σ H Q->wpAny (model X.prog X.w) X.A (isTrue e X.env whole) (TP X pins σ Q) X.xe s
theorem PW.pt{X:Cx}{e:Expr}{t:TT}(h:PW X e t):PT X e t:=h _
def PA(X:Cx)(es:List Expr)(t:TA):Prop :=
 ∀(pos:Pos) (pins:List (Addr×Obj)) (s:Shared) (σ:St) (H:Hp) (Q:List V->Hp->Prop),Inv X pins σ H s->t σ H Q->wpAny (model X.prog X.w) X.A (spliced (backTo pos (starEach es X.env))) (AP X pins σ Q) X.xe s
def PS(X:Cx)(st:Stmt)(t:TS):Prop :=
 ∀(pins:List (Addr×Obj)) (s:Shared) (σ:St) (H:Hp) (D:Ends),Inv X pins σ H s->t D σ H->wpAny (model X.prog X.w) X.A (exec st X.env) (SP X pins D) X.xe s
def BI(X:Cx)(st:List Stmt)(t:TS):Prop :=
 ∀(pins:List (Addr×Obj)) (s:Shared) (σ:St) (H:Hp) (D:Ends),Inv X pins σ H s->t D σ H->wpAny (model X.prog X.w) X.A (execs st X.env) (SP X pins D) X.xe s
theorem AU  {t:Sem α}      (h:wpAny M A t Q E s)(hQ:∀a s,Q a s->Q' a s):wpAny M A t Q' E s:=ydq h hQ λ_ _ x=>x
section
variable {X:Cx}
def Mi(i:Nat):TE:=λσ H Q=>∃v,σ[i]?=some (some v)/\Q v H
def tC(v:V):TE:=λ_ H Q=>Q v H
theorem E5{pos}(hN:X.N[i]?=some x)(hv:C8 X.env.scope x)(hd:(x == "__debug__")=false:=by decide)(hcd:(x == "__classdict__")=false:=by decide):PE X (.Name x pos) (Mi i):=by
 intro pins s σ H Q I h;obtain⟨v,e,h⟩:=h;obtain⟨m,hn,hl⟩:=I.loc;obtain⟨u,r,l⟩:=hl i x v hN e hv;have As:EP X pins σ Q u s:=⟨v,H,I,r,h⟩
 rcases l with ⟨hk,hm⟩|⟨hk,c,hc,hcell⟩
 .exact wpAny_Name (wpAny_loadName_local I.ok.kind hk hn hm As) hd
 .rcases hk with hk|hk
  .exact wpAny_Name (wpAny_loadName_cell I.ok.kind hk hc hcell As) hd
  .exact wpAny_Name (wpAny_loadName_free I.ok.kind hk hc hcell As hcd) hd
theorem zn3:PE X (.Constant (.int i) j pos) (tC (.int i)):=λ_ _ _ H _ I h=>wpAny_Constant_int ⟨.int i,H,I.tok _,⟨_,rfl⟩,h⟩
theorem pe_bl:PE X (.Constant (.bool b) j pos) (tC (.bl b)):=λ_ _ _ H _ I h=>Constant_bool ⟨.bl b,H,I,rfl,h⟩
theorem Uq:PE X (.Constant .none j pos) (tC .non):=λ_ _ _ H _ I h=>Constant_none ⟨.non,H,I,rfl,h⟩
theorem zmy:PE X (.Constant (.str x) j pos) (tC (.str x)):=λ_ _ _ H _ I h=>Calls.Constant_str ⟨.str x,H,I.tok _,⟨_,rfl⟩,h⟩
def Gl(X:Cx)(x:Str):Prop:=X.env.kindOf x=some .globalImplicit
theorem HX{σ:St}(I:Inv X pins σ H s)(hg:Gl X x)(hm:X.mg x=some u)(h:Q u s)
  (hd:(x == "__debug__")=false:=by decide):wpAny (model X.prog X.w) X.A (eval (.Name x pos) X.env) Q E s :=
 Calls.Name_function_global I.ok.kind hg (Calls.loadGlobal_global (by rw[I.ok.glob];exact I.mod.glob.keeps I.bk) hm h) hd
theorem Fm{E}{σ:St}{pos}(I:Inv X pins σ H s)(hg:Gl X x)(hm:X.mg x=none)(hv:bootBuiltins x=some u)(h:Q u s)
  (hn:x≠"__name__":=by decide) (hd:(x == "__debug__")=false:=by decide):wpAny (model X.prog X.w) X.A (eval (.Name x pos) X.env) Q E s:=by
 obtain⟨mb,h1,h2⟩:=I.mod.blt;exact Calls.Name_function_global I.ok.kind hg (Calls.loadGlobal_builtin (by rw[I.ok.glob];exact I.mod.glob.keeps I.bk) hm (by rw[I.ok.blt];exact h1.keeps I.bk) ((h2 x hn).trans hv) h) hd
theorem NR     (hg:Gl X x)(hm:X.mg x=some u)(r:A3 v u)(hd:(x == "__debug__")=false:=by decide):PE X (.Name x pos) (tC v) :=
 λ_ _ _ H _ I h=>HX I hg hm ⟨v,H,I,r,h⟩ hd
theorem Ut{x:Str}{v:V}{u:Value}{pos:Pos}(hg:Gl X x)(hm:X.mg x=none)(hv:bootBuiltins x=some u)(r:A3 v u)(hn:x≠"__name__":=by decide)(hd:(x == ("__debug__":Str))=false:=by decide):PE X (.Name x pos) (tC v) :=
 λ_ _ _ H _ I h=>Fm I hg hm hv ⟨v,H,I,r,h⟩ hn hd
variable {a b:Expr}{ta tb:TE}{pos:Pos}
def tB(t:TE):TT:=λσ H Q=>t σ H λx H1=>∃c,x=.bl c/\Q c H1
theorem zmk   (h:PE X e t)(he:∀whole,isTrue e X.env whole=(do let v <- whole;standAt e.pos;holding [v] (truthy v)):=by rfl):PT X e (tB t):=by
 intro pins s σ H Q I hw;refine isTrue_plain (AU (h pins s σ H _ I hw) λv s1 ⟨x,H1,I1,r1,q1⟩=>?_) (he _)
 obtain⟨d,rfl,q⟩:=q1;cases r1;exact ydr ⟨H1,I1,q⟩
variable {tA tB':TT}{BO:List Expr}
def tAnd(t u:TT):TT:=λσ H Q=>t σ H λc H1=>if c=true then u σ H1 Q else Q false H1
def tOr(t u:TT):TT:=λσ H Q=>t σ H λc H1=>if c=true then Q true H1 else u σ H1 Q
def Rh(t:TT):TT:=λσ H Q=>t σ H λc H1=>Q (!c) H1
theorem zj9(ha:PT X a tA):PW X (.BoolOp .And [a] pos) tA:=by
 intro wh pins s σ H Q I h;refine isTrue_and (AU (ha pins s σ H Q I h) λc s1 e=>?_)
 cases c with
 |true=>exact isTrue_and_nil e
 |false=>exact e
theorem zmi(ha:PT X a tA):PW X (.BoolOp .Or [a] pos) tA:=by
 intro wh pins s σ H Q I h;refine isTrue_or (AU (ha pins s σ H Q I h) λc s1 e=>?_)
 cases c with
 |false=>exact isTrue_or_nil e
 |true=>exact e
theorem zmj(ha:PT X a tA)(hb:PW X (.BoolOp .And (b::BO) pos) tB'):PW X (.BoolOp .And (a::b::BO) pos) (tAnd tA tB'):=by
 intro wh pins s σ H Q I h;refine isTrue_and (AU (ha pins s σ H _ I h) λc s1 ⟨H1,I1,q1⟩=>?_)
 cases c with
 |true=>exact hb wh pins s1 σ H1 Q I1 q1
 |false=>exact⟨H1,I1,q1⟩
theorem pw_or(ha:PT X a tA)(hb:PW X (.BoolOp .Or (b::BO) pos) tB'):PW X (.BoolOp .Or (a::b::BO) pos) (tOr tA tB'):=by
 intro wh pins s σ H Q I h;refine isTrue_or (AU (ha pins s σ H _ I h) λc s1 ⟨H1,I1,q1⟩=>?_)
 cases c with
 |true=>exact⟨H1,I1,q1⟩
 |false=>exact hb wh pins s1 σ H1 Q I1 q1
theorem zml(ha:PT X a tA):PT X (.UnaryOp .Not a pos) (Rh tA):=by
 intro pins s σ H Q I h;exact isTrue_not (ha pins s σ H (λc H1=>Q (!c) H1) I h)
def tAndV(ta tb:TE):TE:=λσ H Q=>ta σ H λx H1=>∃c,x=.bl c/\if c=true then tb σ H1 Q else Q (.bl false) H1
def tOrV(ta tb:TE):TE:=λσ H Q=>ta σ H λx H1=>∃c,x=.bl c/\if c=true then Q (.bl true) H1 else tb σ H1 Q
def Rf(ta:TE):TE:=λσ H Q=>ta σ H λx H1=>∃c,x=.bl c/\Q (.bl (!c)) H1
theorem zmz(h:PE X a t):PE X (.BoolOp op [a] pos) t:=λpins s σ H Q I hw=>BoolOp_one (h pins s σ H Q I hw)
theorem zn4(ha:PE X a ta)(hb:PE X (.BoolOp .And (b::BO) pos) tb):PE X (.BoolOp .And (a::b::BO) pos) (tAndV ta tb):=by
 intro pins s σ H Q I h;refine BoolOp_and (AU (ha pins s σ H _ I h) λv s1 ⟨x,H1,I1,r1,q1⟩=>?_)
 obtain⟨c,rfl,q1⟩:=q1;cases r1;refine ydr ?_;cases c with
 |true=>exact hb pins s1 σ H1 Q I1 q1
 |false=>exact⟨.bl false,H1,I1,rfl,q1⟩
theorem pe_or(ha:PE X a ta)(hb:PE X (.BoolOp .Or (b::BO) pos) tb):PE X (.BoolOp .Or (a::b::BO) pos) (tOrV ta tb):=by
 intro pins s σ H Q I h;refine BoolOp_or (AU (ha pins s σ H _ I h) λv s1 ⟨x,H1,I1,r1,q1⟩=>?_)
 obtain⟨c,rfl,q1⟩:=q1;cases r1;refine ydr ?_;cases c with
 |false=>exact hb pins s1 σ H1 Q I1 q1
 |true=>exact⟨.bl true,H1,I1,rfl,q1⟩
theorem zn0(ha:PE X a ta):PE X (.UnaryOp .Not a pos) (Rf ta):=by
 intro pins s σ H Q I h;refine UnaryOp_ (AU (ha pins s σ H _ I h) λv s1 ⟨x,H1,I1,r1,q1⟩=>?_)
 obtain⟨c,rfl,q1⟩:=q1;cases r1;exact not_of (ydr ⟨.bl (!c),H1,I1,rfl,q1⟩)
def tIf(t:TT)(ta tb:TE):TE:=λσ H Q=>t σ H λc H1=>if c=true then ta σ H1 Q else tb σ H1 Q
theorem zh1(hc:PT X c tA)(ha:PE X a ta)(hb:PE X b tb):PE X (.IfExp c a b pos) (tIf tA ta tb):=by
 intro pins s σ H Q I h;refine wpAny_IfExp (AU (hc pins s σ H _ I h) λd s1 ⟨H1,I1,q1⟩=>?_)
 cases d with
 |true=>exact ha pins s1 σ H1 Q I1 q1
 |false=>exact hb pins s1 σ H1 Q I1 q1
end
def A9(K:k6)(H:Hp)(a:Addr)(xs:List V):Prop :=
 Rd H a (.lst xs) \/
  ∃(o:Obj) (its:Array Value) (n:Nat),K.lookup a=some o/\o.cls=.type "list"/\o.dict=none/\o.data=.seq its n/\its.size<=sizeLine/\AZ xs its.toList
def Bm(K:k6)(H:Hp)(a:Addr)(xs:List V):Prop :=
 Rd H a (.tup xs) \/
  ∃(o:Obj) (its:Array Value) (n:Nat),K.lookup a=some o/\o.cls=.type "tuple"/\o.data=.seq its n/\its.size<=sizeLine/\AZ xs its.toList
noncomputable def absV:Value->Option V
 |.none=>some .non
 |.bool b=>some (.bl b)
 |.int i _=>some (.int i)
 |.str x _=>some (.str x)
 |.bytes b _=>some (.byt b)
 |.float b _=>some (.flt b)
 |.ref a=>some (.ref a)
 |.type n=>some (.ty n)
 |_=>none
theorem A3.abs(r:A3 x u):absV u=some x:=by
 cases x with
 |non=>cases r;rfl
 |bl _=>cases r;rfl
 |int _=>obtain⟨t,rfl⟩:=r;rfl
 |str _=>obtain⟨t,rfl⟩:=r;rfl
 |byt _=>obtain⟨t,rfl⟩:=r;rfl
 |flt _=>obtain⟨t,rfl⟩:=r;rfl
 |ref _=>cases r;rfl
 |ty _=>cases r;rfl
theorem A3.inj(r:A3 x u)(q:A3 y u):x=y:=yap (r.abs.symm.trans q.abs)
theorem AZ.inj:∀{xs ys} {us},AZ xs us->AZ ys us->xs=ys
 |_,_,_,.nil,.nil=>rfl
 |_,_,_,.cons r t,.cons r' t'=>by rw[r.inj r',AZ.inj t t']
section
variable {X:Cx}{pins:List (Addr×Obj)}{σ:St}{H:Hp}{s:Shared}{a:Addr}{xs ys:List V}
theorem A9.of{K:k6}(h:H a=some (.lst xs)):A9 K H a xs:=.inl (.inl h)
theorem Bm.of{K:k6}(h:H a=some (.tup xs)):Bm K H a xs:=.inl (.inl h)
theorem Inv.list(I:Inv X pins σ H s)(h:A9 X.K H a xs):∃its ,AZ xs its/\PlainL s.heap a its.toArray/\xs.length<=sizeLine:=by
 rcases h with h|⟨o,its,n,hk,hc,hd,hs,hz,r⟩
 .obtain⟨z,its,n,r,e⟩:=h.ok I.hok;exact⟨its,r,⟨_,n,e,rfl,rfl,rfl⟩,z⟩
 .refine⟨its.toList,r,⟨o,n,I.kIn a o hk,hc,hd,by omega⟩,?_⟩
  have e:=r.length
  grind
theorem Inv.tuple(I:Inv X pins σ H s)(h:Bm X.K H a xs):∃its ,AZ xs its/\IsTup s.heap a its.toArray/\xs.length<=sizeLine:=by
 rcases h with h|⟨o,its,n,hk,hc,hs,hz,r⟩
 .obtain⟨z,its,r,p⟩:=h.ok I.hok
  grind
 .refine⟨its.toList,r,⟨o,I.kIn a o hk,hc,n,by omega⟩,?_⟩
  have e:=r.length
  grind
theorem Inv.list_inj(I:Inv X pins σ H s)(h:A9 X.K H a xs)(h':A9 X.K H a ys):xs=ys:=by
 obtain⟨its,r,⟨o,n,e,_,_,d⟩,_⟩:=I.list h;obtain⟨its',r',⟨o',n',e',_,_,d'⟩,_⟩:=I.list h';have:its=its':=by grind
 subst this;exact r.inj r'
theorem Inv.tuple_inj(I:Inv X pins σ H s)(h:Bm X.K H a xs)(h':Bm X.K H a ys):xs=ys:=by
 obtain⟨its,r,⟨o,e,_,n,d⟩,_⟩:=I.tuple h;obtain⟨its',r',⟨o',e',_,n',d'⟩,_⟩:=I.tuple h';have:its=its':=by grind
 subst this;exact r.inj r'
end
noncomputable abbrev Cx.wish(X:Cx)(E:Value->Shared->Prop):Cx:={ X with xe:=E }
abbrev Cx.nox(X:Cx):Cx:=X.wish λ_ _=>False
theorem Cx.Ok.wish{X:Cx}(ok:X.Ok)(E):(X.wish E).Ok :=
 ⟨ok.mod,ok.kind,ok.glob,ok.blt,ok.above,ok.inj,ok.has,ok.cab,ok.hd,ok.frames,ok.stk,ok.exf,ok.bs,ok.bsz,ok.noex,ok.exfs,ok.funs,ok.frf⟩
theorem Cx.Ok.unwish{X:Cx}(ok:(X.wish E).Ok):X.Ok :=
 ⟨ok.mod,ok.kind,ok.glob,ok.blt,ok.above,ok.inj,ok.has,ok.cab,ok.hd,ok.frames,ok.stk,ok.exf,ok.bs,ok.bsz,ok.noex,ok.exfs,ok.funs,ok.frf⟩
section
variable {X:Cx}{pins:List (Addr×Obj)}{σ:St}{H:Hp}{s:Shared}{E:Value->Shared->Prop}
theorem Inv.wish(I:Inv X pins σ H s)(E):Inv (X.wish E) pins σ H s:=⟨I.ok.wish E,I.os,I.bare,I.base,I.loc,I.cell,I.free,I.freeC,I.pin,I.hok,I.len⟩
theorem Inv.unwish(I:Inv (X.wish E) pins σ H s):Inv X pins σ H s:=⟨I.ok.unwish,I.os,I.bare,I.base,I.loc,I.cell,I.free,I.freeC,I.pin,I.hok,I.len⟩
theorem SP.unwish(h:SP (X.wish E) pins D f s'):SP X pins D f s':=by
 cases f with
 |next=>obtain⟨σ',H',I,q⟩:=h;exact⟨σ',H',I.unwish,q⟩
 |brk=>obtain⟨σ',H',I,q⟩:=h;exact⟨σ',H',I.unwish,q⟩
 |cont=>obtain⟨σ',H',I,q⟩:=h;exact⟨σ',H',I.unwish,q⟩
 |ret u=>obtain⟨v,σ',H',I,r,q⟩:=h;exact⟨v,σ',H',I.unwish,r,q⟩
theorem PE.nox(h:PE X.nox e t):PE X e t:=λpins s σ H Q I hw =>
 ydq (h pins s σ H Q (I.wish _) hw) (λ_ _ ⟨v,H',I',r,q⟩=>⟨v,H',I'.unwish,r,q⟩) λ_ _ z=>False.elim z
theorem PT.nox(h:PT X.nox e t):PT X e t:=λpins s σ H Q I hw =>
 ydq (h pins s σ H Q (I.wish _) hw) (λ_ _ ⟨H',I',q⟩=>⟨H',I'.unwish,q⟩) λ_ _ z=>False.elim z
theorem BI.nox{st}(h:BI X.nox st t):BI X st t:=λpins s σ H D I hw =>
 ydq (h pins s σ H D (I.wish _) hw) (λ_ _ q=>q.unwish) λ_ _ z=>False.elim z
end
section
variable {X:Cx}{st:Stmt}{BO:List Stmt}{t u:TS}{e:Expr}{te:TE}{pos:Pos}
def Rj:TS:=λD σ H=>D.nx σ H
def Rb(t u:TS):TS:=λD σ H=>t { D with nx:=u D } σ H
theorem zje:BI X [] Rj:=λ_ _ σ H _ I h=>yds ⟨σ,H,I,h⟩
theorem zgw(h1:PS X st t)(h2:BI X BO u):BI X (st::BO) (Rb t u):=by
 intro pins s σ H D I h;refine wpAny_execs_cons (AU (h1 pins s σ H { D with nx:=u D } I h) λf s1 q=>?_)
 cases f with
 |next =>
  obtain⟨σ',H',I',q⟩:=q;exact h2 pins s1 σ' H' D I' q
 |ret v=>exact q
 |brk=>exact q
 |cont=>exact q
theorem zjd(h1:PS X st t):BI X [st] t:=by
 intro pins s σ H D I h;refine wpAny_execs_cons (AU (h1 pins s σ H D I h) λf s1 q=>?_)
 cases f with
 |next=>exact yds q
 |ret v=>exact q
 |brk=>exact q
 |cont=>exact q
theorem zjg:PS X (.Pass pos) Rj:=λ_ _ σ H _ I h=>wpAny_Pass ⟨σ,H,I,h⟩
theorem Inv.quiet  {σ:St}   (I:Inv X pins σ H s):interactive X.env=false:=by simp[interactive,I.ok.kind]
def tDrop(te:TE):TS:=λD σ H=>te σ H λ_ H1=>D.nx σ H1
theorem K6(he:PE X e te)(hs:swapsWith e none pos.line X.env=pure false:=by rfl):PS X (.Expr e pos) (tDrop te):=by
 intro pins s σ H D I h;exact wpAny_Expr_any (AU (he pins s σ H _ I h) λv s1 ⟨x,H1,I1,r1,q1⟩=>⟨σ,H1,I1,q1⟩) I.quiet hs
def tRet(te:TE):TS:=λD σ H=>te σ H D.rt
theorem zmo(he:PE X e te):PS X (.Return (some e) pos) (tRet te):=by
 intro pins s σ H D I h;exact wpAny_Return_some (AU (he pins s σ H _ I h) λv s1 ⟨x,H1,I1,r1,q1⟩=>⟨x,σ,H1,I1,r1,q1⟩)
def tRetN:TS:=λD _ H=>D.rt .non H
theorem zjf:PS X (.Return none pos) tRetN:=λ_ _ σ H _ I h=>wpAny_Return_none ⟨.non,σ,H,I,rfl,h⟩
def tIfS(c:TT)(t u:TS):TS:=λD σ H=>c σ H λb H1=>if b=true then t D σ H1 else u D σ H1
theorem ps_if(hc:PT X c tc)(ha:BI X a t)(hb:BI X b u):PS X (.If c a b pos) (tIfS tc t u):=by
 intro pins s σ H D I h;refine wpAny_If (AU (hc pins s σ H _ I h) λd s1 ⟨H1,I1,q1⟩=>?_)
 cases d with
 |true=>exact ha pins s1 σ H1 D I1 q1
 |false=>exact hb pins s1 σ H1 D I1 q1
end
abbrev TG:=V->St->Hp->(St->Hp->Prop)->Prop
abbrev Hn:=List V->St->Hp->(St->Hp->Prop)->Prop
def PG(X:Cx)(target:Expr)(t:TG):Prop :=
 ∀(pins:List (Addr×Obj)) (s:Shared) (σ:St) (H:Hp) (v:V) (u:Value) (Q:St->Hp->Prop),Inv X pins σ H s->A3 v u->t v σ H Q ->
  wpAny (model X.prog X.w) X.A (assign target X.env u) (λ_ s'=>∃σ' H',Inv X pins σ' H' s'/\Q σ' H') X.xe s
def DO(X:Cx)(ts:List Expr)(t:Hn):Prop :=
 ∀(pins:List (Addr×Obj)) (s:Shared) (σ:St) (H:Hp) (vs:List V) (us:List Value) (Q:St->Hp->Prop),Inv X pins σ H s->AZ vs us->t vs σ H Q ->
  wpAny (model X.prog X.w) X.A (assignInOrder ((assignEach ts X.env).map (·.2)) us) (λ_ s'=>∃σ' H',Inv X pins σ' H' s'/\Q σ' H') X.xe s
abbrev Qd:=V->V->V->Hp->(Hp->Prop)->Prop
def Qk(X:Cx)(t:Qd):Prop :=
 ∀(pins:List (Addr×Obj)) (s:Shared) (σ:St) (H:Hp) (o i v:V) (ov iv u:Value) (Q:Hp->Prop),Inv X pins σ H s->A3 o ov->A3 i iv->A3 v u->t o i v H Q ->
  wpAny (model X.prog X.w) X.A (setItem ov iv u) (λ_ s'=>∃H',Inv X pins σ H' s'/\Q H') X.xe s
section
variable {X:Cx}{pos:Pos}
def JQ(i:Nat):TG:=λv σ H Q=>Q (σ.set i (some v)) H
theorem zjo{i:Nat}{x:Str}(hN:X.N.Nodup)(hi:X.N[i]?=some x)(hx:GC X.env.scope x)(hf:X.fn x=true\/X.env.scope.names.lookup x=some .local:=by rfl):PG X (.Name x pos) (JQ i):=by
 intro pins s σ H v u Q I r h;exact wpAny_assign_Name (Mt I hN hi hx r (λs' I'=>⟨_,H,I',h⟩) hf)
def gNil:Hn:=λvs σ H Q=>vs=[]/\Q σ H
def gCons(t:TG)(u:Hn):Hn:=λvs σ H Q=>∃v r,vs=v::r/\t v σ H λσ' H'=>u r σ' H' Q
theorem zjn:DO X [] gNil:=by
 intro pins s σ H vs us Q I r h;obtain⟨e,h⟩:=h;exact assignInOrder_nil ⟨σ,H,I,h⟩
theorem zh0(h1:PG X e t)(h2:DO X es u)
  (hs:(assignEach (e::es) X.env).map (·.2)=assign e X.env::(assignEach es X.env).map (·.2):=by rfl):DO X (e::es) (gCons t u):=by
 intro pins s σ H vs us Q I r h;obtain⟨v,vr,e1,h⟩:=h;subst e1;cases r with
 |cons r rr =>
  rw[hs];refine assignInOrder_cons (AU (h1 pins s σ H _ _ _ I r h) λ_ s1 ⟨σ1,H1,I1,q1⟩=>?_)
  exact h2 pins s1 σ1 H1 _ _ Q I1 rr q1
def PK(K:k6)(n:Nat)(t:Hn):TG:=λv σ H Q=>∃a xs,v=.ref a/\Bm K H a xs/\xs.length=n/\t xs σ H Q
theorem zmv{k}(hc:X.calm=true)(h:DO X es t)
  (hn:(assignEach es X.env).length=n:=by rfl) (hst:(assignEach es X.env).findIdx? (·.1)=none:=by rfl):PG X (.Tuple es k pos) (PK X.K n t):=by
 intro pins s σ H v u Q I r hw;obtain⟨a,xs,e1,hq,hl,hw⟩:=hw;subst e1;cases r;obtain⟨its,rv,ht,hz⟩:=I.tuple hq;refine assign_Tuple_tuple (I.ok.hd hc) ht (by simp[hn,<- hl,rv.length]) hst λh' hx=>?_
 have I1 :=I.kept (t':=s.toks) λb o e=>hx b o (yaf (ya5 e)) e
 exact h pins _ σ H xs _ Q I1 (by omega) hw
def gSub(to ti:TE)(t:Qd):TG:=λv σ H Q=>to σ H λo H1=>ti σ H1 λi H2=>t o i v H2 λH3=>Q σ H3
theorem K8(ho:PE X o to)(hi:PE X i ti)(hs:Qk X t)
  (ha : ∀ v, assign (.Subscript o i pos) X.env v = (do
   let ov <- holding [v] (eval o X.env);let iv <- holding [v,ov] (eval i X.env)
   standAt pos
   holding [v,ov,iv] (setItem ov iv v)
   release [v,ov,iv] []):=by rfl):PG X (.Subscript o i pos) (gSub to ti t):=by
 intro pins s σ H v u Q I r h;refine ydt (ydu (AU (ho pins s σ H _ I h) λov s1 ⟨x,H1,I1,r1,q1⟩=>?_))
 refine ydt (ydu (AU (hi pins s1 σ H1 _ I1 q1) λiv s2 ⟨y,H2,I2,r2,q2⟩=>?_))
 refine ydt (ydv (ydt (ydu (AU (hs pins s2 σ H2 x y v ov iv u _ I2 r1 r2 r q2) λ_ s3 ⟨H3,I3,q3⟩=>?_))))
 exact wpAny_release ⟨σ,H3,I3,q3⟩
def KO(te:TE)(g:TG):TS:=λD σ H=>te σ H λx H1=>g x σ H1 D.nx
theorem Ie{tg e:Expr}{te:TE}{g:TG}(he:PE X e te)(hg:PG X tg g)(hs:swapsWithSole [tg] e pos.line X.env=pure false:=by rfl)(hw:swappedStores [tg] e X.env=pure none:=by rfl)
  (h1:(assignEach [tg] X.env).map (·.2)=[assign tg X.env]:=by rfl):PS X (.Assign [tg] e pos) (KO te g):=by
 intro pins s σ H D I h;refine wpAny_Assign_stores (AU (he pins s σ H _ I h) λv s1 ⟨x,H1,I1,r1,q1⟩=>?_) hs hw
 rw[h1];exact AU (hg pins s1 σ H1 x v _ I1 r1 q1) λ_ s2 q=>q
theorem Uj      (hN:X.N.Nodup)(hi:X.N[i]?=some x)(hx:GC X.env.scope x)(he:PE X e te)(hs:swapsWith e (some (.Name x pos')) pos.line X.env=pure false:=by rfl)(hf:X.fn x=true\/X.env.scope.names.lookup x=some .local:=by rfl) :
  PS X (.Assign [.Name x pos'] e pos) (KO te (JQ i)):=by
 intro pins s σ H D I h;refine wpAny_Assign_Name (AU (he pins s σ H _ I h) λv s1 ⟨y,H1,I1,r1,q1⟩=>?_) hs
 exact Mt I1 hN hi hx r1 (λs2 I2=>⟨_,H1,I2,q1⟩) hf
end
section
variable {X:Cx}{pos:Pos}
def zll(c:TT)(tb:TS):TS:=λD σ H=>∃W:Nat->St->Hp->Prop,(∃m,W m σ H)/\∀m σ H,W m σ H ->
 c σ H λb H1=>if b=true then ∃N:St->Hp->Prop,(∀σ' H',N σ' H'->∃m',m'<m/\W m' σ' H')/\tb { D with nx:=N,ct:=N,bk:=D.nx } σ H1 else D.nx σ H1
theorem zgx(hp:PassesOwn (model X.prog X.w) X.A X.env X.xe)(hc:PT X c tc)(hb:BI X body tb):PS X (.While c body [] pos) (zll tc tb):=by
 intro pins s σ H D I h;obtain⟨W,⟨m0,w0⟩,turn⟩:=h;refine wpAny_While (codeAny_whileLoop (λn s'=>∃σ' H',Inv X pins σ' H' s'/\W n σ' H') ?_ m0 ⟨σ,H,I,w0⟩)
 rintro n s1 ⟨σ1,H1,I1,w1⟩;refine ydw hp (AU (hc pins s1 σ1 H1 _ I1 (turn n σ1 H1 w1)) λb s2 ⟨H2,I2,q2⟩=>?_)
 cases b with
 |true =>
  obtain⟨N,hN,q2⟩:=q2;rw[if_pos rfl];refine ydw hp (AU (hb pins s2 σ1 H2 _ I2 q2) λf s3 q3=>?_)
  cases f with
  |next =>
   obtain⟨σ3,H3,I3,n3⟩:=q3
   grind
  |cont =>
   obtain⟨σ3,H3,I3,n3⟩:=q3
   grind
  |brk=>exact q3
  |ret v=>exact q3
 |false =>
  rw[if_neg yb8];exact yds ⟨σ1,H2,I2,q2⟩
end
structure It where
 go:Nat->Hp->Prop
 yld:Nat->Hp->V->Hp->Prop
 stop:Nat->Hp->Prop
def CP(X:Cx)(pins:List (Addr×Obj))(H:Hp)(b:Addr):Prop :=
 H b=none/\b≠X.env.locals/\b∉X.fs/\(b∈X.ex\/X.s₀.heap.objs.size<=b)/\(∀x c,X.env.cells.lookup x=some c->c≠b)/\∀p∈X.pn++pins,p.1≠b
theorem Inv.fpOk{X:Cx}{σ:St}{b:Addr}(I:Inv X pins σ H s)(hb:s.heap.objs.size<=b)(hn:H' b=none):CP X pins H' b:=by
 refine⟨hn,Nat.ne_of_gt (yac I.lt hb),I.nofs hb,.inr (yak I.sz hb),λx c e z=>?_,λp hp z=>?_⟩
 .obtain⟨v,q⟩:=I.cell x c e;exact absurd (yac q.lt (by grind)) (yaw _)
 .exact absurd (yac (ya5 (I.pin p hp).1) (by grind)) (yaw _)
structure Turn(P:Program)(w:World)(K:k6)(tg:Expr)(J:It)(fp:List Addr)(it:Addr)(tn:Nat->Heap->Prop):Prop where
 mem:it∈fp
 obj:∀i h,tn i h->∀b∈fp,∃o,h.get? b=some o/\∀v,o.data≠.cell v
 keep:∀i h h',tn i h->(∀b∈fp,∀o,h.get? b=some o->h'.get? b=some o)->tn i h'
 item:∀(X:Cx),X.prog=P->X.w=w->X.K=K->X.calm=true->∀(i:Nat) (pins:List (Addr×Obj)) (s:Shared) (σ:St) (H:Hp) (E:Value->Shared->Prop),Inv X pins σ H s->(∀b∈fp,CP X pins H b)->tn i s.heap->J.go i H ->
  wpAny (model P w) X.A (pyNext (.ref it)) (λr s1=>∃u,r=some u /\
   wpAny (model P w) X.A (letOwnedTupleGo tg (.ref it) u) (λ_ s2=>∃x H',Inv X pins σ H' s2/\A3 x u/\J.yld i H x H'/\tn (i+1) s2.heap/\∀b∈fp,H' b=none) E s1) E s
 done:∀(X:Cx),X.prog=P->X.w=w->X.K=K->X.calm=true->∀(i:Nat) (pins:List (Addr×Obj)) (s:Shared) (σ:St) (H:Hp) (E:Value->Shared->Prop),Inv X pins σ H s->(∀b∈fp,CP X pins H b)->tn i s.heap->J.stop i H ->
  wpAny (model P w) X.A (pyNext (.ref it)) (λr s1=>r=none/\Inv X pins σ H s1) E s
 self:∀(A:Around) (i:Nat) (s:Shared) (Q:Value->Shared->Prop) (E:Value->Shared->Prop),tn i s.heap->Q (.ref it) s->wpAny (model P w) A (pyIter (.ref it)) Q E s
abbrev TI:=St->Hp->(It->Hp->Prop)->Prop
def Zg(X:Cx)(pins:List (Addr×Obj))(σ:St)(tg:Expr)(R:It->Hp->Prop)(itv:Value)(s2:Shared):Prop :=
 ∃(it:Addr) (fp:List Addr) (tn:Nat->Heap->Prop) (J:It) (H':Hp),itv=.ref it/\Inv X pins σ H' s2/\Turn X.prog X.w X.K tg J fp it tn/\tn 0 s2.heap/\(∀b∈fp,CP X pins H' b)/\R J H'
def PI(X:Cx)(tg iter:Expr)(wi:TI):Prop :=
 ∀(pins:List (Addr×Obj)) (s:Shared) (σ:St) (H:Hp) (R:It->Hp->Prop),Inv X pins σ H s->wi σ H R ->
  wpAny (model X.prog X.w) X.A (eval iter X.env) (λv s1=>wpAny (model X.prog X.w) X.A (pyIter v) (Zg X pins σ tg R) X.xe s1) X.xe s
theorem LQ            (ho:s.heap.get? it=some o)(hc:o.cls=.type n)(hd:o.data=.fields vs)
    (hn:["enumerate","zip","dict_itemiterator","dict_reverseitemiterator","odict_iterator","itertools.zip_longest","itertools.pairwise"].contains n=false) (hQ:Q () s):wpAny M A (letOwnedTupleGo tg (.ref it) u) Q E s:=by
  unfold letOwnedTupleGo
  cases tg<;>first
    |exact ydx hQ
    |(cases u<;>first
        |exact ydx hQ
        | (refine ydt (wpAny_load ho ?_)
           rw[hc,hd];show wpAny M A (if (["enumerate","zip","dict_itemiterator","dict_reverseitemiterator","odict_iterator","itertools.zip_longest","itertools.pairwise"].contains n && vs[0]? == some (rawInt _))=true then _ else _) Q E s
           rw[if_neg (by intro h;rw[hn,ycn]at h;cases h)]
           exact ydx hQ))
def Qq(K:k6)(a:Addr):It :=
 ⟨λi H=>∃xs x,A9 K H a xs/\xs[i]?=some x,λi H x H'=>H'=H/\∀xs,A9 K H a xs->xs[i]?=some x,λi H=>∃xs,A9 K H a xs/\xs.length<=i⟩
def Qp(K:k6)(a:Addr):It :=
 ⟨λi H=>∃xs x,Bm K H a xs/\xs[i]?=some x,λi H x H'=>H'=H/\∀xs,Bm K H a xs->xs[i]?=some x,λi H=>∃xs,Bm K H a xs/\xs.length<=i⟩
def Jp(lo:Int)(n:Nat):It:=⟨λi _=>i<n,λi H x H'=>H'=H/\x=.int (lo+i),λi _=>n<=i⟩
theorem zex{K}(a it):Turn P w K tg (Qq K a) [it] it (λi h=>h.IsListIter it a i) where
 mem:=by simp
 obj:=λi h st b hb=>by
  have e :=by simpa using hb
  subst e;obtain⟨o,e,c,d⟩:=st;exact⟨o,e,λv z=>by rw[d]at z;cases z⟩
 keep:=λi h h' st k=>st.at λo e=>k it (by simp) o e
 item:=by
  intro X hP hw hK hc i pins s σ H E I hf st hg;subst hP hw hK;obtain⟨xs,x,hq,hx⟩:=hg;obtain⟨its,rv,p,hz⟩:=I.list hq;obtain⟨u,hu,ru⟩:=rv.get hx;obtain⟨f0,f1,f2,f3,f4,f5⟩:=hf it (by simp)
  refine wpAny_pyNext_list_item st p.isList (by simpa using hu) λh' st' sb=>?_
  have I1 :=I.turned (t':=s.toks) (λb o hb e=>(sb.2 b hb).trans e) f0 f1 f3 f4 f5
  obtain⟨o,e,c,d⟩:=id st';exact⟨u,rfl,LQ e c d (by decide) ⟨x,H,I1,ru,⟨rfl,λys hy=>by rw[I.list_inj hy hq];exact hx⟩,st',λb hb=>(hf b hb).1⟩⟩
 done:=by
  intro X hP hw hK hc i pins s σ H E I hf st hg;subst hP hw hK;obtain⟨xs,hq,hx⟩:=hg;obtain⟨its,rv,p,hz⟩:=I.list hq;obtain⟨f0,f1,f2,f3,f4,f5⟩:=hf it (by simp)
  have hl:=rv.length;exact wpAny_pyNext_list_end (I.ok.hd hc) st p.isList (by simp;omega) λh' eb=>⟨rfl,I.turned (λb o hb e=>eb b o hb e) f0 f1 f3 f4 f5⟩
 self:=λ_ _ _ _ _ st h=>wpAny_pyIter_listiter st h
theorem ze4{K}(a it):Turn P w K tg (Qp K a) [it] it (λi h=>h.IsTupleIter it a i) where
 mem:=by simp
 obj:=λi h st b hb=>by
  have e :=by simpa using hb
  subst e;obtain⟨o,e,c,d⟩:=st;exact⟨o,e,λv z=>by rw[d]at z;cases z⟩
 keep:=λi h h' st k=>st.at λo e=>k it (by simp) o e
 item:=by
  intro X hP hw hK hc i pins s σ H E I hf st hg;subst hP hw hK;obtain⟨xs,x,hq,hx⟩:=hg;obtain⟨its,rv,p,hz⟩:=I.tuple hq;obtain⟨u,hu,ru⟩:=rv.get hx;obtain⟨f0,f1,f2,f3,f4,f5⟩:=hf it (by simp)
  refine wpAny_pyNext_tuple_item st (p) (by simpa using hu) λh' st' sb=>?_
  have I1 :=I.turned (t':=s.toks) (λb o hb e=>(sb.2 b hb).trans e) f0 f1 f3 f4 f5
  obtain⟨o,e,c,d⟩:=id st';exact⟨u,rfl,LQ e c d (by decide) ⟨x,H,I1,ru,⟨rfl,λys hy=>by rw[I.tuple_inj hy hq];exact hx⟩,st',λb hb=>(hf b hb).1⟩⟩
 done:=by
  intro X hP hw hK hc i pins s σ H E I hf st hg;subst hP hw hK;obtain⟨xs,hq,hx⟩:=hg;obtain⟨its,rv,p,hz⟩:=I.tuple hq;obtain⟨f0,f1,f2,f3,f4,f5⟩:=hf it (by simp)
  have hl:=rv.length;exact wpAny_pyNext_tuple_end (I.ok.hd hc) st (p) (by simp;omega) λh' eb=>⟨rfl,I.turned (λb o hb e=>eb b o hb e) f0 f1 f3 f4 f5⟩
 self:=λ_ _ _ _ _ st h=>wpAny_pyIter_tupleiter st h
theorem ze5{K}(it)(lo)(n):Turn P w K tg (Jp lo n) [it] it (λi h=>IsRangeIter h it (lo+i * 1) (n - i) 1) where
 mem:=by simp
 obj:=λi h st b hb=>by
  have e :=by simpa using hb
  subst e
  exact⟨_,st,λv z=>by
   have z' :=z;cases z'⟩
 keep:=λi h h' st k=>k it (by simp) _ st
 item:=by
  intro X hP hw hK hc i pins s σ H E I hf st hg;subst hP hw hK;obtain⟨f0,f1,f2,f3,f4,f5⟩:=hf it (by simp)
  have W:=Walks.range (prog:=X.prog) (w:=X.w) (I.ok.hd hc) it lo 1 n;refine W.item i s _ _ hg st λv h' tk hv st' kk=>?_
  obtain⟨t,rfl⟩:=hv;have I1:Inv X pins σ H { s with heap:=h',toks:=tk }:=I.turned (λb o hb e=>kk b o (by simpa using hb) e) f0 f1 f3 f4 f5
  refine⟨_,rfl,LQ st' rfl rfl (by decide) ⟨.int (lo+i),H,I1,⟨t,?_⟩,⟨rfl,rfl⟩,st',λb hb=>(hf b hb).1⟩⟩
  rw[Int.mul_one]
 done:=by
  intro X hP hw hK hc i pins s σ H E I hf st hg;subst hP hw hK;obtain⟨f0,f1,f2,f3,f4,f5⟩:=hf it (by simp)
  exact wpAny_pyNext_range_end (I.ok.hd hc) st (by have:n<=i:=hg;omega) λh' eb=>⟨rfl,I.turned (λb o hb e=>eb b o hb e) f0 f1 f3 f4 f5⟩
 self:=λ_ _ _ _ _ st h=>wpAny_pyIter_rangeiter st h
section
variable {X:Cx}{tg:Expr}
def iList(K:k6)(tl:TE):TI:=λσ H R=>tl σ H λx H1=>∃a,x=.ref a/\(∃xs,A9 K H1 a xs)/\R (Qq K a) H1
def iTup(K:k6)(tl:TE):TI:=λσ H R=>tl σ H λx H1=>∃a,x=.ref a/\(∃xs,Bm K H1 a xs)/\R (Qp K a) H1
theorem zjl(hl:PE X l tl):PI X tg l (iList X.K tl):=by
 intro pins s σ H R I h;refine AU (hl pins s σ H _ I h) λv s1 ⟨x,H1,I1,r1,q1⟩=>?_
 obtain⟨a,e,⟨xs,hq⟩,q⟩:=q1;subst e;cases r1;obtain⟨its,rv,p,hz⟩:=I1.list hq;refine ydy p.isList ?_;refine⟨s1.heap.objs.size,[s1.heap.objs.size],_,_,H1,rfl,I1.kept λb o e=>ya6 _ e,zex a _,⟨_,yaj _ rfl,rfl,rfl⟩,λb hb=>?_,q⟩
 have e:b=s1.heap.objs.size:=by grind
 subst e;exact I1.fpOk (ya9 _) (I1.hok.fresh (ya9 _))
theorem zmt(hl:PE X l tl):PI X tg l (iTup X.K tl):=by
 intro pins s σ H R I h;refine AU (hl pins s σ H _ I h) λv s1 ⟨x,H1,I1,r1,q1⟩=>?_
 obtain⟨a,e,⟨xs,hq⟩,q⟩:=q1;subst e;cases r1;obtain⟨its,rv,p,hz⟩:=I1.tuple hq;refine wpAny_pyIter_tuple (p) ?_;refine⟨s1.heap.objs.size,[s1.heap.objs.size],_,_,H1,rfl,I1.kept λb o e=>ya6 _ e,ze4 a _,⟨_,yaj _ rfl,rfl,rfl⟩,λb hb=>?_,q⟩
 have e:b=s1.heap.objs.size:=by grind
 subst e;exact I1.fpOk (ya9 _) (I1.hok.fresh (ya9 _))
theorem UN  {σ:St}{H:Hp}    {lo hi:Int}   (I:Inv X pins σ H s)(h1:-(2 ^ 62)<=lo)(h2:lo<2 ^ 62)(h3:-(2 ^ 62)<=hi)(h4:hi<2 ^ 62)
  (q:R (Jp lo (hi - lo).toNat) H):wpAny (model X.prog X.w) X.A (pyIter (.ref s.heap.objs.size)) (Zg X pins σ tg R) E { s with heap:=s.heap.push { cls:=.type "range",data:=.fields #[.int lo t,.int hi u,.int 1 v] },toks:=tk }:=by
 refine wpAny_pyIter_range (IsRange.new ..) (small_one h1 h2 h3 h4) ?_;have I1:Inv X pins σ H { s with heap:=s.heap.push { cls:=.type "range",data:=.fields #[.int lo t,.int hi u,.int 1 v] },toks:=tk }:=I.kept λb o e=>ya6 _ e
 refine⟨(s.heap.push { cls:=.type "range",data:=.fields #[.int lo t,.int hi u,.int 1 v] }).objs.size,[(s.heap.push { cls:=.type "range",data:=.fields #[.int lo t,.int hi u,.int 1 v] }).objs.size],_,_,H,rfl,
  I1.kept λb o e=>ya6 _ e,ze5 _ lo (hi - lo).toNat,?_,λb hb=>?_,q⟩
 .have e1:lo+(0:Nat) * 1=lo:=by simp
  have e2:(hi - lo).toNat - (0:Nat)=Builtin.Range.rangeSize lo hi 1:=by rw[rangeSize_one];grind
  rw[e1,e2];exact yaj _ rfl
 .have e:b=(s.heap.push { cls:=.type "range",data:=.fields #[.int lo t,.int hi u,.int 1 v] }).objs.size:=by grind
  subst e;exact I1.fpOk (ya9 _) (I1.hok.fresh (ya9 _))
def iRng1(ta:TA):TI:=λσ H R=>ta σ H λvs H1=>∃j:Int,vs=[.int j]/\-(2 ^ 62)<=j/\j<2 ^ 62/\R (Jp 0 j.toNat) H1
def iRng2(ta:TA):TI:=λσ H R=>ta σ H λvs H1=>∃i j:Int,vs=[.int i,.int j]/\(-(2 ^ 62)<=i/\i<2 ^ 62/\-(2 ^ 62)<=j/\j<2 ^ 62)/\R (Jp i (j - i).toNat) H1
theorem zf7(hg:Gl X "range")(hm:X.mg "range"=none)(ha:PA X [a] ta)(hs:starEach [a] X.env=[(false,eval a X.env)]:=by rfl):PI X tg (.Call (.Name "range" p) [a] [] pos) (iRng1 ta):=by
 intro pins s σ H R I h;refine Call_ (Fm I hg hm boot_range (yb4 (AU (ha pos pins s σ H _ I h) λus s1 ⟨vs,H1,I1,r1,q1⟩=>?_) hs rfl))
 obtain⟨j,e,q1,q2,q⟩:=q1;subst e;cases r1 with
 |cons r rr =>
  cases rr;obtain⟨t,rfl⟩:=r;exact call_range_1 (UN I1 (by omega) (by omega) q1 q2 (by simpa using q))
theorem zf6{p pos}(hg:Gl X "range")(hm:X.mg "range"=none)(ha:PA X [a,b] ta)(hs:starEach [a,b] X.env=[(false,eval a X.env),(false,eval b X.env)]:=by rfl)(hs2:starEach [b] X.env=[(false,eval b X.env)]:=by rfl) :
  PI X tg (.Call (.Name "range" p) [a,b] [] pos) (iRng2 ta):=by
 intro pins s σ H R I h;refine Call_ (Fm I hg hm boot_range (yb4 (AU (ha pos pins s σ H _ I h) λus s1 ⟨vs,H1,I1,r1,q1⟩=>?_) (by rw[hs,hs2]) (by rw[hs2];rfl)))
 obtain⟨i,j,e,⟨q1,q2,q3,q4⟩,q⟩:=q1;subst e;cases r1 with
 |cons r rr =>
  cases rr with
  |cons r' rr =>
   cases rr;obtain⟨t,rfl⟩:=r;obtain⟨t',rfl⟩:=r';exact call_range_2 (UN I1 q1 q2 q3 q4 q)
def tFor(wi:TI)(g:TG)(tb:TS):TS:=λD σ H=>wi σ H λJ H1=>∃W:Nat->Nat->St->Hp->Prop,(∃m,W 0 m σ H1)/\∀i m σ H,W i m σ H ->
 (J.stop i H/\D.nx σ H)\/(J.go i H/\∃N:St->Hp->Prop,(∀σ' H',N σ' H'->∃m',m'<m/\W (i+1) m' σ' H')/\∀x H',J.yld i H x H'->g x σ H' λσ2 H2=>tb { D with nx:=N,ct:=N,bk:=D.nx } σ2 H2)
def GU(fp:List Addr)(h:Heap):List (Addr×Obj):=fp.filterMap λb=>(h.get? b).map λo=>(b,o)
theorem G0(hb:b∈fp)(e:h.get? b=some o):(b,o)∈GU fp h:=yby.mpr ⟨b,hb,by rw[e];rfl⟩
theorem VH(hp:p∈GU fp h):p.1∈fp/\h.get? p.1=some p.2:=by
 obtain⟨b,hb,e⟩:=yby.mp hp;cases q:h.get? b with
 |none=>grind
 |some o =>
  grind
theorem Inv.pinned{σ:St}(I:Inv X pins σ H s)(hf:∀b∈fp,CP X pins H b)(ho:∀b∈fp,∃o,s.heap.get? b=some o/\∀v,o.data≠.cell v):Inv X (pins++GU fp s.heap) σ H s :=
 I.pins_of λp hp=>(yax.mp hp).elim (λz=>I.pin p (yae _ z)) λz=>by
  obtain⟨hb,e⟩:=VH z;obtain⟨f0,f1,f2,_⟩:=hf p.1 hb
  grind
theorem Inv.unpinned{σ:St}(I:Inv X (pins++pl) σ H s):Inv X pins σ H s:=I.pins_of λp hp=>I.pin p (yae _ (ybh _ hp))
theorem zmp(hp:PassesOwn (model X.prog X.w) X.A X.env X.xe)(hc:X.calm=true)(hi:PI X tg iter wi)(hg:PG X tg g)(hb:BI X body tb)
  (hs:∀x,foldedSetIterable iter X.env x=pure x:=by intro _;rfl):PS X (.For tg iter body [] pos) (tFor wi g tb):=by
 intro pins s σ H D I h;refine wpAny_For (AU (hi pins s σ H _ I h) λv s1 h1=>AU h1 λitv s2 h2=>?_) hs
 obtain⟨it,fp,tn,J,H2,e,I2,T,st2,f2,W,⟨m0,w0⟩,turn⟩:=h2;subst e;have stat:∀{H' },(∀b∈fp,H' b=none)->∀b∈fp,CP X pins H' b:=λhn b hb=>⟨hn b hb,(f2 b hb).2⟩
 refine codeAny_forLoop_any (λn s'=>∃i σ' H',Inv X pins σ' H' s'/\tn i s'.heap/\(∀b∈fp,H' b=none)/\W i n σ' H') ?_ m0 ⟨0,σ,H2,I2,st2,λb hb=>(f2 b hb).1,w0⟩
 rintro n s3 ⟨i,σ3,H3,I3,st3,fr3,w3⟩
 rcases turn i n σ3 H3 w3 with ⟨stop,qn⟩|⟨go,N,hN,step⟩
 .refine ydw hp (AU (T.done X rfl rfl rfl hc i pins s3 σ3 H3 X.xe I3 (stat fr3) st3 stop) λr s4 ⟨hr,I4⟩=>?_)
  subst hr;exact yds ⟨σ3,H3,I4,qn⟩
 .refine ydw hp (AU (T.item X rfl rfl rfl hc i pins s3 σ3 H3 X.xe I3 (stat fr3) st3 go) λr s4 ⟨u,hr,h4⟩=>?_)
  subst hr;refine ydw hp (AU h4 λ_ s5 ⟨x,H5,I5,r5,y5,st5,fr5⟩=>?_)
  have I5':=I5.pinned (stat fr5) (T.obj _ _ st5);refine ydw hp (AU (hg _ s5 σ3 H5 x u _ I5' r5 (step x H5 y5)) λ_ s6 ⟨σ6,H6,I6,q6⟩=>?_)
  refine ydw hp (AU (hb _ s6 σ6 H6 _ I6 q6) λf s7 q7=>?_)
  have again:∀{σ7 } {H7 },Inv X (pins++GU fp s5.heap) σ7 H7 s7->N σ7 H7->∃m,m<n/\∃i σ' H',Inv X pins σ' H' s7/\tn i s7.heap/\(∀b∈fp,H' b=none)/\W i m σ' H':=λ{σ7 H7} I7 n7=>by
   obtain⟨m',hm,w7⟩:=hN σ7 H7 n7;refine⟨m',hm,i+1,σ7,H7,I7.unpinned,T.keep _ _ _ st5 λb hb o e=>(I7.pin (b,o) (yae _ (yae _ (G0 hb e)))).1,λb hb=>?_,w7⟩
   obtain⟨o,e,d⟩:=T.obj _ _ st5 b hb;exact(I7.pin (b,o) (yae _ (yae _ (G0 hb e)))).2.1
  cases f with
  |next=>obtain⟨σ7,H7,I7,n7⟩:=q7;exact again I7 n7
  |cont=>obtain⟨σ7,H7,I7,n7⟩:=q7;exact again I7 n7
  |brk=>obtain⟨σ7,H7,I7,q7⟩:=q7;exact⟨σ7,H7,I7.unpinned,q7⟩
  |ret v=>obtain⟨x7,σ7,H7,I7,r7,q7⟩:=q7;exact⟨x7,σ7,H7,I7.unpinned,r7,q7⟩
end
abbrev R2:=V->V->Hp->VK->Prop
def Ab(X:Cx)(f:Value->Value->Sem Value)(r:R2):Prop :=
 ∀(pins:List (Addr×Obj)) (s:Shared) (σ:St) (H:Hp) (x y:V) (v u:Value) (Q:VK),Inv X pins σ H s->A3 x v->A3 y u->r x y H Q ->
  wpAny (model X.prog X.w) X.A (f v u) (EP X pins σ Q) X.xe s
def J2(X:Cx)(f:Value->Sem Value)(r:V->Hp->VK->Prop):Prop :=
 ∀(pins:List (Addr×Obj)) (s:Shared) (σ:St) (H:Hp) (x:V) (v:Value) (Q:VK),Inv X pins σ H s->A3 x v->r x H Q ->
  wpAny (model X.prog X.w) X.A (f v) (EP X pins σ Q) X.xe s
def Bb(X:Cx)(f:Value)(r:List V->Hp->VK->Prop):Prop :=
 ∀(pins:List (Addr×Obj)) (s:Shared) (σ:St) (H:Hp) (xs:List V) (us:List Value) (Q:VK),Inv X pins σ H s->AZ xs us->r xs H Q ->
  wpAny (model X.prog X.w) X.A (call f us) (EP X pins σ Q) X.xe s
def HF(r:R2)(ta tb:TE):TE:=λσ H Q=>ta σ H λx H1=>tb σ H1 λy H2=>r x y H2 Q
def R9(r:V->Hp->VK->Prop)(ta:TE):TE:=λσ H Q=>ta σ H λx H1=>r x H1 Q
def rI(C:Int->Int->Prop)(g:Int->Int->V):R2:=λx y H Q=>∃i j,x=.int i/\y=.int j/\C i j/\Q (g i j) H
def Dl(g:Int->Int->V):R2:=λx y H Q=>∃i j,x=.int i/\y=.int j/\Q (g i j) H
def rU(g:Int->V):V->Hp->VK->Prop:=λx H Q=>∃i,x=.int i/\Q (g i) H
section
variable {X:Cx}{a b c:Expr}{ta tb tc:TE}{pos:Pos}
theorem Q5(ha:PE X a ta)(hb:PE X b tb){σ:St}{R:V->V->Hp->Prop}(I:Inv X pins σ H s)
  (h:ta σ H λx H1=>tb σ H1 λy H2=>R x y H2)  {f:Value->Value->Sem Value}
  (hf:∀v u s2 x y H2,Inv X pins σ H2 s2->A3 x v->A3 y u->R x y H2->wpAny (model X.prog X.w) X.A (f v u) Q X.xe s2) :
  wpAny (model X.prog X.w) X.A (eval a X.env) (λv s₁=>wpAny (model X.prog X.w) X.A (eval b X.env) (λu s₂=>wpAny (model X.prog X.w) X.A (f v u) Q X.xe s₂) X.xe s₁) X.xe s:=by
 refine AU (ha pins s σ H _ I h) λv s1 ⟨x,H1,I1,r1,q1⟩=>?_
 refine AU (hb pins s1 σ H1 _ I1 q1) λu s2 ⟨y,H2,I2,r2,q2⟩=>?_
 grind
theorem pe_op(ho:Ab X (binaryOp op) r)(ha:PE X a ta)(hb:PE X b tb):PE X (.BinOp a op b pos) (HF r ta tb):=by
 intro pins s σ H Q I h;exact wpAny_BinOp (Q5 ha hb I h λv u s2 x y H2 I2 rx ry q=>ho pins s2 σ H2 x y v u Q I2 rx ry q)
theorem pe_un(ho:J2 X (unaryOp op) r)(ha:PE X a ta):PE X (.UnaryOp op a pos) (R9 r ta):=by
 intro pins s σ H Q I h;exact UnaryOp_ (AU (ha pins s σ H _ I h) λv s1 ⟨x,H1,I1,r1,q1⟩=>ho pins s1 σ H1 x v Q I1 r1 q1)
theorem Ij{g:Int->Int->Int}
  (rule:∀(i j ) (t u ) (s ) (Q ) (E ),C i j->Q (.int (g i j) s.toks) { s with toks:=s.toks+1 }->wpAny (model X.prog X.w) X.A (f (.int i t) (.int j u)) Q E s) :
  Ab X f (rI C λi j=>.int (g i j)):=by
 intro pins s σ H x y v u Q I rx ry h;obtain⟨i,j,rfl,rfl,hc,q⟩:=h;obtain⟨t,rfl⟩:=rx;obtain⟨t',rfl⟩:=ry;exact rule i j t t' s _ _ hc ⟨.int (g i j),H,I.tok _,⟨_,rfl⟩,q⟩
theorem Kg{g:Int->Int->Int}
  (rule:∀(i j ) (t u ) (s ) (Q ) (E ),Q (.int (g i j) s.toks) { s with toks:=s.toks+1 }->wpAny (model X.prog X.w) X.A (f (.int i t) (.int j u)) Q E s) :
  Ab X f (Dl λi j=>.int (g i j)):=by
 intro pins s σ H x y v u Q I rx ry h;obtain⟨i,j,rfl,rfl,q⟩:=h;obtain⟨t,rfl⟩:=rx;obtain⟨t',rfl⟩:=ry;exact rule i j t t' s _ _ ⟨.int (g i j),H,I.tok _,⟨_,rfl⟩,q⟩
theorem Kh{g:Int->Int->Bool}
  (rule:∀(i j ) (t u ) (s ) (Q ) (E ),Q (.bool (g i j)) s->wpAny (model X.prog X.w) X.A (f (.int i t) (.int j u)) Q E s) :
  Ab X f (Dl λi j=>.bl (g i j)):=by
 intro pins s σ H x y v u Q I rx ry h;obtain⟨i,j,rfl,rfl,q⟩:=h;obtain⟨t,rfl⟩:=rx;obtain⟨t',rfl⟩:=ry;exact rule i j t t' s _ _ ⟨.bl (g i j),H,I,rfl,q⟩
def CPow(i j:Int):Prop:=0<=j/\j<=1000000/\i.natAbs<2 ^ 64
def RA(i j:Int):Prop:=(-(2 ^ 64)<i/\i<2 ^ 64)\/(-(2 ^ 64)<j/\j<2 ^ 64)
theorem RA.ok(h:RA i j):IntMulOk i j:=by
 rcases h with ⟨h1,h2⟩|⟨h1,h2⟩
 .exact .of_left (intBits_le_64 h1 h2)
 .exact .of_right (intBits_le_64 h1 h2)
theorem znc:Ab X (binaryOp .Add) (Dl λi j=>.int (i+j)):=Kg λ_ _ _ _ _ _ _ q=>add_int q
theorem zn5:Ab X (binaryOp .Sub) (Dl λi j=>.int (i - j)):=Kg λ_ _ _ _ _ _ _ q=>sub_int q
theorem Uz:Ab X (binaryOp .Mult) (rI RA λi j=>.int (i * j)):=Ij λ_ _ _ _ _ _ _ hc q=>mul_int q hc.ok
theorem zjx:Ab X (binaryOp .Mod) (rI (λ_ j=>j≠0) λi j=>.int (i.fmod j)):=Ij λ_ _ _ _ _ _ _ hc q=>mod_int' hc q
theorem zn7:Ab X (binaryOp .Pow) (rI CPow λi j=>.int (i ^ j.toNat)):=Ij λ_ _ _ _ _ _ _ hc q=>pow_int_small hc.1 hc.2.1 hc.2.2 q
theorem znb:Ab X (binaryOp .BitAnd) (Dl λi j=>.int (Builtin.bitAnd i j)):=Kg λ_ _ _ _ _ _ _ q=>and_int q
theorem op_or:Ab X (binaryOp .BitOr) (Dl λi j=>.int (Builtin.bitOr i j)):=Kg λ_ _ _ _ _ _ _ q=>or_int q
theorem unI{g:Int->Int}
  (rule:∀(i ) (t ) (s ) (Q ) (E ),Q (.int (g i) s.toks) { s with toks:=s.toks+1 }->wpAny (model X.prog X.w) X.A (f (.int i t)) Q E s) :
  J2 X f (rU λi=>.int (g i)):=by
 intro pins s σ H x v Q I rx h;obtain⟨i,rfl,q⟩:=h;obtain⟨t,rfl⟩:=rx;exact rule i t s _ _ ⟨.int (g i),H,I.tok _,⟨_,rfl⟩,q⟩
theorem zlj:J2 X (unaryOp .USub) (rU λi=>.int (-i)):=unI λ_ _ _ _ _ q=>neg_int q
end
section
variable {X:Cx}{a b c:Expr}{ta tb tc:TE}{pos:Pos}
theorem JR{σ:St}(I:Inv X pins σ H s)(q:Q (.bl k) H)(e:k=k'):EP X pins σ Q (.bool k') s:=by
 subst e;exact⟨.bl k,H,I,rfl,q⟩
theorem op_lt:Ab X (compareOp .Lt) (Dl λi j=>.bl (decide (i<j))):=Kh λ_ _ _ _ _ _ _ q=>lt_int q
theorem VA:Ab X (compareOp .LtE) (Dl λi j=>.bl (decide (i<=j))):=Kh λ_ _ _ _ _ _ _ q=>le_int q
theorem op_gt:Ab X (compareOp .Gt) (Dl λi j=>.bl (decide (j<i))):=Kh λ_ _ _ _ _ _ _ q=>gt_int q
theorem op_ge:Ab X (compareOp .GtE) (Dl λi j=>.bl (decide (j<=i))):=Kh λ_ _ _ _ _ _ _ q=>ge_int q
theorem zf8:Ab X (compareOp .In) (λx y H Q=>∃i j,x=.str i/\y=.str j/\Q (.bl (!(Builtin.Str.occurrences j i 0 j.length 1).isEmpty)) H):=by
 intro pins s σ H x y v u Q I rx ry h;obtain⟨i,j,rfl,rfl,q⟩:=h;obtain⟨t,rfl⟩:=rx;obtain⟨t',rfl⟩:=ry;exact in_str (JR I q rfl)
theorem zn8:Ab X (compareOp .Is) (λx y H Q=>y=.non/\Q (.bl (decide (x=.non))) H):=by
 intro pins s σ H x y v u Q I rx ry h;obtain⟨rfl,q⟩:=h;cases ry;refine is_none_gen (JR I q ?_)
 cases x<;>first
  |rfl
  |(obtain⟨t,rfl⟩:=rx;rfl)
theorem zju:Ab X (compareOp .IsNot) (λx y H Q=>y=.non/\Q (.bl (!decide (x=.non))) H):=by
 intro pins s σ H x y v u Q I rx ry h;obtain⟨rfl,q⟩:=h;cases ry;refine isnot_none_gen (JR I q ?_)
 cases x<;>first
  |rfl
  |(obtain⟨t,rfl⟩:=rx;rfl)
theorem Ab.or   (h:Ab X f r)(h':Ab X f r'):Ab X f (λx y H Q=>r x y H Q\/r' x y H Q):=by
 intro pins s σ H x y v u Q I rx ry q
 rcases q with q|q
 .exact h pins s σ H x y v u Q I rx ry q
 .exact h' pins s σ H x y v u Q I rx ry q
theorem zjq   (ho:Ab X (compareOp op) r)(ha:PE X a ta)(hb:PE X b tb)(hm:behindInMarks op b=false):PE X (.Compare a [op] [b] pos) (HF r ta tb):=by
 intro pins s σ H Q I h;exact wpAny_Compare1 (Q5 ha hb I h λv u s2 x y H2 I2 rx ry q=>ho pins s2 σ H2 x y v u Q I2 rx ry q) hm
def Ra(t:TE):TT:=λσ H Q=>t σ H λx H'=>∃k,x=.bl k/\Q k H'
theorem zjc(ho:Ab X (compareOp op) r)(ha:PE X a ta)(hb:PE X b tb)(hm:behindInMarks op b=false):PT X (.Compare a [op] [b] pos) (Ra (HF r ta tb)):=by
 intro pins s σ H Q I h
 refine wpAny_isTrue_Compare1 (AU (ha pins s σ H _ I h) λv s1 ⟨x,H1,I1,r1,q1⟩=>AU (hb pins s1 σ H1 _ I1 q1) λu s2 ⟨y,H2,I2,r2,q2⟩ =>
  AU (ho pins s2 σ H2 x y v u _ I2 r1 r2 q2) λc s3 ⟨z,H3,I3,r3,k,e,q3⟩=>?_) hm
 subst e;cases r3;exact ydr ⟨H3,I3,q3⟩
def Mp(r r':R2)(ta tb tc:TE):TE:=λσ H Q=>ta σ H λx H1=>tb σ H1 λy H2=>r x y H2 λz H3=>∃k,z=.bl k /\
 (if k=true then tc σ H3 λw' H4=>r' y w' H4 Q else Q (.bl false) H3)
theorem zh2(ho:Ab X (compareOp op) r)(ho':Ab X (compareOp op') r')(ha:PE X a ta)(hb:PE X b tb)(hc:PE X c tc)
  (hm:lastMarks [op,op'] [b,c]=false:=by rfl):PE X (.Compare a [op,op'] [b,c] pos) (Mp r r' ta tb tc):=by
 intro pins s σ H Q I h
 refine Compare_chain (AU (ha pins s σ H _ I h) λv s1 ⟨x,H1,I1,r1,q1⟩=>chain_link (AU (hb pins s1 σ H1 _ I1 q1) λu s2 ⟨y,H2,I2,r2,q2⟩ =>
  AU (ho pins s2 σ H2 x y v u _ I2 r1 r2 q2) λd s3 ⟨z,H3,I3,r3,k,e,q3⟩=>?_)) hm
 subst e;cases r3;refine ydr ?_;cases k with
 |false=>exact ite_ff ⟨.bl false,H3,I3,rfl,q3⟩
 |true=>exact ite_tt (chain_last (AU (hc pins s3 σ H3 _ I3 q3) λw' s4 ⟨z',H4,I4,r4,q4⟩=>ho' pins s4 σ H4 y z' u w' Q I4 r2 r4 q4))
theorem zgv(ho:Ab X (compareOp op) r)(ho':Ab X (compareOp op') r')(ha:PE X a ta)(hb:PE X b tb)(hc:PE X c tc)
  (hm:lastMarks [op,op'] [b,c]=false:=by rfl):PT X (.Compare a [op,op'] [b,c] pos) (Ra (Mp r r' ta tb tc)):=by
 intro pins s σ H Q I h
 refine isTrue_chain (AU (ha pins s σ H _ I h) λv s1 ⟨x,H1,I1,r1,q1⟩=>test_link (AU (hb pins s1 σ H1 _ I1 q1) λu s2 ⟨y,H2,I2,r2,q2⟩ =>
  AU (ho pins s2 σ H2 x y v u _ I2 r1 r2 q2) λd s3 ⟨z,H3,I3,r3,k,e,q3⟩=>?_)) hm
 subst e;cases r3;refine ydr ?_;cases k with
 |false =>
  obtain⟨k',e',q'⟩:=q3;cases e';exact ite_ff ⟨H3,I3,q'⟩
 |true =>
  refine ite_tt (test_last (AU (hc pins s3 σ H3 _ I3 q3) λw' s4 ⟨z',H4,I4,r4,q4⟩=>AU (ho' pins s4 σ H4 y z' u w' _ I4 r2 r4 q4) λd' s5 ⟨z2,H5,I5,r5,k2,e2,q5⟩=>?_))
  subst e2;cases r5;exact ydr ⟨H5,I5,q5⟩
theorem JE:(sizeLine:Nat)<2 ^ 63:=by rw[ydz];decide
theorem ze8:Ab X (binaryOp .Add) (λx y H Q=>∃i j,x=.str i/\y=.str j/\i.length+j.length<=sizeLine/\Q (.str (i++j)) H):=by
 intro pins s σ H x y v u Q I rx ry h;obtain⟨i,j,rfl,rfl,hz,q⟩:=h;obtain⟨t,rfl⟩:=rx;obtain⟨t',rfl⟩:=ry;exact add_str (λt' tk=>⟨.str (i++j),H,I.tok _,⟨_,rfl⟩,q⟩) hz
theorem FN(r:AZ [x] us):∃u,us=[u]/\A3 x u:=by
 cases r with
 |cons r1 r2=>cases r2;grind
theorem GH(r:AZ [x,y] us):∃u w',us=[u,w']/\A3 x u/\A3 y w':=by
 cases r with
 |cons r1 r2 =>
  cases r2 with
  |cons r3 r4=>cases r4;grind
theorem zie:Bb X (.builtin "abs") (λxs H Q=>∃i,xs=[.int i]/\Q (.int (if i<0 then -i else i)) H):=by
 intro pins s σ H xs us Q I r h;obtain⟨i,rfl,q⟩:=h;obtain⟨u,rfl,t,rfl⟩:=FN r;exact call_abs_int λu tk=>⟨.int (if i<0 then -i else i),H,I.tok _,⟨_,rfl⟩,q⟩
theorem zg5(hc:X.calm=true):Bb X (.builtin "min") (λxs H Q=>∃i j,xs=[.int i,.int j]/\Q (.int (if j<i then j else i)) H):=by
 intro pins s σ H xs us Q I r h;obtain⟨i,j,rfl,q⟩:=h;obtain⟨u,w',rfl,⟨t,rfl⟩,⟨t',rfl⟩⟩:=GH r;refine min_two_ints (I.ok.hd hc) λh' tk k=>⟨_,H,I.kept k,?_,q⟩
 by_cases hj:j<i
 .rw[if_pos hj,if_pos hj];exact⟨_,rfl⟩
 .rw[if_neg hj,if_neg hj];exact⟨_,rfl⟩
def LenV(K:k6)(x:V)(H:Hp)(n:Nat):Prop :=
 match x with
 |.str y=>y.length<=sizeLine/\n=y.length
 |.byt y=>y.size<=sizeLine/\n=y.size
 |.ref p=>(∃xs,A9 K H p xs/\n=xs.length)\/∃xs,Bm K H p xs/\n=xs.length
 |_=>False
theorem ZT:Bb X (.builtin "len") (λxs H Q=>∃x n,xs=[x]/\LenV X.K x H n/\Q (.int n) H):=by
 intro pins s σ H xs us Q I r h;obtain⟨x,n,rfl,e,q⟩:=h;obtain⟨u,rfl,rx⟩:=FN r;have hl:=JE;have hs :=ydz;cases x with
 |str y =>
  obtain⟨t,rfl⟩:=rx;obtain⟨hy,e'⟩:y.length<=sizeLine/\n=y.length:=e;subst e';exact len_str (by omega) ⟨.int _,H,I.tok _,⟨_,rfl⟩,q⟩
 |byt y =>
  obtain⟨t,rfl⟩:=rx;obtain⟨hy,e'⟩:y.size<=sizeLine/\n=y.size:=e;subst e';exact PySem.W.len_bytes (by omega) ⟨.int _,H,I.tok _,⟨_,rfl⟩,q⟩
 |ref p =>
  cases rx;have e' :=e
  rcases e' with ⟨xs,hx,e'⟩|⟨xs,hx,e'⟩
  .subst e';obtain⟨its,r',pl,hz⟩:=I.list hx;have hlen:=r'.length;exact Calls.call_len_list pl.isList (by simp only[yb3];omega) ⟨.int xs.length,H,I.tok _,⟨_,by simp only[yb3];rw[hlen]⟩,q⟩
  .subst e';obtain⟨its,r',pl,hz⟩:=I.tuple hx;have hlen:=r'.length;exact len_tuple pl (by grind) ⟨.int xs.length,H,I.tok _,⟨_,by simp only[yb3];rw[hlen]⟩,q⟩
 |_=>exact(e).elim
end
structure ObjM(h:Heap)(x dx C:Addr)(mA:Str->Option Value):Prop where
 obj:h.get? x=some (PySem.W.instObj C dx)
 ns:h.Ns1 dx mA
 ne:dx≠x
theorem zff{h:Heap}(n:h.Ns1 dx mA):∃od,h.get? dx=some od/\∀name,PySem.W.lookIn name od=some (mA name):=by
 obtain⟨o,es,ep,ho,hd,hk,_,hm⟩:=n;refine⟨o,ho,λname=>?_⟩
 have e:=hm name;unfold nsFind findBy at e;rw[<- Array.find?_toList]at e;unfold PySem.W.lookIn;rw[hd];dsimp only;split
 .grind
 .have a:es.toList.any (·.refKey)=false:=by
   rw[List.any_eq_false];intro y hy;obtain⟨z,t,hkey⟩:=hk y (Array.mem_toList_iff.mp hy);simp[DictEntry.refKey,hkey]
  grind
theorem ObjM.look(I:ObjM h x dx C mA):∃od,PySem.W.InstAt h x (PySem.W.instObj C dx) C (some od)/\∀name,PySem.W.lookIn name od=some (mA name) :=
 let ⟨od,ho,hl⟩:=zff I.ns
 ⟨od,⟨I.obj,rfl,rfl,ho⟩,hl⟩
section
variable {prog:Program}{w:World}{A:Around}{E:Value->Shared->Prop}{s:Shared}{K:k6}{x dx C f:Addr}{mA:Str->Option Value}{name:Str}{v:Value}
theorem zku(X:K.In s.heap)(I:ObjM s.heap x dx C mA)(hg:PySem.W.plainGet K C name=true)(hh:PySem.W.hasDictIn K C=true)
  (ha:PySem.W.findIn K (.ref C) name=some none) (hv:mA name=some v) (hv':PySem.W.handedIn v=true) (h:Q v { s with toks:=s.toks+1 }) :
  wpAny (model prog w) A (getAttr (.ref x) name expr) Q E s:=by
 obtain⟨od,J,hl⟩:=I.look;exact PySem.W.get_value X J (yd7 hg).1 (PySem.W.findObj_own hh ha rfl (by rw[hl,hv])) hv' h
theorem zhx(X:K.In s.heap)(I:ObjM s.heap x dx C mA)(hg:PySem.W.plainGet K C name=true)
  (hf:PySem.W.findIn K (.ref C) name=some (some (.ref f))) (ht:PySem.W.isFn K (.ref f)=true) (hv:mA name=none) (h:Q (.ref f,[.ref x]) s) :
  wpAny (model prog w) A (getMethod (.ref x) name pl) Q E s:=by
 obtain⟨od,J,hl⟩:=I.look;exact PySem.W.method_fn X J (yd7 hg).1 (yd7 hg).2 hf (beq_iff_eq.mp ht) (by show(PySem.W.lookIn name od).map (·.isSome)=some false;grind) h
theorem zj2(X:K.In s.heap)(I:ObjM s.heap x dx C mA)
  (hs:PySem.W.findIn K (.ref C) "__setattr__"=some (some (.builtin "object.__setattr__"))) (hp:PySem.W.plainOver K C=true) (ht:PySem.W.takerIn K C name=some none) (hh:PySem.W.hasDictIn K C=true)
  (hw:PySem.Within mA ns) (hsz:ns.length<=sizeLine)
  (h:∀h',ObjM h' x dx C (λy=>if y=name then some v else mA y)->Heap.SameBut dx s.heap h'->Q () { s with heap:=h',toks:=s.toks+2 }) :
  wpAny (model prog w) A (setAttr (.ref x) name v) Q E s:=by
 obtain⟨od,J,hl⟩:=I.look;refine PySem.W.set_plain X J hs (PySem.W.osa_open X J hp ht λb=>?_)
 obtain⟨cd,hc,hd'⟩:=PySem.W.any_some hh;have hx :=I.obj;refine ydt (ydx (ydt (ydt (wpAny_loadPart hx (ydt (PySem.W.Looks.here (PySem.W.looks_clsIn X hc) ?_))))));rw[hd'];refine ydx (ydt (ydx (ydt ?_)));refine wpAny_nsSet1 I.ns λh' hn2 hs2=>?_
 obtain⟨oD,esD,epD,hoD,hdD,hcD⟩:=hn2.count (PySem.Within.cons name v hw);refine ydt (wpAny_lookBehind hoD (by rw[hdD];exact pastItsLine_dict (yak hcD (by grind))) ?_)
 exact ydx (h _ ⟨(hs2.2 _ (yao I.ne)).trans I.obj,hn2,I.ne⟩ hs2)
theorem zhd    (X:K.In s.heap)(hm:PySem.W.makesIn K C=true)
  (hi:PySem.W.findIn K (.ref C) "__init__"=some (some (.ref f))) (hf:PySem.W.typeIn K (.ref f)=some (.type "function"))
  (h : codeAny (model prog w) (A.under (.builtin "type.__call__" ⟨.ref C :: vs, kw⟩)) (.call (.ref f) ⟨.ref (s.heap.objs.size + 1) :: vs, kw⟩) (PySem.W.InitBack (s.heap.objs.size + 1) R)
   { s with heap:=(s.heap.push PySem.W.emptyDict).push (PySem.W.instObj C s.heap.objs.size) }) :
  codeAny (model prog w) A (.call (.ref C) ⟨vs,kw⟩) R s:=by
 exact PySem.W.make_core (PySem.W.makes_of X hm) (PySem.W.looks_findIn X hi) (λself=>PySem.W.bind_fn X self hf) (.inl rfl) h
end
def Cd(f:Str)(v:V):List (Str×V)->List (Str×V)
 |[]=>[(f,v)]
 |(g,x)::r=>if g=f then (g,v)::r else (g,x)::Cd f v r
theorem Ww(f g)(v):∀fs ,(Cd f v fs).lookup g=if g=f then some v else fs.lookup g
 |[]=>by
  show List.lookup g [(f,v)]=_
  grind
 |(k,x)::r=>by
  have ih:=Ww f g v r;rw[show Cd f v ((k,x)::r)=(if k=f then (k,v)::r else (k,x)::Cd f v r) from rfl]
  grind
theorem Oo(f)(v):∀fs ,f∈(Cd f v fs).map (·.1)/\∀g,g∈fs.map (·.1)->g∈(Cd f v fs).map (·.1)
 |[]=>⟨by simp[Cd],λg h=>by simp at h⟩
 |(k,x)::r=>by
  obtain⟨i1,i2⟩:=Oo f v r;rw[show Cd f v ((k,x)::r)=(if k=f then (k,v)::r else (k,x)::Cd f v r) from rfl]
  grind
theorem XC(f)(v):∀fs ,(Cd f v fs).length<=fs.length+1
 |[]=>by simp[Cd]
 |(k,x)::r=>by
  have ih:=XC f v r;rw[show Cd f v ((k,x)::r)=(if k=f then (k,v)::r else (k,x)::Cd f v r) from rfl]
  grind
theorem Cm.some_of(r:Cm (some v) o):∃u,o=some u/\A3 v u:=by
 cases o with
 |none=>exact(r).elim
 |some u=>exact⟨u,rfl,r⟩
theorem Cm.none_of(r:Cm none o):o=none:=by
 cases o with
 |none=>rfl
 |some u=>exact(r).elim
theorem zfm(r:A3 v u):PySem.W.handedIn u=true:=by
 cases v with
 |non=>cases (r);rfl
 |bl b=>cases (r);rfl
 |int i=>obtain⟨t,e⟩:=(r);cases e;rfl
 |str x=>obtain⟨t,e⟩:=(r);cases e;rfl
 |byt b=>obtain⟨t,e⟩:=(r);cases e;rfl
 |flt b=>obtain⟨t,e⟩:=(r);cases e;rfl
 |ref a=>cases (r);rfl
 |ty n=>cases (r);rfl
section
variable {P:Program}{w:World}{H H':Hp}{h h':Heap}{a C dx:Addr}{fs fs':List (Str×V)}
theorem ins_get(hok:HOk P w H h)(e:H a=some (.ins C dx fs)):∃mA,ObjM h a dx C mA/\(∀f,Cm (fs.lookup f) (mA f))/\PySem.Within mA (fs.map (·.1))/\fs.length<=1000/\H dx=some (.own a):=by
 obtain⟨d,z,ne,ob,mA,n,r,q⟩:=(hok a _ e);exact⟨mA,⟨ob,n,ne⟩,r,q,z,d⟩
end
structure Cls(K:k6)(C:Addr):Prop where
 pg:PySem.W.plainGet K C Str.empty=true
 hd:PySem.W.hasDictIn K C=true
 po:PySem.W.plainOver K C=true
 sa:PySem.W.findIn K (.ref C) "__setattr__"=some (some (.builtin "object.__setattr__"))
theorem Cls.get{K}(c:Cls K C)(f):PySem.W.plainGet K C f=true:=c.pg
def Ba(K:k6)(C:Addr)(f:Str):Prop:=PySem.W.findIn K (.ref C) f=some none
theorem Ba.taker{K}(n:Ba K C f):PySem.W.takerIn K C f=some none:=by
 unfold PySem.W.takerIn;rw[n]
 rfl
structure Meth(K:k6)(C:Addr)(m:Str)(f:Addr):Prop where
 at_:PySem.W.findIn K (.ref C) m=some (some (.ref f))
 fn:PySem.W.isFn K (.ref f)=true
 kp:PySem.W.keepIn K (.ref f)=true
section
variable {X:Cx}{pins:List (Addr×Obj)}{σ:St}{H:Hp}{s:Shared}{a C dx:Addr}{fs:List (Str×V)}{f:Str}{v:V}{A:Around}{E:Value->Shared->Prop}
theorem zek(I:Inv X pins σ H s)(e:H a=some (.ins C dx fs))(c:Cls X.K C)(n:Ba X.K C f)(l:fs.lookup f=some v)
  (h:∀u s',Inv X pins σ H s'->A3 v u->Q u s'):wpAny (model X.prog X.w) A (getAttr (.ref a) f b) Q E s:=by
 obtain⟨mA,O,r,_,_,_⟩:=ins_get I.hok e;obtain⟨u,hu,ru⟩:=Cm.some_of (v:=v) (o:=mA f) (by grind)
 exact zku I.kIn O (c.get f) c.hd n hu (zfm ru) (h u _ (I.tok _) ru)
theorem Xg(I:Inv X pins σ H s)(e:H a=some (.ins C dx fs))(c:Cls X.K C)(k:Meth X.K C m g)(l:fs.lookup m=none)
  (h:Q (.ref g,[.ref a]) s):wpAny (model X.prog X.w) A (getMethod (.ref a) m pl) Q E s:=by
 obtain⟨mA,O,r,_,_,_⟩:=ins_get I.hok e;have hn:mA m=none:=Cm.none_of (by grind)
 exact zhx I.kIn O (c.get m) k.at_ k.fn hn h
theorem ze6(I:Inv X pins σ H s)(e:H a=some (.ins C dx fs))(c:Cls X.K C)(n:Ba X.K C f)(hl:fs.length<1000)(ry:A3 y u)
  (h:∀s',Inv X pins σ (upd H a (.ins C dx (Cd f y fs))) s'->Q () s'):wpAny (model X.prog X.w) A (setAttr (.ref a) f u) Q E s:=by
 obtain⟨mA,O,r,wi,_,ho⟩:=ins_get I.hok e;have hz:(fs.map (·.1)).length<=sizeLine:=by rw[ya1,ydz];omega
 refine zj2 I.kIn O c.sa c.po n.taker c.hd wi hz λh' O' sb=>h _ ?_
 have hd:∃o,h'.get? dx=some o:=let ⟨o,_,_,e',_⟩:=O'.ns;⟨o,e'⟩;refine I.write (by rw[e];exact True.intro) (.inr ho) (λb q hb z=>(sb.2 b hb).trans z) hd ?_
 refine⟨by rw[Ak O.ne];exact ho,?_,O.ne,O'.obj,_,O'.ns,λg=>?_,λg hg=>?_⟩
 .have:=XC f y fs;omega
 .rw[Ww]
  by_cases q:g=f
  .rw[if_pos q,if_pos q];exact ry
  .rw[if_neg q,if_neg q];exact r g
 .by_cases q:g=f
  .rw[q];exact(Oo f y fs).1
  .refine(Oo f y fs).2 g (wi g λz=>hg ?_)
   grind
theorem Inv.made(I:Inv X pins σ H s):Inv X pins σ (upd (upd H s.heap.objs.size (.own (s.heap.objs.size+1))) (s.heap.objs.size+1) (.ins C s.heap.objs.size []))
  { s with heap:=(s.heap.push PySem.W.emptyDict).push (PySem.W.instObj C s.heap.objs.size) }:=by
 have e1:(s.heap.push PySem.W.emptyDict).get? s.heap.objs.size=some PySem.W.emptyDict:=yaj s.heap rfl
 have e2:((s.heap.push PySem.W.emptyDict).push (PySem.W.instObj C s.heap.objs.size)).get? (s.heap.objs.size+1)=some (PySem.W.instObj C s.heap.objs.size):=by
  have:=yaj (s.heap.push PySem.W.emptyDict) (o:=PySem.W.instObj C s.heap.objs.size) rfl
  simp_all
 have e3:(s.heap.push PySem.W.emptyDict).Ns s.heap.objs.size (λ_=>none):=⟨PySem.W.emptyDict,#[],_,e1,rfl,(λe he=>absurd he (by simp)),λ_=>rfl⟩
 have I1:=I.laid (o:=.own (s.heap.objs.size+1)) (t':=s.toks) (λb u q=>ya6 _ q) (ya9 _) ⟨_,e1⟩
 refine I1.laid (λb u q=>ya6 _ q) (Nat.le_of_eq (ybp _ _)) ?_
 have ne:s.heap.objs.size≠s.heap.objs.size+1:=yaf (ybr _);refine⟨by rw[Ak ne,Bd],ybg _,ne,e2,λ_=>none,(Heap.Ns1.of_empty e3).at λo q=>ya6 _ q,λ_=>True.intro,λy hy=>absurd rfl hy⟩
theorem zla         (hb:attributeBase e f env (eval e env)=eval e env)
  (h:wpAny (model prog w) A (eval e env) (λo s₁=>wpAny (model prog w) A (getAttr o f true) Q E s₁) E s):wpAny (model prog w) A (eval (.Attribute e f pos) env) Q E s :=
 Attribute_any_ h (by rw[arm_eval_Attribute,hb])
end
def tFld(K:k6)(ta:TE)(f:Str):TE:=λσ H Q=>ta σ H λx H1=>∃a C dx fs v,x=.ref a/\H1 a=some (.ins C dx fs)/\Cls K C/\Ba K C f/\fs.lookup f=some v/\Q v H1
def sFld(K:k6)(ta tv:TE)(f:Str):TS:=λD σ H=>tv σ H λy H1=>ta σ H1 λx H2=>∃a C dx fs,x=.ref a/\H2 a=some (.ins C dx fs)/\Cls K C/\Ba K C f/\fs.length<1000 /\
 D.nx σ (upd H2 a (.ins C dx (Cd f y fs)))
section
variable {X:Cx}{o e value:Expr}{f:Str}{pos pos' tpos:Pos}{ta tv:TE}
theorem Ur(he:PE X e ta)(hb:attributeBase e f X.env (eval e X.env)=eval e X.env):PE X (.Attribute e f pos) (tFld X.K ta f):=by
 intro pins s σ H Q I h;refine zla hb (AU (he pins s σ H _ I h) λu s1 ⟨x,H1,I1,rx,a,C,dx,fs,v,ex,ea,c,n,l,q⟩=>?_)
 subst ex;obtain rfl:u=Value.ref a:=rx;exact zek I1 ea c n l λu' s2 I2 ru=>⟨v,H1,I2,ru,q⟩
theorem zmq(ha:PE X o ta)(hv:PE X value tv)(hs:swapsWith value (some (.Attribute o f pos')) pos.line X.env=pure false):PS X (.Assign [.Attribute o f pos'] value pos) (sFld X.K ta tv f):=by
 intro pins s σ H D I h;refine plainObj_wpAny_Assign_Attribute (AU (hv pins s σ H _ I h) λu s1 ⟨y,H1,I1,ry,q⟩=>AU (ha pins s1 σ H1 _ I1 q) λov s2 ⟨x,H2,I2,rx,a,C,dx,fs,ex,ea,c,n,l,q2⟩=>?_) hs
 subst ex;obtain rfl:ov=Value.ref a:=rx;exact ze6 I2 ea c n l ry λs3 I3=>⟨σ,_,I3,q2⟩
end
section
variable {X:Cx}{pins:List (Addr×Obj)}{σ:St}{H:Hp}{s:Shared}{A:Around}{E:Value->Shared->Prop}{Q:Value->Shared->Prop}{c:Value}{b:Bool}
inductive TyOf(K:k6)(H:Hp):V->Value->Prop where
 |non:TyOf K H .non (.type "NoneType")
 |bl (x:Bool):TyOf K H (.bl x) (.type "bool")
 |int (i:Int):TyOf K H (.int i) (.type "int")
 |str (x:Str):TyOf K H (.str x) (.type "str")
 |flt (x:UInt64):TyOf K H (.flt x) (.type "float")
 |lst {a:Addr} {xs:List V} (e:H a=some (.lst xs)):TyOf K H (.ref a) (.type "list")
 |frz {a:Addr} {o:Obj} {xs:List V} (e:H a=some (.frz o (.lst xs))):TyOf K H (.ref a) (.type "list")
 |tup {a:Addr} {xs:List V} (e:H a=some (.tup xs)):TyOf K H (.ref a) (.type "tuple")
 |dK {a:Addr} {kvs:List (Key×V)} (e:H a=some (.dK kvs)):TyOf K H (.ref a) (.type "dict")
 |dT {a:Addr} {kvs:List (List Key×V)} (e:H a=some (.dT kvs)):TyOf K H (.ref a) (.type "dict")
 |ins {a C dx:Addr} {fs:List (Str×V)} (e:H a=some (.ins C dx fs)) (cl:Cls K C) (ha:PySem.W.findIn K (.ref C) "__class__"=some (some (.builtin "object.__class__")))
   (hn:PySem.W.specialIn K (.builtin "object.__class__") "__get__"=some (some (.builtin "getset_descriptor.__get__"))) (htk:PySem.W.takesIn K (.builtin "object.__class__")=some true)
   (hm:PySem.W.mroIn K C (.type "object")=some true):TyOf K H (.ref a) (.ref C)
theorem Oy{x:V}  (I:Inv X pins σ H s)(rx:A3 x u)(ty:TyOf X.K H x t)(e:PySem.W.kitOne X.K t c=some b)(h:∀tk,Q (.bool b) { s with toks:=tk }) :
  wpAny (model X.prog X.w) A (call (.builtin "isinstance") [u,c]) Q E s:=by
 cases ty with
 |non=>cases (rx);exact yay PySem.W.kitx_none I.kIn True.intro e (λz=>nomatch z) h
 |bl y=>cases (rx);exact yay PySem.W.kitx_bool I.kIn True.intro e (λz=>nomatch z) h
 |int i=>obtain⟨t,q⟩:=(rx);cases q;exact yay PySem.W.kitx_int I.kIn True.intro e (λz=>nomatch z) h
 |str y=>obtain⟨t,q⟩:=(rx);cases q;exact yay PySem.W.kitx_str I.kIn True.intro e (λz=>nomatch z) h
 |flt y=>obtain⟨t,q⟩:=(rx);cases q;exact yay PySem.W.kitx_float I.kIn True.intro e (λz=>nomatch z) h
 |@lst a xs ea =>
  cases (rx);obtain⟨_,_,n,_,h1⟩:=(I.hok a _ ea);exact yay PySem.W.kitx_list I.kIn ⟨_,h1,rfl⟩ e (λz=>nomatch z) h
 |@frz a ob xs ea =>
  cases (rx);obtain⟨_,_,_,n,_,h1⟩:=(I.hok a _ ea);exact yay PySem.W.kitx_list I.kIn ⟨_,h1,rfl⟩ e (λz=>nomatch z) h
 |@tup a xs ea =>
  cases (rx);obtain⟨_,_,_,p⟩:=(I.hok a _ ea);obtain⟨o,h1,h2,_⟩:=p;exact yay PySem.W.kitx_tuple I.kIn ⟨o,h1,h2⟩ e (λz=>nomatch z) h
 |@dK a kvs ea =>
  cases (rx);obtain⟨_,_,vs,_,p⟩:=(I.hok a _ ea);obtain⟨o,es,ep,h1,h2,_⟩:=p;exact yay ydh I.kIn ⟨o,h1,h2.1⟩ e (λz=>nomatch z) h
 |@dT a kvs ea =>
  cases (rx);obtain⟨_,_,xs,_,o,es,ep,h1,h2,_⟩:=(I.hok a _ ea);exact yay ydh I.kIn ⟨o,h1,h2.1⟩ e (λz=>nomatch z) h
 |@ins a C dx fs ea cl ha hn htk hm =>
  cases (rx);obtain⟨mA,O,_⟩:=ins_get I.hok ea;obtain⟨od,J,_⟩:=O.look;exact yay (PySem.W.kitx_own (cl.get _) cl.hd ha hn htk hm) I.kIn J e (λz=>nomatch z) h
end
structure Room(k:Nat)(A:Around):Prop where
 hd:A.handled=none
 dp:A.depth+3 * k+5<recursionLimit
 un:A.units+16 * k+200<cLine
theorem Room.mono(r:Room k A)(h:j<=k):Room j A:=⟨r.hd,by have:=r.dp;omega,by have:=r.un;omega⟩
theorem Room.deeper(r:Room (k+1) A)(env):Room k (A.deeper env) :=
 ⟨r.hd,by have:=r.dp;show A.depth+1+3 * k+5<_;omega,by have:=r.un;show A.units+3+16 * k+200<_;omega⟩
theorem Room.in1(r:Room (k+1) A):Room k A.in1 :=
 ⟨r.hd,by have:=r.dp;grind,by have:=r.un;grind⟩
theorem zeb{A:Around}:(A.under (.builtin "type.__call__" ⟨.ref C::us,kw⟩)).depth=A.depth+1:=by
 rfl
theorem zea{A:Around}:(A.under (.builtin "type.__call__" ⟨.ref C::us,kw⟩)).units=A.units+1:=by
 rfl
theorem Room.make(r:Room (k+1) A)(C)(us)(kw):Room k (A.under (.builtin "type.__call__" ⟨.ref C::us,kw⟩)) :=
 ⟨r.hd,by have:=r.dp;rw[zeb];omega,by have:=r.un;rw[zea];omega⟩
theorem Room.depth(r:Room k A):A.depth<recursionLimit:=by have:=r.dp;omega
theorem Room.units(r:Room k A):A.units+64<cLine:=by have:=r.un;omega
def Ri:TA:=λ_ H Q=>Q [] H
def tCons(ta:TE)(tr:TA):TA:=λσ H Q=>ta σ H λx H1=>tr σ H1 λxs H2=>Q (x::xs) H2
section
variable {X:Cx}{e:Expr}{es:List Expr}{te:TE}{t:TA}{pos:Pos}
theorem EJ:PA X [] Ri:=λ_ _ _ _ H Q I h=>Calls.spliced_nil ⟨[],H,I,.nil,h⟩
theorem DH(ha:PE X e te)(hr:PA X es t)(hs:starEach (e::es) X.env=(false,eval e X.env)::starEach es X.env:=by rfl):PA X (e::es) (tCons te t):=by
 intro pos pins s σ H Q I h;rw[hs];refine Calls.spliced_cons (AU (ha pins s σ H _ I h) λu s1 ⟨x,H1,I1,r1,q1⟩=>?_)
 exact AU (hr pos pins s1 σ H1 _ I1 q1) λus s2 ⟨xs,H2,I2,r2,q2⟩=>⟨x::xs,H2,I2,.cons r1 r2,q2⟩
def tTup(t:TA):TE:=λσ H Q=>t σ H λxs H1=>xs.length<=sizeLine/\∀p,H1 p=none->Q (.ref p) (upd H1 p (.tup xs))
def tLst(t:TA):TE:=λσ H Q=>t σ H λxs H1=>xs.length<=sizeLine/\∀p,H1 p=none->Q (.ref p) (upd H1 p (.lst xs))
theorem zmx(h:PA X es t):PE X (.Tuple es x1 pos) (tTup t):=by
 intro pins s σ H Q I hq;refine wpAny_Tuple_spliced (AU (h pos pins s σ H _ I hq) λus s1 ⟨xs,H1,I1,r,z,q⟩=>⟨by rw[<- r.length];exact z,?_⟩)
 have hf :=I1.hok.fresh (ya9 _);refine⟨.ref s1.heap.objs.size,upd H1 s1.heap.objs.size (.tup xs),I1.laid (λb u e=>ya6 _ e) (ya9 _) ?_,rfl,q _ hf⟩
 exact⟨z,us,r,⟨_,yaj _ rfl,rfl,_,rfl⟩⟩
theorem zn1(h:PA X es t):PE X (.List es pos) (tLst t):=by
 intro pins s σ H Q I hq;refine wpAny_List_spliced (AU (h pos pins s σ H _ I hq) λus s1 ⟨xs,H1,I1,r,z,q⟩=>⟨by rw[<- r.length];exact z,?_⟩)
 have hf :=I1.hok.fresh (ya9 _);refine⟨.ref s1.heap.objs.size,upd H1 s1.heap.objs.size (.lst xs),I1.laid (λb u e=>ya6 _ e) (ya9 _) ?_,rfl,q _ hf⟩
 exact⟨z,us,0,r,yaj _ rfl⟩
end
abbrev Sp:=List V->Hp->VK->XK->Prop
abbrev EY:=List Env->Hp->Shared->XK->Value->Shared->Prop
structure Env0(P:Program)(w:World)(K:k6)(mg:Str->Option Value)(base:Heap)(A:Around)(outer:List Env)(s:Shared)(H:Hp):Prop where
 frames:A.frames=some outer
 mod:Mod K mg base
 bs:∀b o,base.get? b=some o->s.heap.get? b=some o/\H b=none
 bsz:base.objs.size<=s.heap.objs.size
 funs:s.heap.FunFrames base outer
 frf:∀b∈BM outer,H b=none
 hok:HOk P w H s.heap
 bare:AllBare s.gens
def CE(outer:List Env)(P:Program)(w:World)(H:Hp)(s:Shared)(Q:VK)(u:Value)(s':Shared):Prop :=
 ∃v H',s'.os=s.os/\AllBare s'.gens/\Un (BM outer) [] H H' s.heap s'.heap/\HOk P w H' s'.heap/\A3 v u/\Q v H'
def CR(CX:EY)(outer:List Env)(P:Program)(w:World)(H:Hp)(s:Shared)(Q:VK)(E:XK)(r:Result)(s':Shared):Prop :=
 match r with
 |.ok (.ret u)=>CE outer P w H s Q u s'
 |.ok _=>False
 |.error e=>CX outer H s E e s'
structure FnOk(P:Program)(w:World)(K:k6)(mg:Str->Option Value)(base:Heap)(CX:EY)(k:Nat)(f:Addr)(fd:FuncData)(ps:List Str)(sp:Sp):Prop where
 len:∀vs H Q E,sp vs H Q E->vs.length=ps.length
 run:∀(A:Around) (outer:List Env) (s:Shared) (H:Hp) (args:Args) (us:List Value) (vs:List V) (Q:VK) (E:XK),Room k A->Env0 P w K mg base A outer s H->BindsTo s fd args (ps.zip us)->AZ vs us->sp vs H Q E ->
  codeAny (model P w) A (.call (.ref f) args) (CR CX outer P w H s Q E) s
theorem FnOk.mono{K}(F:FnOk P w K mg base CX j f fd ps sp)(h:j<=k) :
  FnOk P w K mg base CX k f fd ps sp:=⟨F.len,λA outer s H args us vs Q E hr=>F.run A outer s H args us vs Q E (hr.mono h)⟩
theorem Env0.make{w:World}{K}{s:Shared}{H:Hp}(e:Env0 P w K mg base A outer s H)(C:Addr)(us)(kw) :
  Env0 P w K mg base (A.under (.builtin "type.__call__" ⟨.ref C::us,kw⟩)) outer s H:=⟨by first|exact e.frames|rfl,e.mod,e.bs,e.bsz,e.funs,e.frf,e.hok,e.bare⟩
theorem Env0.in1{w:World}{K}{H:Hp}(e:Env0 P w K mg base A outer s H) :
  Env0 P w K mg base A.in1 outer s H:=⟨e.frames,e.mod,e.bs,e.bsz,e.funs,e.frf,e.hok,e.bare⟩
section
variable {X:Cx}{pins:List (Addr×Obj)}{σ:St}{H:Hp}{s s':Shared}
theorem Inv.env0(I:Inv X pins σ H s):Env0 X.prog X.w X.K X.mg X.base X.A X.stack s H :=
 ⟨I.ok.frames,I.ok.mod,I.bs,yak I.ok.bsz I.sz,I.stack,I.stkFree,I.hok,I.bare⟩
theorem Inv.after   (I:Inv X pins σ H s)(h:CE X.stack X.prog X.w H s Q u s'):EP X pins σ Q u s':=by
 obtain⟨v,H',os,bare,un,hok,r,q⟩:=h;obtain⟨hh,g,d,t,os'⟩:=s';obtain rfl:os'=s.os:=os;exact⟨v,H',I.call un hok bare (λb z=>absurd z (by simp)),r,q⟩
end
def Rx(sp:Sp)(dvs:List V)(E:XK)(t:TA):TE:=λσ H Q=>t σ H λvs H1=>sp (vs++dvs) H1 Q E
def Bx(K:k6)(fd:FuncData)(ps:List Str)(ds:List Value):Prop :=
 ∀(s:Shared) (us:List Value),K.In s.heap->(us++ds).length=ps.length->BindsTo s fd ⟨us,[]⟩ (ps.zip (us++ds))
theorem Bx.all{K }   (h:∀us ,us.length=ps.length->bindArgs fd ⟨us,[]⟩=pure (ps.zip us)):Bx K fd ps []:=λs us _ hl=>by
 rw[yd3]at hl ⊢;exact .of_eq (h us hl)
def Qi(CX:EY)(X:Cx)(E:XK):Prop:=∀(pins:List (Addr×Obj)) (σ:St) (H:Hp) (s:Shared) (e:Value) (s':Shared),Inv X pins σ H s->CX X.stack H s E e s'->X.xe e s'
section
variable {X:Cx}{CX:EY}{k:Nat}{f C:Addr}{fd:FuncData}{ps:List Str}{sp:Sp}{dvs:List V}{ds:List Value}{E:XK}{x m:Str}{p pos apos:Pos}{e o:Expr}{es:List Expr}{ta:TE}{t:TA}
theorem zm8  {σ:St}   {Q:VK}   (F:FnOk X.prog X.w X.K X.mg X.base CX k f fd ps sp)(hr:Room k X.A)(hb:Bx X.K fd ps ds)(hd:AZ dvs ds)(hx:Qi CX X E)
  (I:Inv X pins σ H s) (r:AZ vs us) (h:sp (vs++dvs) H Q E):wpAny (model X.prog X.w) X.A (call (.ref f) us) (EP X pins σ Q) X.xe s:=by
 have r2 :=r.append hd;have hl:(us++ds).length=ps.length:=by rw[<- r2.length];exact F.len _ _ _ _ h
 refine ye0 (ye1 (F.run X.A X.stack s H ⟨us,[]⟩ (us++ds) (vs++dvs) Q E hr I.env0 (hb s us I.kIn hl) r2 h) λr s' hq=>?_)
 cases r with
 |error e=>exact hx pins σ H s e s' I hq
 |ok fl =>
  cases fl with
  |ret u=>exact I.after hq
  |next=>exact False.elim hq
  |brk=>exact False.elim hq
  |cont=>exact False.elim hq
theorem zjr(F:FnOk X.prog X.w X.K X.mg X.base CX k f fd ps sp)(hr:Room k X.A)(hg:Gl X x)(hm:X.mg x=some (.ref f))(hk:PySem.W.keepIn X.K (.ref f)=true)(hb:Bx X.K fd ps ds)(hd:AZ dvs ds)(hx:Qi CX X E)
  (ha:PA X (e::es) t) (hdb:(x == "__debug__")=false:=by decide) (he:starEach (e::es) X.env=(false,eval e X.env)::starEach es X.env:=by rfl) (hpl:(backTo pos (starEach es X.env)).any (·.1)=false:=by rfl) :
  PE X (.Call (.Name x p) (e::es) [] pos) (Rx sp dvs E t):=by
 intro pins s σ H Q I h;refine ye2 (HX I hg hm ?_ hdb);refine yci I.ok.mod.kin hk (AU (ha pos pins s σ H _ I h) λus s1 ⟨vs,H1,I1,r,q⟩=>⟨I1.kIn,?_⟩) he hpl
 exact zm8 F hr hb hd hx I1 r q
structure Mk(K:k6)(C f:Addr):Prop where
 makes:PySem.W.makesIn K C=true
 init:PySem.W.findIn K (.ref C) "__init__"=some (some (.ref f))
 fn:PySem.W.isFn K (.ref f)=true
 kp:PySem.W.keepIn K (.ref C)=true
end
section
variable {X:Cx}{CX:EY}{k:Nat}{f C:Addr}{fd:FuncData}{ps ks:List Str}{sp:Sp}{E:XK}{x m:Str}{p pos apos kpos:Pos}{e o:Expr}{es:List Expr}{kws:List Keyword}{te ta:TE}{t tk:TA}{nm:Option Str}
variable {g:List Value->List Value->List Value}{gV:List V->List V->List V}
end
structure FnScope(N P:List Str)(sc:Scope):Prop where
 kind:sc.kind=.function
 co:sc.isCoroutine=false
 gen:sc.isGenerator=false
 nd:N.Nodup
 pre:N.take P.length=P
 par:∀x∈P,sc.names.lookup x=some .local\/sc.names.lookup x=some .cell
 nofree:∀y∈sc.names,y.2≠.free
theorem Z4{kindOf}:∀{binds} {m},(∀v,(x,v)∉binds)->bindL kindOf binds m x=m x
 |[],_,_=>rfl
 |(n,v)::r,m,h=>by
  unfold bindL;rw[Z4 λw hw=>h w (ya4 _ hw)]
  split
  .grind
  .rfl
theorem Z6{kindOf}:∀{binds} {m},(∀v,(x,v)∉binds)->bindC kindOf binds m x=m x
 |[],_,_=>rfl
 |(n,v)::r,m,h=>by
  unfold bindC;rw[Z6 λw hw=>h w (ya4 _ hw)]
  split
  .rfl
  grind
theorem Z5{kindOf}{x:Str}{v}:∀{P:List Str} {vs} {i:Nat} {m},P.Nodup->P[i]?=some x->vs[i]?=some v->kindOf x=some .local ->
  bindL kindOf (P.zip vs) m x=some v
 |[],_,_,_,_,h,_,_=>by simp at h
 |_::_,[],_,_,_,_,h,_=>by simp at h
 |p::P,w::vs,0,m,nd,h1,h2,hk=>by
  simp at h1 h2;subst h1;subst h2;show bindL kindOf ((p,w)::P.zip vs) m p=_;unfold bindL;rw[Z4 λv hv=>(ycc.mp nd).1 (List.of_mem_zip hv).1,if_pos hk]
  simp
 |p::P,w::vs,i+1,m,nd,h1,h2,hk=>by
  unfold bindL;exact Z5 (i:=i) (ycc.mp nd).2 (by grind) (by grind) hk
theorem Z7{kindOf}{x:Str}{v}:∀{P:List Str} {vs} {i:Nat} {m},P.Nodup->P[i]?=some x->vs[i]?=some v->kindOf x≠some .local ->
  bindC kindOf (P.zip vs) m x=some v
 |[],_,_,_,_,h,_,_=>by simp at h
 |_::_,[],_,_,_,_,h,_=>by simp at h
 |p::P,w::vs,0,m,nd,h1,h2,hk=>by
  simp at h1 h2;subst h1;subst h2;show bindC kindOf ((p,w)::P.zip vs) m p=_;unfold bindC;rw[Z6 λv hv=>(ycc.mp nd).1 (List.of_mem_zip hv).1,if_neg hk]
  simp
 |p::P,w::vs,i+1,m,nd,h1,h2,hk=>by
  unfold bindC;exact Z7 (i:=i) (ycc.mp nd).2 (by grind) (by grind) hk
def start(N:List Str)(vs:List V):St:=vs.map some++List.replicate (N.length - vs.length) none
noncomputable def Dz(CX:EY)(P:Program)(w:World)(K:k6)(mg:Str->Option Value)(base:Heap)(N:List Str)(qual:Str)(scope:Scope)(f:Addr)(cd:Value)(A:Around)(outer:List Env)(s:Shared)(H:Hp)(E:XK):Cx where
 prog:=P
 w:=w
 K:=K
 mg:=mg
 base:=base
 A:=A.deeper (envOfC qual scope s.heap.objs.size f cd)
 N:=N
 s₀:=s
 H₀:=H
 env:=envOfC qual scope s.heap.objs.size f cd
 outer:=outer
 stack:=envOfC qual scope s.heap.objs.size f cd::outer
 ex:=[]
 calm:=true
 fn:=λ_=>true
 pn:=[]
 xe:=λe s'=>wpAny (model P w) (A.deeper (envOfC qual scope s.heap.objs.size f cd)) (leaving (envOfC qual scope s.heap.objs.size f cd) e) (λ_ s''=>CX outer H s E e s'') (λe' s''=>CX outer H s E e' s'') s'
theorem ZR{sc:Scope}(h:sc.names.lookup x=some .cell):∃c,(cellsFrom n sc.names []).lookup x=some c:=by
 have q:=PySem.W.cellsFrom_some sc.names n [] (.inl h);exact ycj.mp q
theorem zfj{CX:EY}{P:Program}{w:World}{K:k6}{base:Heap}{N ps:List Str}{qual:Str}{scope:Scope}{f:Addr}{cd:Value}{A:Around}{s s1:Shared}{H:Hp}{E:XK}{vs:List V}
  (S:FnScope N ps scope) (hd:A.handled=none) (e0:Env0 P w K mg base A outer s H) (hl:vs.length=ps.length) (r:AZ vs us)
  (x:InCallC s s.heap.objs.size (bindL (envOfC qual scope s.heap.objs.size f cd).kindOf (ps.zip us) λ_=>none) (cellsFrom (s.heap.objs.size+1) scope.names []) (bindC (envOfC qual scope s.heap.objs.size f cd).kindOf (ps.zip us) λ_=>none) s1) :
  Inv (Dz CX P w K mg base N qual scope f cd A outer s H E) [] (start N vs) H s1:=by
 have hpl :=by have:=congrArg List.length S.pre;rw[yat]at this;omega
 obtain⟨h1,tk,rfl,hk⟩:=x.done;have noA:∀b ,b∉(Dz CX P w K mg base N qual scope f cd A outer s H E).ex:=λb z=>absurd (show b∈[] from z) (by simp)
 refine⟨⟨e0.mod,S.kind,rfl,rfl,ya9 _,λy z c h1 h2=>?_,λy hy=>?_,λy c _ h=>?_,λ_=>hd,Around.frames_deeper e0.frames,.inr ⟨rfl,rfl⟩,λb z=>absurd z (noA b),e0.bs,e0.bsz,λb _ _=>noA b,λb z=>absurd z (noA b),e0.funs,e0.frf⟩,
  rfl,e0.bare,Un.kept hk,⟨_,x.toInCall.ns,λi y v h1 h2 h3=>?_⟩,λy c h=>⟨_,x.cell y c h⟩,e0.hok.fresh (ya9 _),λy c h=>?_,λp hp=>absurd (show p∈[] from hp) (by simp),e0.hok.kept hk,?_⟩
 .exact name_of_addr x.apart (yb6 h1) (yb6 h2)
 .have hy :=hy
  rcases hy with hy|hy
  .exact ZR hy
  .exact absurd rfl (S.nofree _ (yb6 hy))
 .exact yd2 (x.above y c (yb6 h))
 .have hi:i<vs.length:=by
   unfold start at h2
   by_cases hi:i<vs.length
   .exact hi
   .rw[yaz (by simpa using hi)]at h2
    rw[List.getElem?_replicate]at h2;split at h2<;>cases h2
  have ha:vs[i]?=some v:=by
   unfold start at h2;rw[yau (by simpa using hi),ya8]at h2
   cases e:vs[i]? with
   |none=>rw[e]at h2;cases h2
   |some a=>rw[e]at h2;cases h2;rfl
  obtain⟨u,hu,rv⟩:=r.get ha
  have hp:ps[i]?=some y:=by
   rw[<- S.pre,List.getElem?_take_of_lt (by omega)];exact h1
  have ndP:ps.Nodup:=by rw[<- S.pre];exact S.nd.sublist (List.take_sublist _ _)
  refine⟨u,rv,?_⟩
  rcases S.par y (yc9 hp) with k|k
  .exact .inl ⟨k,Z5 ndP hp hu k⟩
  .obtain⟨c,e⟩:=ZR k;refine .inr ⟨.inl k,c,e,?_⟩;have q:=x.cell y c e;rw[Z7 ndP hp hu (by show scope.names.lookup y≠_;rw[k];decide)]at q
   exact q
 .exact e0.hok.fresh (yd2 (x.above y c (yb6 h)))
 .unfold start;show _=N.length;rw[ybe,ya1,ycx]
  omega
theorem PX{CX:EY}   {K }   {k:Nat}{f:Addr}     {dV kV doc pm cdv ct oc:Value}
   {sp:Sp} (lk:K.lookup f=some ⟨oc,od,.func (PySem.W.fnOf name qual params body scope dV kV doc pm an cdv ct),osl⟩) (hcd:PySem.W.codeIn K cdv qual=true) (S:FnScope N ps scope)
  (len:∀vs H Q E,sp vs H Q E->vs.length=ps.length)
  (hbody : ∀ (A : Around) (outer ) (s : Shared) (H : Hp) (vs : List V) (Q : VK) (E : XK), Room k (A.deeper (envOfC qual scope s.heap.objs.size f cdv)) -> sp vs H Q E ->
   ∃t,BI (Dz CX P w K mg base N qual scope f cdv A outer s H E) body t/\t { nx:=λ_ H'=>Q .non H',rt:=Q } (start N vs) H) :
  FnOk P w K mg base CX (k+1) f (PySem.W.fnOf name qual params body scope dV kV doc pm an cdv ct) ps sp:=by
 refine⟨len,λA outer s H args us vs Q E hr e0 hb r hsp=>?_⟩
 have hl:=len _ _ _ _ hsp;have KX :=e0.mod.kin.keeps λb o e=>(e0.bs b o e).1
 have BV :=e0.mod.nolimit.keeps λb o e=>(e0.bs b o e).1
 have hkind:∀y∈ps.zip us,scope.names.lookup y.1=some .local\/(scope.names.lookup y.1=some .cell/\((cellsFrom (s.heap.objs.size+1) scope.names []).lookup y.1).isSome=true):=λ⟨n,v⟩ hy=>by
  rcases S.par n (List.of_mem_zip hy).1 with q|q
  .exact .inl q
  .exact .inr ⟨q,PySem.W.cellsFrom_some _ _ _ (.inl q)⟩
 refine codeAny_call_function hr.depth (KX _ _ lk) rfl S.co S.gen rfl (PySem.W.codeRec_of KX hcd) (hb _ _ _ _ ?_);refine wpAny_newFunctionEnv_cells S.kind hkind λenv he s1 x=>?_
 subst he;refine⟨BV.keeps x.toInCall.keep,codeAny_func ?_⟩;obtain⟨t,ht,hq⟩:=hbody A outer s H vs Q E (hr.deeper _) hsp;have I:Inv (Dz CX P w K mg base N qual scope f cdv A outer s H E) [] (start N vs) H s1:=zfj S hr.hd e0 hl r x;refine ydq (ht [] s1 (start N vs) H _ I hq) (λfl s' hs=>?_) λe s' hs=>hs
 have As:∀{σ' } {H' } {v } {u },Inv (Dz CX P w K mg base N qual scope f cdv A outer s H E) [] σ' H' s'->A3 v u->Q v H'->CE outer P w H s Q u s' :=
  λ{σ' H' v u} J rv q=>⟨v,H',J.os,J.bare,J.base,J.hok,rv,q⟩
 cases fl with
 |ret u =>
  obtain⟨v,σ',H',J,rv,q⟩:=hs;exact As J rv q
 |next =>
  obtain⟨σ',H',J,q⟩:=hs;exact As (v:=V.non) J rfl q
 |brk =>
  obtain⟨_,_,_,q⟩:=hs;exact False.elim q
 |cont =>
  obtain⟨_,_,_,q⟩:=hs;exact False.elim q
section
variable {X:Cx}{x:Str}{p pos:Pos}{e:Expr}{es:List Expr}{t:TA}{id T:String}{r:List V->Hp->VK->Prop}
def Ry(r:List V->Hp->VK->Prop)(t:TA):TE:=λσ H Q=>t σ H λvs H1=>r vs H1 Q
theorem Ih(hc:Bb X (.builtin id) r)(hg:Gl X x)(hm:X.mg x=none)(hv:bootBuiltins x=some (.builtin id))(ha:PA X (e::es) t)(hn:x≠"__name__":=by decide)(hdb:(x == "__debug__")=false:=by decide)
  (he:starEach (e::es) X.env=(false,eval e X.env)::starEach es X.env:=by rfl) (hpl:(backTo pos (starEach es X.env)).any (·.1)=false:=by rfl):PE X (.Call (.Name x p) (e::es) [] pos) (Ry r t):=by
 intro pins s σ H Q I h;refine ye2 (Fm I hg hm hv ?_ hn hdb);exact PyProof.Rows.callWith_builtin1 (AU (ha pos pins s σ H _ I h) λus s1 ⟨vs,H1,I1,r1,q1⟩=>hc pins s1 σ H1 vs us Q I1 r1 q1) he hpl
theorem Us(hc:Bb X (.type T) r)(hg:Gl X x)(hm:X.mg x=none)(hv:bootBuiltins x=some (.type T))(ha:PA X (e::es) t)(hn:x≠"__name__":=by decide)(hdb:(x == "__debug__")=false:=by decide)
  (he:starEach (e::es) X.env=(false,eval e X.env)::starEach es X.env:=by rfl) (hpl:(backTo pos (starEach es X.env)).any (·.1)=false:=by rfl):PE X (.Call (.Name x p) (e::es) [] pos) (Ry r t):=by
 intro pins s σ H Q I h;refine ye2 (Fm I hg hm hv ?_ hn hdb);exact yb4 (AU (ha pos pins s σ H _ I h) λus s1 ⟨vs,H1,I1,r1,q1⟩=>hc pins s1 σ H1 vs us Q I1 r1 q1) he hpl
end
end L2
namespace HT
open PySem PyProof.Rows
section
open PySem.SeqAt
open PySem.AutoSeq1 (wpAny_loadPart')
open PySem.MeetsSeq PySem.MeetsSeq2 PySem.MeetsSeq3
end
section
variable {prog:Program}{w:World}{A:Around}{E:Value->Shared->Prop}{s:Shared}
noncomputable def sIx(n d:Nat):Option Int->Nat
 |none=>d
 |some v=>if v<0 then (v+(n:Int)).toNat else min v.toNat n
theorem sIx_none(n d:Nat):sIx n d none=d:=rfl
theorem sIx_nat(n d k:Nat):sIx n d (some (k:Int))=min k n:=by
 rfl
end
end HT
namespace L2
open PySem PySem.Spec PyProof.Rows
abbrev TO:=St->Hp->(Option Int->Hp->Prop)->Prop
def PO(X:Cx)(e:Option Expr)(t:TO):Prop :=
 ∀(pins:List (Addr×Obj)) (s:Shared) (σ:St) (H:Hp) (Q:Option Int->Hp->Prop),Inv X pins σ H s->t σ H Q ->
  wpAny (model X.prog X.w) X.A (evalPart e X.env) (λu s'=>∃o H',Inv X pins σ H' s'/\IsPart u o/\Q o H') X.xe s
def zir:TO:=λ_ H Q=>Q none H
def tPart(t:TE):TO:=λσ H Q=>t σ H λx H1=>∃i,x=.int i/\Q (some i) H1
section
variable {X:Cx}{e:Expr}{te:TE}{lo hi:Option Expr}{tl th:TO}{pos p2:Pos}
theorem zji:PO X none zir:=by
 intro pins s σ H Q I h;exact ydx ⟨none,H,I,.none,h⟩
theorem zjh(h:PE X e te):PO X (some e) (tPart te):=by
 intro pins s σ H Q I hw;refine AU (h pins s σ H _ I hw) λu s1 ⟨x,H1,I1,r1,q1⟩=>?_
 obtain⟨i,rfl,q⟩:=q1;obtain⟨t,rfl⟩:=r1;exact⟨some i,H1,I1,.int i t,q⟩
def Gn(X:Cx)(r:V->Option Int->Option Int->Hp->VK->Prop):Prop :=
 ∀(pins:List (Addr×Obj)) (s:Shared) (σ:St) (H:Hp) (x:V) (v vl vu:Value) (lo hi:Option Int) (sl:Addr) (Q:VK),Inv X pins σ H s->A3 x v->s.heap.IsSliceOf sl vl vu .none->IsPart vl lo->IsPart vu hi->r x lo hi H Q ->
  ∃T id,typeLookup (.type T) "__getitem__"=pure (some (.builtin id))/\s.TypeIs v T/\wpAny (model X.prog X.w) X.A (getItem v (.ref sl)) (EP X pins σ Q) X.xe s
theorem Gn.or(h:Gn X r)(h':Gn X r'):Gn X (λx lo hi H Q=>r x lo hi H Q\/r' x lo hi H Q):=by
 intro pins s σ H x v vl vu lo hi sl Q I rx hs pl pu q
 rcases q with q|q
 .exact h pins s σ H x v vl vu lo hi sl Q I rx hs pl pu q
 .exact h' pins s σ H x v vl vu lo hi sl Q I rx hs pl pu q
def tSl(r:V->Option Int->Option Int->Hp->VK->Prop)(te:TE)(tl th:TO):TE:=λσ H Q=>te σ H λx H1=>tl σ H1 λl H2=>th σ H2 λu H3=>r x l u H3 Q
theorem Up  (hr:Gn X r)(he:PE X e te)(hl:PO X lo tl)(hu:PO X hi th):PE X (.Subscript e (.Slice lo hi none p2) pos) (tSl r te tl th):=by
 intro pins s σ H Q I h;refine Subscript_ (AU (he pins s σ H _ I h) λv s1 ⟨x,H1,I1,r1,q1⟩=>?_)
 refine wpAny_Slice (AU (hl pins s1 σ H1 _ I1 q1) λvl s2 ⟨l,H2,I2,pl,q2⟩=>AU (hu pins s2 σ H2 _ I2 q2) λvu s3 ⟨u,H3,I3,pu,q3⟩=>?_)
 refine ydx ?_;have I4:Inv X pins σ H3 { s3 with heap:=s3.heap.push { cls:=.type "slice",data:=.fields #[vl,vu,.none] } }:=I3.kept λb ob q=>ya6 _ q
 obtain⟨T,id,hT,ht,hg⟩:=hr pins { s3 with heap:=s3.heap.push { cls:=.type "slice",data:=.fields #[vl,vu,.none] } } σ H3 x v vl vu l u s3.heap.objs.size Q I4 r1 (Heap.IsSliceOf.new ..) pl pu q3
 exact tail_any ht hT hg (by rfl)
def JU(xs:List V)(lo hi:Option Int):List V:=(xs.drop (HT.sIx xs.length 0 lo)).take (HT.sIx xs.length xs.length hi - HT.sIx xs.length 0 lo)
theorem zds(xs)(lo hi):(JU xs lo hi).length<=xs.length:=by
 unfold JU
 grind
end
noncomputable def Bp(n:Nat)(i:Int):Option Nat:=if 0<=i then (if i<n then some i.toNat else none) else if -(n:Int)<=i then some (i+n).toNat else none
def Au{α:Type}(xs:List α)(i:Int):Option α:=(Bp xs.length i).bind λj=>xs[j]?
theorem JJ(h:Bp n i=some j):seqIndex? i n=some j/\j<n/\-n<=i/\i<n:=by
 unfold Bp at h
 by_cases h0:0<=i
 .rw[if_pos h0]at h
  by_cases h1:i<n
  .rw[if_pos h1]at h;have e :=yap h;exact⟨by rw[seqIndex_of h0 h1,e],by omega,by omega,h1⟩
  grind
 .rw[if_neg h0]at h
  by_cases h1:-n<=i
  .rw[if_pos h1]at h;have e :=yap h;exact⟨by rw[seqIndex_neg (by omega) h1,e],by omega,h1,by omega⟩
  grind
theorem Qb(h:Au xs i=some v):∃j,seqIndex? i xs.length=some j/\xs[j]?=some v/\j<xs.length/\-xs.length<=i/\i<xs.length:=by
 unfold Au at h;cases e:Bp xs.length i with
 |none=>grind
 |some j =>
  obtain⟨h1,h2,h3,h4⟩:=JJ e
  grind
theorem Gi{j:Nat}{v}(h:xs[j]?=some v):Au xs j=some v:=by
 have hj :=(ya3.mp h).1
 have e:Bp xs.length j=some j:=by
  unfold Bp
  grind
 unfold Au;grind
def IC(b:Expr):Prop:=∀o i,subscripted b false o i=operate [o,i] (getItem o i)
def Eo(X:Cx)(r:R2):Prop :=
 ∀(value slice:Expr) (pins:List (Addr×Obj)) (s:Shared) (σ:St) (H:Hp) (x y:V) (v u:Value) (Q:VK),Inv X pins σ H s->A3 x v->A3 y u->r x y H Q ->
  subscripted slice false v u=operate [v,u] (getItem v u)->wpAny (model X.prog X.w) X.A (subscriptTail value slice v u) (EP X pins σ Q) X.xe s
def Jo(X:Cx)(id:String)(r:V->List V->Hp->VK->Prop):Prop :=
 ∀(pins:List (Addr×Obj)) (s:Shared) (σ:St) (H:Hp) (x:V) (xs:List V) (v:Value) (us:List Value) (Q:VK),Inv X pins σ H s->A3 x v->AZ xs us->r x xs H Q ->
  wpAny (model X.prog X.w) X.A (call (.builtin id) (v::us)) (EP X pins σ Q) X.xe s
section
variable {X:Cx}{a b:Expr}{ta tb:TE}{pos:Pos}
theorem Eo.or(h:Eo X r)(h':Eo X r'):Eo X (λx y H Q=>r x y H Q\/r' x y H Q):=by
 intro value slice pins s σ H x y v u Q I rx ry q hs
 rcases q with q|q
 .exact h value slice pins s σ H x y v u Q I rx ry q hs
 .exact h' value slice pins s σ H x y v u Q I rx ry q hs
theorem Jo.or{id}(h:Jo X id r)(h':Jo X id r'):Jo X id (λx xs H Q=>r x xs H Q\/r' x xs H Q):=by
 intro pins s σ H x xs v us Q I rx rs q
 rcases q with q|q
 .exact h pins s σ H x xs v us Q I rx rs q
 .exact h' pins s σ H x xs v us Q I rx rs q
theorem K9  (hr:Eo X r)(ha:PE X a ta)(hb:PE X b tb)(hs:IC b):PE X (.Subscript a b pos) (HF r ta tb):=by
 intro pins s σ H Q I h;exact Subscript_ (Q5 ha hb I h λv u s2 x y H2 I2 rx ry q=>hr a b pins s2 σ H2 x y v u Q I2 rx ry q (hs _ _))
def Ue(K:k6):R2:=λx y H Q=>∃p xs i v,x=.ref p/\y=.int i/\A9 K H p xs/\Au xs i=some v/\Q v H
def Uc(K:k6):R2:=λx y H Q=>∃p xs i v,x=.ref p/\y=.int i/\Bm K H p xs/\Au xs i=some v/\Q v H
def Ud:R2:=λx y H Q=>∃z i c,x=.str z/\y=.int i/\z.length<=sizeLine/\Au z.cps.toList i=some c/\Q (.str ⟨#[c]⟩) H
theorem XX:Eo X (Ue X.K):=by
 intro value slice pins s σ H x y v u Q I rx ry h hs;obtain⟨p,xs,i,z,rfl,rfl,hq,he,q⟩:=h;cases rx;obtain⟨t,rfl⟩:=ry;obtain⟨its,r,pl,hz⟩:=I.list hq;obtain⟨j,h1,h2,h3,h4,h5⟩:=Qb he;obtain⟨w,ew,rw'⟩:=r.get h2;have hl:=r.length;have hn:=JE;have As:EP X pins σ Q w s:=⟨z,H,I,rw',q⟩
 by_cases h0:0<=i
 .have hj :=by
   rw[seqIndex_of h0 h5]at h1;exact yap h1
  exact item_listR pl.isList h0 (by omega) (by rw[hj];simpa using ew) As hs
 .have hj:(i+its.toArray.size).toNat=j:=by
   rw[seqIndex_neg (by omega) h4]at h1
   grind
  exact subscriptTail_builtinR pl.isList.typeIs slot_list_getitem.lookup
   (wpAny_getItem_list_neg pl.isList (by omega) (by rw[yb3]<;>omega) (by omega) (by rw[hj];simpa using ew) ⟨rfl,As⟩) hs
theorem zo6:Eo X (Uc X.K):=by
 intro value slice pins s σ H x y v u Q I rx ry h hs;obtain⟨p,xs,i,z,rfl,rfl,hq,he,q⟩:=h;cases rx;obtain⟨t,rfl⟩:=ry;obtain⟨its,r,pl,hz⟩:=I.tuple hq;obtain⟨j,h1,h2,h3,h4,h5⟩:=Qb he;obtain⟨w,ew,rw'⟩:=r.get h2;have hl:=r.length;have hn:=JE;have As:EP X pins σ Q w s:=⟨z,H,I,rw',q⟩
 exact subscriptTail_builtinR pl.typeIs slot_tuple_getitem.lookup
  (getItem_tuple (j:=j) pl (by omega) (by omega) (by grind) (by grind) ⟨rfl,As⟩) hs
theorem zo7:Eo X Ud:=by
 intro value slice pins s σ H x y v u Q I rx ry h hs;obtain⟨z,i,c,rfl,rfl,hz,he,q⟩:=h;obtain⟨t,rfl⟩:=rx;obtain⟨t',rfl⟩:=ry;obtain⟨j,h1,h2,h3,h4,h5⟩:=Qb he;have hl:z.cps.toList.length=z.length:=by simp[Str.length]
 rw[hl]at h1 h4 h5;have hn:=JE
 exact tail_any (ye3 s z t) slot_str_getitem.lookup (getItem_str (by
  grind) (by grind) ⟨.str ⟨#[c]⟩,H,I.tok _,⟨_,rfl⟩,q⟩) hs
def Ug(K:k6):R2:=λx y H Q=>Ue K x y H Q\/Uc K x y H Q\/Ud x y H Q
theorem zo8:Eo X (Ug X.K):=XX.or (zo6.or zo7)
theorem ze9(its:List Value)(n j )(u ):Obj.mapSeq (·.setIfInBounds j u) { cls:=.type "list",data:=.seq its.toArray n }={ cls:=.type "list",data:=.seq (its.set j u).toArray n }:=by
 simp[Obj.mapSeq]
theorem Inv.lst{pins:List (Addr×Obj)}{σ:St}{H:Hp}{s:Shared}{p:Addr}{xs:List V}(I:Inv X pins σ H s)(h:H p=some (.lst xs)) :
  ∃(its:List Value) (n:Nat),AZ xs its/\s.heap.get? p=some { cls:=.type "list",data:=.seq its.toArray n }/\xs.length<=sizeLine:=by
 obtain⟨z,its,n,r,e⟩:=I.hok p _ h
 grind
theorem Inv.lstUpd  {σ:St}     {its its':List Value}   (I:Inv X pins σ H s)(h:H p=some (.lst xs))
  (ho:s.heap.get? p=some { cls:=.type "list",data:=.seq its.toArray n }) (hf:f { cls:=.type "list",data:=.seq its.toArray n }={ cls:=.type "list",data:=.seq its'.toArray n' }) (r:AZ ys its') (hz:ys.length<=sizeLine) (t:Nat) :
  Inv X pins σ (upd H p (.lst ys)) { s with heap:=s.heap.update p f,toks:=t }:=by
 have e:(s.heap.update p f).get? p=some { cls:=.type "list",data:=.seq its'.toArray n' }:=by
  rw[yc5 f ho (by rw[hf]<;>rfl),hf]
 refine I.write (by rw[h];trivial) (.inl rfl) (λb u hb q=>(yb2 _ _ (yao hb)).trans q) ⟨_,e⟩ ?_
 exact⟨hz,its',n',r,e⟩
def rSetL:V->V->V->Hp->(Hp->Prop)->Prop:=λo i v H Q=>∃p xs k j,o=.ref p/\i=.int k/\H p=some (.lst xs)/\Bp xs.length k=some j/\Q (upd H p (.lst (xs.set j v)))
theorem SJ:Qk X rSetL:=by
 intro pins s σ H o i v ov iv u Q I ro ri rv h;obtain⟨p,xs,k,j,rfl,rfl,hp,hj,q⟩:=h;cases ro;obtain⟨t,rfl⟩:=ri;obtain⟨its,n,r,ho,hz⟩:=I.lst hp;obtain⟨h1,h2,h3,h4⟩:=JJ hj;have hl:=r.length;have hn:=JE
 have I'  :=
  I.lstUpd hp ho (ze9 its n j u) (r.set rv j) (by rw[ybn];exact hz) s.toks
 by_cases h0:0<=k
 .have hk :=by
   rw[seqIndex_of h0 h4]at h1;exact yap h1
  exact PySem.W.ki_setAt ho h0 (by omega) (by grind) (by rw[hk];exact⟨_,I',q⟩)
 .have hk:(k+its.toArray.size).toNat=j:=by
   rw[seqIndex_neg (by omega) h3]at h1
   grind
  exact PySem.W.ki_setBack ho (by omega) (by grind) (by omega) (by rw[hk];exact⟨_,I',q⟩)
theorem zcg(lo hi)(n):(sliceBounds lo hi none n).1=HT.sIx n 0 lo/\(sliceBounds lo hi none n).2.1=HT.sIx n n hi/\(sliceBounds lo hi none n).2.2=1:=by
 refine⟨?_,?_,rfl⟩
 .cases lo with
  |none=>simp[sliceBounds,HT.sIx]
  |some i =>
   simp only[sliceBounds,HT.sIx,Option.getD_none,ye4]
   grind
 .cases hi with
  |none=>simp[sliceBounds,HT.sIx]
  |some i =>
   simp only[sliceBounds,HT.sIx,Option.getD_none,ye4]
   grind
theorem zc1(its:List Value)(lo hi):slicePick its.toArray lo hi none=((its.drop (HT.sIx its.length 0 lo)).take (HT.sIx its.length its.length hi - HT.sIx its.length 0 lo)).toArray:=by
 obtain⟨h1,h2,h3⟩:=zcg lo hi its.toArray.size;unfold slicePick;rw[h1,h2,h3];simp only[sliceRange_one,pick_run]<;>rfl
def Ub(K:k6):V->Option Int->Option Int->Hp->VK->Prop:=λx lo hi H Q=>∃a xs,x=.ref a/\A9 K H a xs/\∀p,H p=none->Q (.ref p) (upd H p (.lst (JU xs lo hi)))
theorem ziv:Gn X (Ub X.K):=by
 intro pins s σ H x v vl vu lo hi sl Q I rx hs pl pu h;obtain⟨a,xs,rfl,hx,q⟩:=h;cases rx;obtain⟨its,r,ht,hz⟩:=I.list hx;have hlen:=r.length;refine⟨"list",_,slot_list_getitem.lookup,ht.isList.typeIs,?_⟩;refine wpAny_getItem_list_slice ht.isList hs pl pu .none (by simp) ?_ (by grind)
 rw[zc1,<- hlen];refine⟨.ref s.heap.objs.size,_,I.laid (λb ob q=>ya6 _ q) (ya9 _) ?_,rfl,q _ (I.hok.fresh (ya9 _))⟩
 exact⟨yak (zds xs lo hi) hz,_,0,(r.drop (HT.sIx xs.length 0 lo)).take (HT.sIx xs.length xs.length hi - HT.sIx xs.length 0 lo),yaj _ rfl⟩
theorem Bb.or(h:Bb X f r)(h':Bb X f r'):Bb X f (λxs H Q=>r xs H Q\/r' xs H Q):=by
 intro pins s σ H xs us Q I rs q
 rcases q with q|q
 .exact h pins s σ H xs us Q I rs q
 .exact h' pins s σ H xs us Q I rs q
theorem zda:Bb X (.type "list") (λxs H Q=>∃p ys,xs=[.ref p]/\(A9 X.K H p ys\/Bm X.K H p ys)/\∀l,H l=none->Q (.ref l) (upd H l (.lst ys))):=by
 intro pins s σ H xs us Q I r h;obtain⟨p,ys,rfl,hq,q⟩:=h;obtain⟨u,rfl,rx⟩:=FN r;cases rx
 have As:∀(its ),AZ ys its->ys.length<=sizeLine->∀(h' ) (c' ),(∀b o',s.heap.get? b=some o'->h'.get? b=some o') ->
   h'.get? s.heap.objs.size=some { cls:=.type "list",dict:=none,data:=.seq its.toArray c',slots:=#[] }->EP X pins σ Q (.ref s.heap.objs.size) { s with heap:=h' }:=λits r' hz h' c' kp e =>
  ⟨.ref s.heap.objs.size,_,I.laid kp (ya9 _) (show CN X.prog X.w _ h' _ (.lst ys) from⟨hz,its,c',r',e⟩),rfl,q _ (I.hok.fresh (ya9 _))⟩
 rcases hq with hq|hq
 .obtain⟨its,r',pl,hz⟩:=I.list hq;have hlen:=r'.length;obtain⟨o,ho,hc,n,hd⟩:=pl.isList;exact call_list_seq p (.inl rfl) ho hc hd (λh' c' kp e=>As its r' hz h' c' kp e) (by grind)
 .obtain⟨its,r',pl,hz⟩:=I.tuple hq;have hlen:=r'.length;obtain⟨o,ho,hc,n,hd⟩:=pl;exact call_list_seq p (.inr rfl) ho hc hd (λh' c' kp e=>As its r' hz h' c' kp e) (by grind)
def RX(K:k6)(T:String)(x:V)(H:Hp):Prop:=match x with
 |.str _=>T="str"
 |.int _=>T="int"
 |.ref p=>(T="list"/\∃xs,A9 K H p xs)\/(T="tuple"/\∃o,K.lookup p=some o/\o.cls=.type "tuple"/\o.dict=none) \/
   (T="dict"/\((∃kvs,H p=some (.dK kvs))\/∃kvs,H p=some (.dT kvs)))\/(T="set"/\∃S n,H p=some (.set S n))
 |_=>False
theorem zlk{σ:St}{x:V}(I:Inv X pins σ H s)(r:A3 x v)(ty:RX X.K T x H) :
  s.TypeIs v T/\∀a,v=.ref a->∃ob,s.heap.get? a=some ob/\ob.dict=none:=by
 cases x with
 |str z =>
  obtain⟨t,rfl⟩:=r;cases (ty);exact⟨ye3 s z t,λ_ e=>nomatch e⟩
 |int i =>
  obtain⟨t,rfl⟩:=r;cases (ty);exact⟨typeIs_int s i t,λ_ e=>nomatch e⟩
 |ref p =>
  cases r
  rcases ty with ⟨rfl,xs,hq⟩|⟨rfl,o,hk,hc,hd⟩|⟨rfl,hk⟩|⟨rfl,S,n,hk⟩
  .obtain⟨its,_,pl,_⟩:=I.list hq;refine⟨pl.isList.typeIs,λa e=>?_⟩
   cases e;obtain⟨o,n,e,c,hd,_⟩:=pl;exact⟨o,e,hd⟩
  .refine⟨⟨o,I.kIn p o hk,hc⟩,λa e=>?_⟩
   cases e;exact⟨o,I.kIn _ o hk,hd⟩
  .have z:∃o,s.heap.get? p=some o/\o.ExactDict:=by
    rcases hk with ⟨kvs,hk⟩|⟨kvs,hk⟩
    .obtain⟨_,_,_,_,o,_,_,e,ex,_⟩:=I.hok p _ hk;exact⟨o,e,ex⟩
    .obtain⟨_,_,_,_,o,_,_,e,ex,_⟩:=I.hok p _ hk;exact⟨o,e,ex⟩
   obtain⟨o,e,ex⟩:=z;refine⟨⟨o,e,ex.1⟩,λa e2=>?_⟩
   cases e2;exact⟨o,e,ex.2.1⟩
  .obtain⟨o,_,_,_,e,ex,_⟩:=I.hok p _ hk;refine⟨⟨o,e,ex.1⟩,λa e2=>?_⟩
   cases e2;exact⟨o,e,ex.2.1⟩
 |_=>exact False.elim ty
def tBM(K:k6)(T:String)(r:V->List V->Hp->VK->Prop)(to:TE)(t:TA):TE:=λσ H Q=>to σ H λx H1=>RX K T x H1/\t σ H1 λxs H2=>r x xs H2 Q
variable {o e:Expr}{es:List Expr}{to:TE}{t:TA}{name:Str}{apos cpos:Pos}{T id:String}{r:V->List V->Hp->VK->Prop}
theorem Ka(pa:PlainAttrs T)(slot:Slot T name id)(hty:typeOf (.builtin id)=pure (.type "method_descriptor"))(hm:Jo X id r)(ho:PE X o to)(ha:PA X (e::es) t)
  (hbase:attributeBase o name X.env (eval o X.env)=eval o X.env:=by rfl)
  (hfew : ((backTo cpos (starEach (e :: es) X.env)).all (fun x => !x.1) && (backToKw cpos (keywordEach [] X.env)).all (fun x => x.1.isSome)
   && decide ((e::es).length+([]:List Keyword).length+(if ([]:List Keyword).isEmpty then 0 else 1)<30))=true:=by rfl)
  (hline:(apos.endLine == cpos.line)=true:=by rfl) (hs:starEach (e::es) X.env=(false,eval e X.env)::starEach es X.env:=by rfl) (hplain:(backTo cpos (starEach es X.env)).any (·.1)=false:=by rfl) :
  PE X (.Call (.Attribute o name apos) (e::es) [] cpos) (tBM X.K T r to t):=by
 intro pins s σ H Q I h;refine wpAny_Call_method_late hbase hfew hline rfl (AU (ho pins s σ H _ I h) λv s1 ⟨x,H1,I1,r1,ty,q1⟩=>?_)
 obtain⟨h1,h2⟩:=zlk I1 r1 ty;refine⟨T,id,pa,slot,hty,h1,h2,?_⟩;have hA:=ha cpos pins s1 σ H1 _ I1 q1;rw[hs]at hA ⊢;refine Calls.callWith_builtin (by grind) (Calls.evalArgs_plain ?_)
 exact AU hA λus s2 ⟨vs,H2,I2,r2,q2⟩=>hm pins s2 σ H2 x vs v us Q I2 r1 r2 q2
end
def Qm(X:Cx)(id:String)(r:V->List V->Hp->VK->Prop):Prop :=
 ∀(pins:List (Addr×Obj)) (s:Shared) (σ:St) (H:Hp) (x:V) (xs:List V) (v:Value) (us:List Value) (Q:VK),Inv X pins σ H s->A3 x v->AZ xs us->r x xs H Q ->
  wpAny (model X.prog X.w) X.A (call (.builtin id) (v::us)) (EP X pins σ Q) X.xe s
theorem AZ.one:∀{x} {us},AZ [x] us->∃u,us=[u]/\A3 x u
 |_,_,.cons r .nil=>⟨_,rfl,r⟩
theorem AZ.two:∀{x y} {us},AZ [x,y] us->∃u v,us=[u,v]/\A3 x u/\A3 y v
 |_,_,_,.cons r (.cons q .nil)=>⟨_,_,rfl,r,q⟩
theorem AZ.zero:∀{us:List Value},AZ [] us->us=[]
 |_,.nil=>rfl
theorem AZ.rep(h:AZ xs us):∀k ,AZ (List.replicate k xs).flatten (List.replicate k us).flatten
 |0=>.nil
 |k+1=>by
  exact AZ.append h (AZ.rep h k)
theorem Xq(its):∀(k) (acc:List Value),
  List.foldl (λx1 x2=>x1++x2) acc.toArray (List.replicate k its.toArray)=(acc++(List.replicate k its).flatten).toArray
 |0,acc=>by simp
 |k+1,acc=>by
  have e:acc.toArray++its.toArray=(acc++its).toArray:=by simp
  have e2:(acc++its)++(List.replicate k its).flatten=acc++(List.replicate (k+1) its).flatten:=by
   grind
  rw[<- e2,<- Xq its k (acc++its),<- e,List.replicate_succ,List.foldl_cons]
section
variable {X:Cx}{pins:List (Addr×Obj)}{σ:St}{H:Hp}{s:Shared}{l b:Addr}{xs ys zs:List V}
theorem Inv.lset{its its':List Value}(I:Inv X pins σ H s)(hH:H l=some (.lst xs))
  (e:s.heap.get? l=some { cls:=.type "list",data:=.seq its.toArray n }) (hf:f its.toArray=its'.toArray) (hv:AZ ys its') (hz:ys.length<=sizeLine) :
  Inv X pins σ (upd H l (.lst ys)) { s with heap:=s.heap.update l (Obj.mapSeq f),toks:=t' }:=by
 have q:=PySem.IsL.update e f;rw[hf]at q;refine I.write (by rw[hH];exact trivial) (.inl rfl) (λb' u hb hu=>(yb2 s.heap (Obj.mapSeq f) (yao hb)).trans hu) ⟨_,q⟩ ?_
 exact⟨hz,its',_,hv,q⟩
theorem Inv.lnew(I:Inv X pins σ H s)(hv:AZ ys its)(hz:ys.length<=sizeLine) :
  Inv X pins σ (upd H s.heap.objs.size (.lst ys)) { s with heap:=s.heap.push { cls:=.type "list",data:=.seq its.toArray },toks:=t' } :=
 I.laid (λ_ _ q=>ya6 _ q) (ya9 _) ⟨hz,its,0,hv,yaj _ rfl⟩
theorem Inv.fresh(I:Inv X pins σ H s):H s.heap.objs.size=none:=I.hok.fresh (ya9 _)
theorem Inv.lstM(I:Inv X pins σ H s)(hH:H l=some (.lst xs)):xs.length<=sizeLine/\∃(its:List Value) (n:Nat),AZ xs its/\xs.length=its.length/\s.heap.get? l=some { cls:=.type "list",data:=.seq its.toArray n }:=by
 obtain⟨z,its,n,r,e⟩:=I.hok l _ hH;exact⟨z,its,n,r,r.length,e⟩
theorem zh8(h:n<=sizeLine):Builtin.List.listTooLong n=false:=by
 exact ydp (by omega)
end
section
variable {X:Cx}
def zj8:V->List V->Hp->VK->Prop:=λx vs H Q=>∃l xs y,x=.ref l/\vs=[y]/\H l=some (.lst xs)/\xs.length<sizeLine/\Q .non (upd H l (.lst (xs++[y])))
theorem Wg:Qm X "list.append" zj8:=by
 intro pins s σ H x vs v us Q I rx rv h;obtain⟨l,xs,y,rfl,rfl,hH,hz,q⟩:=h;cases rx;obtain⟨u,rfl,ru⟩:=rv.one;obtain⟨z,its,n,r,hl,e⟩:=I.lstM hH;refine ye5 F.slot_list_append ⟨_,e,rfl⟩ F.entry_list_append (F.args_list_append_2 _ _) (PySem.list_append l its.toArray n u (by grind)) ⟨e,?_⟩
 refine⟨.non,_,I.lset hH e (by simp) (r.append (.cons ru .nil)) ?_,rfl,q⟩
 grind
def rCat:R2:=λx y H Q=>∃l b xs zs,x=.ref l/\y=.ref b/\H l=some (.lst xs)/\H b=some (.lst zs)/\xs.length+zs.length<=sizeLine/\∀p,H p=none->Q (.ref p) (upd H p (.lst (xs++zs)))
theorem zna:Ab X (binaryOp .Add) rCat:=by
 intro pins s σ H x y v u Q I rx ry h;obtain⟨l,b,xs,zs,rfl,rfl,hH,hB,hz,q⟩:=h;cases rx;cases ry;obtain⟨z,its,n,r,hl,e⟩:=I.lstM hH;obtain⟨z2,its2,n2,r2,hl2,e2⟩:=I.lstM hB;refine PySem.P.add_list e e2 ?_ (by grind)
 have ea:its.toArray++its2.toArray=(its++its2).toArray:=by simp
 rw[ea];exact⟨.ref _,_,I.lnew (r.append r2) (by grind),rfl,q _ I.fresh⟩
def rRep:R2:=λx y H Q=>∃l k xs,x=.ref l/\y=.int k/\H l=some (.lst xs)/\-(2 ^ 63)<=k/\k<2 ^ 63/\xs.length * k.toNat<=sizeLine /\
 ∀p,H p=none->Q (.ref p) (upd H p (.lst (List.replicate k.toNat xs).flatten))
theorem zkj{α:Type}(xs:List α)(k):(List.replicate k xs).flatten.length=k * xs.length:=by
 simp
theorem zn6:Ab X (binaryOp .Mult) rRep:=by
 intro pins s σ H x y v u Q I rx ry h;obtain⟨l,k,xs,rfl,rfl,hH,h1,h2,hz,q⟩:=h;cases rx;obtain⟨t,rfl⟩:=ry;obtain⟨z,its,n,r,hl,e⟩:=I.lstM hH;have hlen:its.toArray.size * k.toNat<=sizeLine:=by rw[yb3,<- hl];exact hz
 have hcap:¬ its.toArray.size * k.toNat > (2 ^ 63 - 1) / 8:=by
  have:sizeLine<=(2 ^ 63 - 1) / 8:=by decide
  omega
 have hfit:¬ (!Builtin.List.listFitsIndex k)=true:=by
  rw[fitsIndex_both h1 h2];exact yb8
 have hlong:¬ Builtin.List.listTooLong (its.toArray.size * k.toNat)=true:=by
  rw[zh8 hlen];exact yb8
 have hnew:List.foldl (λx1 x2=>x1++x2) #[] (List.replicate (if its.toArray.isEmpty=true then 0 else k.toNat) its.toArray)=(List.replicate k.toNat its).flatten.toArray:=by
  have f0 :=λm=>by
   have:=Xq its m [];rw[List.nil_append]at this;exact this
  rw[f0];cases its with
  |nil=>simp
  |cons a r'=>rw[if_neg (by simp)]
 refine wpAny_binaryOp_repeat_ref (by decide) ⟨_,e,rfl⟩ (λs'=>typeIs_int s' k t) noFill_list_mul F.fills_int_mul F.slot_int_rmul repeat_list F.slot_int_index.lookup
  (ye5 F.slot_int_rmul (typeIs_int s k t) F.entry_int_rmul (F.args_int_rmul_2 _ _) (int___rmul___int_list k t l its.toArray n)
   ⟨e,rfl,⟨_,e,rfl⟩,ye5 F.slot_list_mul ⟨_,e,rfl⟩ F.entry_list_mul (F.args_list_mul_2 _ _) (AutoListH.list___mul___list_int_3 l its.toArray n k t hfit hcap hlong) ⟨e,?_⟩⟩)
 rw[hnew];exact⟨.ref _,_,I.lnew (r.rep k.toNat) (by rw[zkj,Nat.mul_comm];exact hz),rfl,q _ I.fresh⟩
end
section
variable {prog:Program}{w:World}{A:Around}{E:Value->Shared->Prop}{s:Shared}
end
section
variable {X:Cx}
end
end L2
namespace Att
open PySem PySem.W PySem.Calls PyProof.Rows
theorem zb9:∀(ns) (vs),WellAll P h vs (ns.map WData.int)->IntsAre vs ns:=by
 intro ns
 induction ns with
 |nil =>
  intro vs w;cases w;exact .nil
 |cons n ns ih =>
  intro vs w;cases w with
  |cons a b =>
   cases a;exact .cons _ _ (ih _ b)
theorem zf2{l:OpenLaw}(hn:l.most=some n)
  (hpre:l.row.toRowW.claim.pre args=true) (hwl:WellAll P h vals args) :
  ∃a vs ns,vals=[Value.ref a]/\args=[WData.list (ns.map WData.int)]/\h.get? a=some { cls:=.type "list",data:=.seq vs.toArray }/\IntsAre vs ns/\ns.length<=n:=by
 have hsh :=(pre_splitW hpre).1;have hc:l.pre.holds [] { args:=args }=true:=(pre_splitW hpre).2;obtain⟨d,r,rfl,h1,h2⟩:=hasAllW_cons hsh;obtain rfl:=hasAllW_nil h2;obtain⟨xs,rfl,h3⟩:=hasW_list h1;obtain⟨ns,rfl⟩:=items_int h3
 have hlen:ns.length<=n:=by
  have h4:(WTm.not (.lt (.lit (.int n)) (.len (.arg 0)))).holds [] { args:=[.list (ns.map .int)] }=true:=by
   have h4:=(holds_andW hc).1
   grind
  have h5:=condW_of h4 (w_not (w_lt w_lit (w_len_list (w_arg rfl))))
  grind
 cases hwl with
 |cons w1 w2 =>
  cases w2;cases w1 with
  |list ho hall=>exact⟨_,_,ns,rfl,rfl,ho,zb9 ns _ hall,hlen⟩
theorem zf5(l:OpenLaw)(args):l.row.toRowW.claim.post args (.bool true) args=true :=
 postW_of
  (by rfl)
  (w_eq_bool (w_res rfl) w_lit) rfl
theorem attach_call{l:OpenLaw}
  (hn:l.most=some n) (hdf:d.params.defaults=[])
  (call : ∀ (w ) (s₀ s₁ ) (mg mb ) (fa ) (o ) (pm cd doc ) (a ) (vs ) (ns ),
   Ground q loose [] XP w s₀ mg mb s₁.heap->YP w s₁.heap ->
   s₁.heap.get? fa=some o->o.data=.func (docDef d.name d.params d.body d.scope pm cd doc)->s₁.heap.CodeRec cd d.name->mg d.name=some (.ref fa) ->
   s₁.heap.get? a=some { cls:=.type "list",data:=.seq vs.toArray }->IntsAre vs ns->ns.length<=n->s₁.gens=#[] ->
   codeAny (model l.prog w) callerA (.call (.ref fa) ⟨[.ref a],[]⟩) (λr s'=>r=.ok (.ret (.bool true))/\OldK s₁.heap s'.heap/\s'.os=s₁.os/\AllBare s'.gens) s₁) :
  WalkO q loose XP YP l.row.toRowW d [] (λf vs=>PySem.call f vs):=by
 intro w s₀ s₁ mg mb G Y fa o pm cd doc dV kV ho hd hcd hD hmg hg args vals as hpre hlay hrd hwl hlo;obtain rfl:dV=.none:=Dflts.none hD hdf;obtain rfl:kV=.none:=Dflts.noKw hD;obtain⟨a,vs,ns,rfl,rfl,hobj,hints,hlen⟩:=zf2 hn hpre hwl;refine enter_call (ye1 (call w s₀ s₁ mg mb fa o pm cd doc a vs ns G Y ho (fd_plain hd) hcd hmg hobj hints hlen hg) λr s' hq=>?_)
 obtain⟨rfl,h2,h3,h4⟩:=hq;exact⟨.inl ⟨.bool true,.bool true,[],rfl,λ_=>rfl,.bool true,zf5 l _,λ_=>⟨List.Pairwise.nil,λ_ hm=>(nomatch hm)⟩⟩,h2,h3,h4⟩
section
variable {prog:Program}{w:World}{A:Around}{E:Value->Shared->Prop}{s:Shared}{K:Frag}
end
end Att
namespace L2
open PySem PySem.Spec PyProof.Rows
theorem RP:∀{vs} {ns},IntsAre vs ns->AZ (ns.map V.int) vs
 |_,_,.nil=>.nil
 |_,_,.cons n t h=>.cons ⟨t,rfl⟩ (RP h)
def MP(H:Hp):Prop:=∀b,H b=none\/∃o xs,H b=some (.frz o (.lst xs))
theorem zhg   {K }   {k:Nat}   {x:Str}{sp:Sp}
  (KX:K.In s₁.heap) (hns:s₁.heap.Ns mainGlobals mg) (hb:s₁.heap.Ns builtinsNs mb) (hbb:∀x:Str,x≠"__name__"->mb x=bootBuiltins x) (hlim:s₁.heap.NoLimit) (hg:s₁.gens=#[])
  (ha:s₁.heap.get? a=some { cls:=.type "list",data:=.seq vs.toArray }) (hi:IntsAre vs ns) (hl:ns.length<=sizeLine) (hr:Room k callerA)
  (F:∀base:Heap,K.In base->base.Ns mainGlobals mg->FnOk P w K mg base CX k fa fd [x] sp) (hbind:∀(s:Shared) (u:Value),BindsTo s fd ⟨[u],[]⟩ [(x,u)])
  (hsp:∀H:Hp,MP H->A9 K H a (ns.map V.int)->sp [.ref a] H (λv _=>v=.bl true) λ_ _ _=>False)
  (hCX:∀H e s',CX [] H s₁ (λ_ _ _=>False) e s'->False) :
  codeAny (model P w) callerA (.call (.ref fa) ⟨[.ref a],[]⟩) (λr s'=>r=.ok (.ret (.bool true))/\OldK s₁.heap s'.heap/\s'.os=s₁.os/\AllBare s'.gens) s₁:=by
 have rv:=RP hi;have lenV:=hi.length
 have core:∀H ,MP H->A9 K H a (ns.map V.int)->HOk P w H s₁.heap->(∀b,H b≠none->b=a)->(H a≠none->K.lookup a=none) ->
   codeAny (model P w) callerA (.call (.ref fa) ⟨[.ref a],[]⟩) (λr s'=>r=.ok (.ret (.bool true))/\OldK s₁.heap s'.heap/\s'.os=s₁.os/\AllBare s'.gens) s₁:=by
  intro H hO hS hok hA hK;have base_of:∀{b } {o },s₁.heap.get? b=some o->H b=none->(Fq s₁.heap H).get? b=some o:=λe n=>zhm e n
  have noA:∀{b } {o } {es } {ep },s₁.heap.get? b=some o->o.data=.dict es ep->H b=none:=λ{b o es ep} e d=>by
   cases q:H b with
   |none=>rfl
   |some u =>
    have e' :=hA b (by rw[q];simp)
    subst e';rw[ha]at e;cases e;have d' :=d;cases d'
  have nsK:∀{b } {m },s₁.heap.Ns b m->(Fq s₁.heap H).Ns b m:=λ{b m} ⟨o,es,ep,e,d,r⟩=>⟨o,es,ep,base_of e (noA e d),d,r⟩
  have hKb :=λb o e=>base_of (KX b o e) (by
   cases q:H b with
   |none=>rfl
   |some u =>
    have e' :=hA b (by rw[q];simp)
    subst e';rw[hK (by rw[q];simp)]at e;cases e)
  have hM:Mod K mg (Fq s₁.heap H):=⟨hKb,nsK hns,⟨mb,nsK hb,hbb⟩,let ⟨mc,h1,h2⟩:=hlim;⟨mc,nsK h1,h2⟩⟩;have e0:Env0 P w K mg (Fq s₁.heap H) callerA [] s₁ H:=⟨rfl,hM,λb o e=>zk5 e,Nat.le_of_eq (zfl _ _),trivial,λb hb=>absurd (show b∈[] from hb) (by simp),hok,.of_eq hg⟩
  refine ye1 ((F _ hKb (nsK hns)).run callerA [] s₁ H ⟨[.ref a],[]⟩ [.ref a] [.ref a] _ _ hr e0 (hbind s₁ (.ref a)) (.cons rfl .nil) (hsp H hO hS)) λr s' h=>?_
  cases r with
  |error e=>exact(hCX H e s' h).elim
  |ok fl =>
   cases fl with
   |next=>exact False.elim h
   |brk=>exact False.elim h
   |cont=>exact False.elim h
   |ret u =>
    obtain⟨v,H',os,bare,un,hok',r',q⟩:=h;have q' :=q;subst q';obtain rfl:u=Value.bool true:=r';refine⟨rfl,OldK.of_keep λb o e=>?_,os,bare⟩
    cases q:H b with
    |none=>exact un.keep b o e q (by intro z;exact absurd (show b∈[] from z) (by simp)) (by simp)
    |some u =>
     rcases hO b with z|⟨ob,xs,z⟩
     .rw[q]at z;cases z
     .have z2:=un.frzs b ob _ z;obtain⟨e1,_⟩:=hok b _ z;obtain⟨e2,_⟩:=hok' b _ z2;rw[e]at e1;cases e1;exact e2
 cases hk:K.lookup a with
 |some o =>
  have e:=KX a o hk;rw[ha]at e;cases e;refine core (λ_=>none) (λ_=>.inl rfl) (.inr ⟨_,vs.toArray,_,hk,rfl,rfl,rfl,by rw[yb3,lenV];exact hl,by simpa using rv⟩) (λb u z=>by have z' :=z;cases z') (λb z=>absurd rfl z) λz=>absurd rfl z
 |none =>
  refine core (λb=>if b=a then some (.frz { cls:=.type "list",data:=.seq vs.toArray } (.lst (ns.map V.int))) else none) (λb=>?_) (.inl (.inr ⟨{ cls:=.type "list",data:=.seq vs.toArray },if_pos rfl⟩)) (λb u z=>?_) (λb z=>?_) λ_=>hk
  .by_cases hb:b=a
   .exact .inr ⟨_,_,if_pos hb⟩
   .exact .inl (if_neg hb)
  .by_cases hb:b=a
   .have z':=(if_pos hb).symm.trans z;cases z';subst hb;exact⟨ha,by rw[ya1];exact hl,vs,_,rv,ha⟩
   .have z':=(if_neg hb).symm.trans z;cases z'
  .by_cases hb:b=a
   .exact hb
   .exact absurd (if_neg hb) z
theorem walk_of{l:PySem.W.OpenLaw}{n k:Nat}     {d:DefRec}{K:Params->k6}{CX:World->EY}{sp:World->Sp}{x:Str}
  (hn:l.most=some n) (hn2:n<=sizeLine) (hdf:d.params.defaults=[]) (hr:Room k callerA)
  (hY:∀(w:World) (h:Heap),YP w h->(K w.params).In h)
  (F : ∀ (w : World) (mg ) (fa : Addr) (h : Heap), (K w.params).In h -> h.Ns mainGlobals mg -> mg d.name = some (.ref fa) ->
   ∃fd:FuncData,(∀(s:Shared) (u:Value),BindsTo s fd ⟨[u],[]⟩ [(x,u)]) /\
    ∀base:Heap,(K w.params).In base->base.Ns mainGlobals mg->FnOk l.prog w (K w.params) mg base (CX w) k fa fd [x] (sp w))
  (hsp:∀(w:World) (H:Hp) (a:Addr) (ns:List Int),ns.length<=n->MP H->A9 (K w.params) H a (ns.map V.int)->sp w [.ref a] H (λv _=>v=.bl true) λ_ _ _=>False)
  (hCX:∀(w:World) (H:Hp) (s:Shared) (e:Value) (s':Shared),CX w [] H s (λ_ _ _=>False) e s'->False) :
  PySem.W.WalkO q loose XP YP l.row.toRowW d [] (λf vs=>PySem.call f vs):=by
 refine Att.attach_call hn hdf λw s₀ s₁ mg mb fa o pm cd doc a vs ns G Y ho hd hcd hmg hobj hints hlen hg=>?_
 have KX:=hY w _ Y;obtain⟨fd,hb,hF⟩:=F w mg fa _ KX G.T.g hmg;exact zhg KX G.T.g G.T.b G.T.builtins G.T.nolimit hg hobj hints (yak hlen hn2) hr hF hb (λH hO hS=>hsp w H a ns hlen hO hS) λH e s'=>hCX w H s₁ e s'
def Hh(s:Stmt):Arguments:=match s with
 |.FunctionDef _ a _ _ _ _ _ _ _ _=>a
 |_=>{ posonlyargs:=[],args:=[],vararg:=none,kwonlyargs:=[],kw_defaults:=[],kwarg:=none,defaults:=[] }
def Dx(s:Stmt):List Stmt:=match s with
 |.FunctionDef _ _ b _ _ _ _ _ _ _=>b
 |_=>[]
noncomputable def Bl(s:Stmt):Scope:=match s with
 |.FunctionDef _ _ _ _ _ _ sc _ _ _=>sc
 |_=>{ kind:=.function,names:=[],isGenerator:=false,isCoroutine:=false }
abbrev EZ:EY:=λ_ _ _ _ _ _=>False
abbrev E0:XK:=λ_ _ _=>False
theorem pass0{X:Cx}:Qi EZ X E0:=λ_ _ _ _ _ _ _ h=>h.elim
structure Fun(K:k6)(x qual:Str)(st:Stmt)(f:Addr)(fd:FuncData):Prop where
 ex:∃(oc:Value) (od:Option Addr) (kV doc pm:Value) (an:Option Addr) (cdv ct:Value) (osl:Array (Option Value)),
  fd=PySem.W.fnOf x qual (Hh st) (Dx st) (Bl st) .none kV doc pm an cdv ct/\K.lookup f=some ⟨oc,od,.func fd,osl⟩/\PySem.W.codeIn K cdv qual=true
 kp:PySem.W.keepIn K (.ref f)=true
section
variable {P:Program}{w:World}{K:k6}{mg:Str->Option Value}{base:Heap}
theorem Fun.ok  {st }      (F:Fun K x qual st f fd)(S:FnScope N ps (Bl st))(len:∀vs H Q E,sp vs H Q E->vs.length=ps.length)
  (hbody : ∀ (cdv ) (A ) (outer ) (s ) (H ) (vs ) (Q ) (E ), Room k (A.deeper (envOfC qual (Bl st) s.heap.objs.size f cdv)) -> sp vs H Q E ->
   ∃t,BI (Dz EZ P w K mg base N qual (Bl st) f cdv A outer s H E).nox (Dx st) t/\t { nx:=λ_ H'=>Q .non H',rt:=Q } (start N vs) H):FnOk P w K mg base EZ (k+1) f fd ps sp:=by
 obtain⟨oc,od,kV,doc,pm,an,cdv,ct,osl,rfl,lk,hcd⟩:=F.ex;refine PX lk hcd S len λA outer s H vs Q E hr hsp=>?_
 obtain⟨t,h,q⟩:=hbody cdv A outer s H vs Q E hr hsp;exact⟨t,h.nox,q⟩
theorem Fun.binds  {st }    (F:Fun K x qual st f fd)
  (h:∀(kV doc pm ) (an ) (cdv ct ) (us ),us.length=ps.length->bindArgs (PySem.W.fnOf x qual (Hh st) (Dx st) (Bl st) .none kV doc pm an cdv ct) ⟨us,[]⟩=pure (ps.zip us)):Bx K fd ps []:=by
 obtain⟨oc,od,kV,doc,pm,an,cdv,ct,osl,rfl,lk,hcd⟩:=F.ex;exact .all (h kV doc pm an cdv ct)
end
theorem zf1{n:Nat}(h:n<=1000):n<sizeLine:=Nat.lt_of_le_of_lt h (by decide)
section
variable {X:Cx}
theorem pv(i:Nat){x:Str}{pos:Pos}(hN:X.N[i]?=some x:=by rfl)(hv:C8 X.env.scope x:=by rfl)(hd:(x == ("__debug__":Str))=false:=by decide)
  (hcd:(x == ("__classdict__":Str))=false:=by decide):PE X (.Name x pos) (Mi i):=E5 hN hv hd hcd
end
theorem JL{A B:Prop}(h:B):if false=true then A else B:=by
 grind
theorem JK{A B:Prop}(h:A):if true=true then A else B:=by
 rw[if_pos rfl];exact h
def A2(H H':Hp):Prop:=∀b o,H b=some o->H' b=some o
theorem A2.refl(H:Hp):A2 H H:=λ_ _ h=>h
theorem A2.trans(a:A2 H H1)(b:A2 H1 H2):A2 H H2:=λc o h=>b c o (a c o h)
theorem A2.free(e:A2 H H')(h:H' l=Option.none):H l=Option.none:=by
 cases q:H l with
 |none=>rfl
 |some o =>
  rw[e l o q]at h;cases h
theorem A2.seq{K}(e:A2 H H')(h:A9 K H a xs):A9 K H' a xs:=by
 rcases h with (h|⟨o,h⟩)|h
 .exact .inl (.inl (e _ _ h))
 .exact .inl (.inr ⟨o,e _ _ h⟩)
 .exact .inr h
section
variable {κ:Type} [DecidableEq κ]
noncomputable def DE(kvs:List (κ×V))(k:κ):Option V:=(kvs.find? λkv=>decide (kv.1=k)).map (·.2)
noncomputable def DG(kvs:List (κ×V))(k:κ)(v:V):List (κ×V) :=
 if (kvs.any λkv=>decide (kv.1=k))=true then kvs.map (λkv=>if kv.1=k then (kv.1,v) else kv) else kvs++[(k,v)]
def ZD(kvs:List (κ×V))(k:κ):List (κ×V):=kvs.filter λkv=>decide (kv.1≠k)
theorem KA{k:κ}(e:p.1=k):DE (p::r) k=some p.2:=by simp[DE,e]
theorem KC{k:κ}(e:¬ p.1=k):DE (p::r) k=DE r k:=by simp[DE,e]
theorem RR(k:κ):∀kvs ,(kvs.any λkv=>decide (kv.1=k))=(DE kvs k).isSome
 |[]=>rfl
 |p::r=>by
  rw[ycu]
  by_cases e:p.1=k
  .simp only[KA e,ye6 e,Bool.true_or,Option.isSome_some]
  .rw[KC e,ydp e];exact RR k r
theorem XA(kvs)(k:κ)(v):(DG kvs k v).length<=kvs.length+1:=by
 unfold DG
 grind
theorem Cm.isSome_eq(r:Cm o u):o.isSome=u.isSome:=by
 cases o with
 |none=>cases u with
  |none=>rfl
  |some _=>exact(r).elim
 |some _=>cases u with
  |none=>exact(r).elim
  |some _=>rfl
theorem Cm.getD(r:Cm o u)(rd:A3 d d'):A3 (o.getD d) (u.getD d'):=by
 cases o with
 |none=>cases u with
  |none=>exact rd
  |some _=>exact(r).elim
 |some _=>cases u with
  |none=>exact(r).elim
  |some _=>exact r
theorem KV.val   (r:KV kvs vs)(k:κ):Cm (DE kvs k) (valueAt vs k):=by
 induction r with
 |nil=>exact True.intro
 |@cons p q ps qs h t ih =>
  obtain⟨h1,h2⟩:=h
  by_cases e:p.1=k
  .have e' :=h1.symm.trans e;have b:valueAt (q::qs) k=some q.2:=by simp[valueAt,e']
   rw[KA e,b];exact h2
  .have e':¬ q.1=k:=λz=>e (h1.trans z)
   have b:valueAt (q::qs) k=valueAt qs k:=by simp[valueAt,e']
   rw[KC e,b];exact ih
theorem KV.any(r:KV kvs vs)(k:κ):(kvs.any λkv=>decide (kv.1=k))=vs.any λkv=>decide (kv.1=k):=by
 induction r with
 |nil=>rfl
 |cons h t ih=>grind
theorem KV.repl(r:KV kvs vs)(k:κ)(ry:A3 y u) :
  KV (kvs.map λkv=>if kv.1=k then (kv.1,y) else kv) (vs.map λkv=>if kv.1=k then (kv.1,u) else kv):=by
 induction r with
 |nil=>exact .nil
 |@cons p q ps qs h t ih =>
  refine .cons ?_ ih
  grind
theorem KV.put(r:KV kvs vs)(k:κ)(ry:A3 y u):KV (DG kvs k y) (stored vs k u):=by
 unfold DG stored;rw[r.any k]
 by_cases e:(vs.any λkv=>decide (kv.1=k))=true
 .rw[if_pos e,if_pos e];exact r.repl k ry
 .rw[if_neg e,if_neg e];exact Paired.snoc r ⟨rfl,ry⟩
theorem KV.drop(r:KV kvs vs)(k:κ):KV (ZD kvs k) (without vs k):=by
 unfold ZD without
 induction r with
 |nil=>exact .nil
 |@cons p q ps qs h t ih =>
  obtain⟨h1,h2⟩:=h;rw[ydj,ydj]
  by_cases e:p.1=k
  .grind
  .have e':¬ q.1=k:=λz=>e (h1.trans z)
   have a:decide (p.1≠k)=true:=by simp[e]
   have b:decide (q.1≠k)=true:=by simp[e']
   rw[if_pos a,if_pos b];exact .cons ⟨h1,h2⟩ ih
theorem KV.length{kvs:List (κ×V)}(r:KV kvs vs):kvs.length=vs.length:=ydg r
end
theorem Ou(r:A3 (kV k) u):(Ci P w).is k u=true:=by
 cases k with
 |inl i=>obtain⟨t,e⟩:=(r);subst e;exact zdf P w i t
 |inr x=>obtain⟨t,e⟩:=(r);subst e;exact zde P w x t
theorem X2:∀{ks} {us},AZ (ks.map kV) us->ItemsAre (Ci P w) ks us
 |[],_,r=>by cases r;exact .nil
 |k::ks,_,r=>by
  cases r with
  |cons h t=>exact .cons (Ou h) (X2 t)
abbrev KT(H:Hp):List (List Key×V)->List (List Key×Addr×Value)->Prop:=Paired λp q=>p.1=q.1/\H q.2.1=some (.tup (p.1.map kV))/\A3 p.2 q.2.2
theorem KT.val(r:KT H kvs xs)(k):Cm (DE kvs k) ((atKey xs k).map (·.2)):=by
 induction r with
 |nil=>exact True.intro
 |@cons p q ps qs h t ih =>
  obtain⟨h1,_,h2⟩:=h
  by_cases e:p.1=k
  .have e' :=h1.symm.trans e;have b:atKey (q::qs) k=some q.2:=by simp[atKey,e']
   rw[KA e,b];exact h2
  .have e':¬ q.1=k:=λz=>e (h1.trans z)
   have b:atKey (q::qs) k=atKey qs k:=by simp[atKey,e']
   rw[KC e,b];exact ih
theorem KT.repl(r:KT H kvs xs)(k)(ry:A3 y u) :
  KT H (kvs.map λkv=>if kv.1=k then (kv.1,y) else kv) (xs.map (putAt k u)):=by
 induction r with
 |nil=>exact .nil
 |@cons p q ps qs h t ih =>
  refine .cons ?_ ih;unfold putAt
  grind
theorem KT.put{H:Hp}(r:KT H kvs xs)(k:List Key){y:V}(hb:H b=some (.tup (k.map kV)))(ry:A3 y u) :
  KT H (DG kvs k y) (storedH xs k b u):=by
 have e:(kvs.any λkv=>decide (kv.1=k))=(atKey xs k).isSome:=by
  rw[RR,(r.val k).isSome_eq,Option.isSome_map]
 unfold DG storedH;rw[e]
 by_cases q:(atKey xs k).isSome=true
 .rw[if_pos q,if_pos q];exact r.repl k ry
 .rw[if_neg q,if_neg q];exact Paired.snoc r ⟨rfl,hb,ry⟩
theorem KT.keeps(r:KT H kvs xs)(ht:∀b ys,H b=some (.tup ys)->H' b=some (.tup ys)):KT H' kvs xs :=
 Paired.mapP r λ_ _ z=>⟨z.1,ht _ _ z.2.1,z.2.2⟩
section
variable {P:Program}{w:World}{H:Hp}{h:Heap}{a:Addr}
theorem UL{u:HO}(ok:HOk P w H h)(e:Rd H a u):CN P w H h a u:=e.ok ok
theorem ZF(ok:HOk P w H h)(e:Rd H a (.dK kvs)):kvs.length<=sizeLine/\(a == sysModules)=false/\∃vs,KV kvs vs/\h.DictOf (Ci P w) a vs :=
 UL ok e
theorem ZG(ok:HOk P w H h)(e:H a=some (.dK kvs)):kvs.length<=sizeLine/\(a == sysModules)=false/\∃vs,KV kvs vs/\h.DictOf (Ci P w) a vs:=ZF ok (.inl e)
theorem Ot  (ok:HOk P w H h)(e:H a=some (.tup (ks.map kV))):(tupleKind (Ci P w)).is h ks a:=by
 obtain⟨_,its,r,o,h1,h2,n,h3⟩:=(ok a _ e);exact⟨o,its.toArray,n,h1,h2,h3,by simpa using X2 r⟩
theorem ZC(ok:HOk P w H h)(e:Rd H a (.dT kvs)):kvs.length<=sizeLine/\(a == sysModules)=false /\
  ∃xs,KT H kvs xs/\h.DictOfH (tupleKind (Ci P w)) a xs:=by
 obtain⟨z,y,xs,r,o,es,ep,h1,h2,h3,h4,h5⟩:=(UL ok e);refine⟨z,y,xs,r,o,es,ep,h1,h2,h3,h4,λx hx=>?_,h5⟩
 have all:∀{l } {m },KT H l m->∀x∈m,(tupleKind (Ci P w)).is h x.1 x.2.1:=by
  intro l m q
  induction q with
  |nil=>simp
  |@cons p q ps qs hq t ih =>
   intro x hx
   rcases(yaa.mp hx) with e|hx
   .exact Ot ok (by grind)
   grind
 grind
theorem dt_of(ok:HOk P w H h)(e:H a=some (.dT kvs)):kvs.length<=sizeLine/\(a == sysModules)=false /\
  ∃xs,KT H kvs xs/\h.DictOfH (tupleKind (Ci P w)) a xs:=ZC ok (.inl e)
end
def IH(H:Hp)(a:Addr)(y:V)(r:Option V):Prop :=
 (∃kvs k,Rd H a (.dK kvs)/\y=kV k/\r=DE kvs k)\/∃kvs k b,Rd H a (.dT kvs)/\y=.ref b/\H b=some (.tup (k.map kV))/\r=DE kvs k
def IG(H:Hp)(a:Addr)(y v:V)(H':Hp):Prop :=
 (∃kvs k,H a=some (.dK kvs)/\y=kV k/\kvs.length<sizeLine/\H'=upd H a (.dK (DG kvs k v))) \/
 ∃kvs k b,H a=some (.dT kvs)/\y=.ref b/\H b=some (.tup (k.map kV))/\kvs.length<sizeLine/\H'=upd H a (.dT (DG kvs k v))
theorem IH.k{k}(e:H a=some (.dK kvs)):IH H a (kV k) (DE kvs k):=.inl ⟨kvs,k,.inl e,rfl,rfl⟩
theorem IH.t{k}(e:H a=some (.dT kvs))(eb:H b=some (.tup (k.map kV))):IH H a (.ref b) (DE kvs k):=.inr ⟨kvs,k,b,.inl e,rfl,eb,rfl⟩
theorem IG.k{k}(e:H a=some (.dK kvs))(hl:kvs.length<sizeLine):IG H a (kV k) v (upd H a (.dK (DG kvs k v))):=.inl ⟨kvs,k,e,rfl,hl,rfl⟩
theorem IG.t{k}(e:H a=some (.dT kvs))(eb:H b=some (.tup (k.map kV)))(hl:kvs.length<sizeLine) :
  IG H a (.ref b) v (upd H a (.dT (DG kvs k v))):=.inr ⟨kvs,k,b,e,rfl,eb,hl,rfl⟩
section
variable {X:Cx}{pins:List (Addr×Obj)}{σ:St}{H:Hp}{s:Shared}{a:Addr}{y v:V}{u r:Value}{o:Option V}{A:Around}{E:Value->Shared->Prop}
theorem Inv.big(I:Inv X pins σ H s):sysModules<s.heap.objs.size:=by
 have h :=(I.mod.glob.keeps I.bk).lt;exact ycg (by decide) h
theorem zfx  (hu:A.units+1<cLine)(I:Inv X pins σ H s)(g:IH H a y (some v))(ry:A3 y u)(h:∀w' s',Inv X pins σ H s'->A3 v w'->Q w' s') :
  wpAny (model X.prog X.w) A (getItem (.ref a) u) Q E s:=by
 rcases g with ⟨kvs,k,e,ey,l⟩|⟨kvs,k,b,e,ey,eb,l⟩
 .subst ey;obtain⟨z,hd,vs,rel,dd⟩:=ZF I.hok e;obtain⟨w',hw,rw'⟩:=Cm.some_of (by rw[l];exact rel.val k)
  exact wpAny_getItem_of (Ou ry) dd.mapOf hw (h w' _ (I.tok _) rw')
 .subst ey;cases (ry);obtain⟨z,hd,xs,rel,dd⟩:=ZC I.hok e;obtain⟨w',hw,rw'⟩:=Cm.some_of (by rw[l];exact rel.val k)
  obtain⟨p,hp,hp2⟩:=yad.mp hw;refine wpAny_getItem_heap (tupleKind_room_in1 hu) (Ot I.hok eb) dd hp ?_;rw[hp2];exact h w' _ (I.tok _) rw'
theorem ZK    (I:Inv X pins σ H s)(mu:Jn (H a))(hs:Heap.SameBut a s.heap h')(he:∃q,h'.get? a=some q)(new:CN X.prog X.w (upd H a ob) h' a ob) :
  Inv X pins σ (upd H a ob) { s with heap:=h',toks:=t' } :=
 I.write mu (.inl rfl) (λb q hb z=>(hs.2 b hb).trans z) he new
theorem zoo(z:kvs.length<=sizeLine)(hd:(a == sysModules)=false)(rel:KV kvs vs)(dd:h'.DictOf (Ci P w) a vs) :
  CN P w H' h' a (.dK kvs):=⟨z,hd,vs,rel,dd⟩
theorem zfw   (hu:A.units+1<cLine)(I:Inv X pins σ H s)(g:IG H a y v H')(ry:A3 y u)(rv:A3 v r)(h:∀s',Inv X pins σ H' s'->Q () s') :
  wpAny (model X.prog X.w) A (setItem (.ref a) u r) Q E s:=by
 rcases g with ⟨kvs,k,e,ey,l,eH⟩|⟨kvs,k,b,e,ey,eb,l,eH⟩
 .subst ey eH;obtain⟨z,hd,vs,rel,dd⟩:=ZG I.hok e;have hz:vs.length<=sizeLine:=by rw[<- rel.length];exact z
  have hl:(DG kvs k v).length<=sizeLine:=by have:=XA kvs k v;omega
  refine wpAny_setItem_pairs (Ou ry) dd λh' dd' hs=>h _ ?_
  have he:∃q,h'.get? a=some q:=let ⟨q,_,_,hq,_⟩:=dd';⟨q,hq⟩;exact ZK I (by rw[e];exact True.intro) hs he (zoo hl hd (rel.put k rv) dd')
 .subst ey eH;cases (ry);obtain⟨z,hd,xs,rel,dd⟩:=dt_of I.hok e;have hz:xs.length<=sizeLine:=by rw[<- ydg rel];exact z
  have hl:(DG kvs k v).length<=sizeLine:=by have:=XA kvs k v;omega
  refine wpAny_setItem_heap (tupleKind_room_in1 hu) (Ot I.hok eb) dd λh' dd' hs=>h _ ?_
  obtain⟨q,es,ep,hq,h2,h3,h4,_,h5⟩:=dd';refine ZK I (by rw[e];exact True.intro) hs ⟨q,hq⟩ ⟨hl,hd,_,(rel.put k eb rv).keeps λc ys ec=>?_,q,es,ep,hq,h2,h3,h4,h5⟩
  rw[Ak (ne_of ec e (λz=>nomatch z))]
  exact ec
end
section
variable {X:Cx}{pins:List (Addr×Obj)}{σ:St}{H:Hp}{s:Shared}{a:Addr}{kvs:List (Key×V)}{k:Key}{u:Value}{A:Around}{E:Value->Shared->Prop}
end
section
variable {X:Cx}{o i e value:Expr}{pos pos' tpos:Pos}{td ty tv:TE}
end
theorem zi0(h:Heap)(hb:sysModules<h.objs.size):CN P w H (h.push { cls:=.type "dict",data:=.dict #[]}) h.objs.size (.dK []) :=
 ⟨ybg _,beq_eq_false_iff_ne.mpr (yao (yaf hb)),[],.nil,Heap.DictOf.new h⟩
section
variable {X:Cx}{pos:Pos}
end
section
variable {X:Cx}{pins:List (Addr×Obj)}{σ:St}{H:Hp}{s:Shared}{a:Addr}{y d:V}{u r:Value}{o:Option V}{A:Around}{E:Value->Shared->Prop}
end
section
variable {X:Cx}{o e f:Expr}{apos cpos:Pos}{td ty tx:TE}
end
section
variable {X:Cx}{pins:List (Addr×Obj)}{σ:St}{H:Hp}{s:Shared}{a:Addr}{kvs:List (Key×V)}{A:Around}{E:Value->Shared->Prop}
end
section
variable {X:Cx}{pins:List (Addr×Obj)}{σ:St}{H:Hp}{s:Shared}{a:Addr}{y:V}{u:Value}{A:Around}{E:Value->Shared->Prop}
end
end L2
namespace Zm
theorem zhy(a b):Int.gcd b (a.fmod b)=Int.gcd a b:=by
 rw[Int.fmod_def,Int.gcd_comm a b];simp
theorem fmod_less(a:Int)(h:b≠0):(a.fmod b).natAbs<b.natAbs:=by
 rcases Int.lt_or_gt_of_ne h with hb|hb
 .have e:a.fmod b=-((-a).fmod (-b)):=by simp
  have h1:=yc1 (-a) (show 0 < -b by omega)
  have h2:=ydb (-a) (show 0 < -b by omega)
  omega
 .have h1:=yc1 a hb;have h2:=ydb a hb
  omega
noncomputable def gd(a b:Int):Int:=(Int.gcd a b:Nat)
theorem gd_turn(hg:gd a b=gd a0 b0):gd b (a.fmod b)=gd a0 b0:=by
 rw[<- hg];unfold gd;rw[zhy]
theorem gd_abs(a b):gd (if a<0 then -a else a) (if b<0 then -b else b)=gd a b:=by
 unfold gd
 have e1:Int.gcd (if a<0 then -a else a) (if b<0 then -b else b)=Int.gcd a b:=by
  split<;>split<;>simp[Int.gcd_neg]
 rw[e1]
theorem gd_pos{a b:Int}(h:b≠0):0<gd a b:=by
 unfold gd
 simp_all
theorem gd_le(h:0<b):gd a b<=b:=by
 exact Int.le_of_dvd h (Int.gcd_dvd_right a b)
def lt(t b:Int):Int:=t.fdiv (gd t b)
def lb(t b:Int):Int:=b.fdiv (gd t b)
theorem Yo{x g:Int}(hg:g≠0)(h:g ∣ x):x.fdiv g * g=x:=by
 rw[ybm];exact Int.mul_fdiv_cancel' h
theorem lt_mul(h:b≠0):lt t b * gd t b=t:=by
 exact Yo (by have:=gd_pos (a:=t) h;omega) (Int.gcd_dvd_left t b)
theorem lb_mul(h:b≠0):lb t b * gd t b=b:=by
 exact Yo (by have:=gd_pos (a:=t) h;omega) (Int.gcd_dvd_right t b)
theorem lb_pos(h:0<b):0<lb t b:=by
 have h1:=lb_mul (t:=t) (show b≠0 by omega)
 have h2:=gd_pos (a:=t) (show b≠0 by omega)
 rcases yd4 0 (lb t b) with q|q
 .exact q
 .have:=Int.mul_nonpos_of_nonpos_of_nonneg q (ych h2)
  omega
theorem zeu{x g:Int}(h:0<g):x.natAbs<=(x * g).natAbs:=by
 rw[Int.natAbs_mul];exact Nat.le_mul_of_pos_right _ (by omega)
theorem lb_le(h:0<b):lb t b<=b:=by
 have h1:=lb_mul (t:=t) (show b≠0 by omega)
 have h2:=zeu (x:=lb t b) (gd_pos (a:=t) (show b≠0 by omega))
 grind
def sg(t b:Int):Int:=if b<0 then -(gd t b) else gd t b
end Zm
namespace Zw
open PySem PySem.Spec PyProof.Rows L2
def Sm(i:Int):Prop:=-(10 ^ 70)<i/\i<10 ^ 70
theorem Sm.nat{i:Int}(h:Sm i):i.natAbs<10 ^ 70:=by
 unfold Sm at h
 omega
theorem zmr:10 ^ 70<=2 ^ 300:=by decide +kernel
theorem Sm.log(h:Sm i):i.natAbs.log2<300:=by
 by_cases z:i.natAbs=0
 .simp_all
 .exact(Nat.log2_lt z).mpr (yac h.nat zmr)
theorem Sm.bits(h:Sm i):Builtin.Int.intBits i<=2 ^ 20:=by
 have q:=h.log;unfold Builtin.Int.intBits
 grind
theorem Sm.of{i:Int}(h1:-(10 ^ 70)<i)(h2:i<10 ^ 70):Sm i:=⟨h1,h2⟩
theorem Sm.abs(h:i.natAbs<=m)(hm:m<10 ^ 70):Sm i:=by
 constructor<;>omega
section
variable {X:Cx}
theorem zjw:Ab X (binaryOp .Mult) (rI (λi j=>Sm i/\Sm j) λi j=>.int (i * j)):=Ij λ_ _ _ _ _ _ _ hc q=>mul_int q (.of_bits hc.1.bits hc.2.bits)
theorem zh3:Ab X (binaryOp .FloorDiv) (rI (λ_ j=>j≠0/\Sm j) λi j=>.int (i.fdiv j)) :=
 Ij λ_ _ _ _ _ _ _ hc q=>floordiv_int hc.1 q (.inl (PyProof.noPylong_of_log2 (ycg hc.2.log (by decide))))
theorem X4(r:A3 x v):PySem.plainIs v (.bool b)=true/\(v == Value.bool b)=decide (x=V.bl b):=by
 cases x with
 |non=>cases r;exact⟨rfl,by simp⟩
 |bl c=>cases r;exact⟨rfl,by grind⟩
 |int i=>obtain⟨t,rfl⟩:=r;exact⟨rfl,by simp⟩
 |str i=>obtain⟨t,rfl⟩:=r;exact⟨rfl,by simp⟩
 |byt i=>obtain⟨t,rfl⟩:=r;exact⟨rfl,by simp⟩
 |flt i=>obtain⟨t,rfl⟩:=r;exact⟨rfl,by simp⟩
 |ref i=>cases r;exact⟨rfl,by simp⟩
 |ty i=>cases r;exact⟨rfl,by simp⟩
theorem zn9:Ab X (compareOp .Is) (λx y H Q=>∃b,y=.bl b/\Q (.bl (decide (x=.bl b))) H):=by
 intro pins s σ H x y v u Q I rx ry h;obtain⟨b,rfl,q⟩:=h;cases ry;obtain⟨e1,e2⟩:=X4 rx;exact wpAny_is_plain e1 (JR I q e2.symm)
theorem zjv:Ab X (compareOp .IsNot) (λx y H Q=>∃b,y=.bl b/\Q (.bl (!decide (x=.bl b))) H):=by
 intro pins s σ H x y v u Q I rx ry h;obtain⟨b,rfl,q⟩:=h;cases ry;obtain⟨e1,e2⟩:=X4 rx;exact wpAny_isNot_plain e1 (JR I q (by rw[e2]))
theorem zic :Bb X (.builtin "isinstance") (λxs H Q=>∃x t b,xs=[x,.ty c]/\TyOf X.K H x t/\PySem.W.kitOne X.K t (.type c)=some b/\Q (.bl b) H):=by
 intro pins s σ H xs us Q I r h;obtain⟨x,t,b,rfl,ty,e,q⟩:=h;obtain⟨u,w',rfl,rx,ry⟩:=GH r;cases ry;exact Oy I rx ty e λtk=>⟨.bl b,H,I.tok _,rfl,q⟩
end
section
variable {X:Cx}
end
section
variable {X:Cx}{pos:Pos}
end
section
variable {X:Cx}
end
theorem zdh:PySem.W.kitMeta "int"=true:=by decide +kernel
theorem zck:PySem.W.kitMeta "bool"=true:=by decide +kernel
theorem zc2:PySem.W.kitMeta "tuple"=true:=by decide +kernel
theorem zhi(K)(c):PySem.W.kitOne K (.type c) (.type c)=some true:=by
 unfold PySem.W.kitOne;simp
theorem zo0(K){l:List Value}(h:t≠c)(hm:PySem.W.kitMeta c=true)(hl:(fastBuiltinMro t).map (·.contains (Value.type c))=some b):PySem.W.kitOne K (.type t) (.type c)=some b:=by
 unfold PySem.W.kitOne;rw[if_neg (by simpa using h)]
 show(if PySem.W.kitMeta c=true then PySem.W.subIn K (.type t) (.type c) else none)=some b
 rw[if_pos hm];exact hl
inductive Known(H:Hp):V->Prop where
 |non:Known H .non
 |bl (b:Bool):Known H (.bl b)
 |int (i:Int):Known H (.int i)
 |str (x:Str):Known H (.str x)
 |lst {p:Addr} {xs:List V} (e:H p=some (.lst xs)):Known H (.ref p)
 |tup {p:Addr} {xs:List V} (e:H p=some (.tup xs)):Known H (.ref p)
 |dic {p:Addr} {kvs:List (Key×V)} (e:H p=some (.dK kvs)):Known H (.ref p)
theorem Known.same(h:Known H x)(s:A2 H H'):Known H' x:=by
 cases h with
 |non=>exact .non
 |bl b=>exact .bl b
 |int i=>exact .int i
 |str y=>exact .str y
 |lst e=>exact .lst (s _ _ e)
 |tup e=>exact .tup (s _ _ e)
 |dic e=>exact .dic (s _ _ e)
structure FunD(K:k6)(x qual:Str)(st:Stmt)(f:Addr)(fd:FuncData):Prop where
 ex:∃(oc:Value) (od:Option Addr) (dV kV doc pm:Value) (an:Option Addr) (cdv ct:Value) (osl:Array (Option Value)),
  fd=PySem.W.fnOf x qual (Hh st) (Dx st) (Bl st) dV kV doc pm an cdv ct/\K.lookup f=some ⟨oc,od,.func fd,osl⟩/\PySem.W.codeIn K cdv qual=true
 kp:PySem.W.keepIn K (.ref f)=true
theorem FunD.ok{K}{st}(F:FunD K x qual st f fd)(S:FnScope N ps (Bl st))(len:∀vs H Q E,sp vs H Q E->vs.length=ps.length)
  (hbody : ∀ (cdv ) (A ) (outer ) (s ) (H ) (vs ) (Q ) (E ), Room k (A.deeper (envOfC qual (Bl st) s.heap.objs.size f cdv)) -> sp vs H Q E ->
   ∃t,BI (Dz EZ P w K mg base N qual (Bl st) f cdv A outer s H E).nox (Dx st) t/\t { nx:=λ_ H'=>Q .non H',rt:=Q } (start N vs) H):FnOk P w K mg base EZ (k+1) f fd ps sp:=by
 obtain⟨oc,od,dV,kV,doc,pm,an,cdv,ct,osl,rfl,lk,hcd⟩:=F.ex;refine PX lk hcd S len λA outer s H vs Q E hr hsp=>?_
 obtain⟨t,h,q⟩:=hbody cdv A outer s H vs Q E hr hsp;exact⟨t,h.nox,q⟩
theorem zkv{K}{st}{dV kV doc pm cdv ct}(l:K.lookup f=some ⟨oc,od,.func (PySem.W.fnOf x qual (Hh st) (Dx st) (Bl st) dV kV doc pm an cdv ct),osl⟩)
  (c:PySem.W.codeIn K cdv qual=true) (k:PySem.W.keepIn K (.ref f)=true):FunD K x qual st f (PySem.W.fnOf x qual (Hh st) (Dx st) (Bl st) dV kV doc pm an cdv ct):=⟨⟨oc,od,dV,kV,doc,pm,an,cdv,ct,osl,rfl,l,c⟩,k⟩
structure Tx(K:k6)(mg:Str->Option Value)(x:Str)(st:Stmt)(ps:List Str) where
 f:Addr
 fd:FuncData
 F:FunD K x x st f fd
 m:mg x=some (.ref f)
 b:Bx K fd ps []
structure Def(P:Program)(w:World)(K:k6)(mg:Str->Option Value)(base:Heap)(k:Nat)(x:Str)(ps:List Str)(sp:Sp) where
 f:Addr
 fd:FuncData
 ok:FnOk P w K mg base EZ k f fd ps sp
 m:mg x=some (.ref f)
 kp:PySem.W.keepIn K (.ref f)=true
 b:Bx K fd ps []
section
variable {X:Cx}{k j:Nat}{x:Str}{ps:List Str}{sp:Sp}{p pos:Pos}{e:Expr}{es:List Expr}{t:TA}
theorem pd(D:Def X.prog X.w X.K X.mg X.base k x ps sp)(hr:Room j X.A)(ha:PA X (e::es) t)(hk:k<=j:=by decide)(hg:Gl X x:=by rfl)(hdb:(x == "__debug__")=false:=by decide)
  (he:starEach (e::es) X.env=(false,eval e X.env)::starEach es X.env:=by rfl) (hpl:(backTo pos (starEach es X.env)).any (·.1)=false:=by rfl) :
  PE X (.Call (.Name x p) (e::es) [] pos) (Rx sp [] E0 t):=zjr D.ok (hr.mono hk) hg D.m D.kp D.b .nil pass0 ha hdb he hpl
end
theorem K0(h:H p=none)(o):A2 H (upd H p o):=λb u q=>by
 rw[Ak (Bi q h)];exact q
def Jr(H:Hp)(p:Addr)(a b:Int):Prop:=H p=some (.tup [.int a,.int b])
theorem Jr.same(h:Jr H p a b)(s:A2 H H'):Jr H' p a b:=s _ _ h
theorem Jr.new:Jr (upd H p (.tup [.int a,.int b])) p a b:=Bd
theorem sz{n:Nat}(h:n<=1000:=by exact Nat.le_of_ble_eq_true rfl):n<=sizeLine:=yd2 (zf1 h)
noncomputable def zor(X:Cx)(scope:Scope)(cl:List (Str×Addr))(N':List Str)(C:Addr)(s₀:Shared)(H₀:Hp)(ex:List Addr):Cx :=
 { X with N:=N',s₀:=s₀,H₀:=H₀,env:=compEnvC scope cl C X.env,outer:=X.stack,ex:=ex,fn:=λ_=>false,xe:=λ_ _=>False }
theorem HOk.adopt(x:HOk P w H h)(hn:H a=none)(new:CN P w (upd H a o) h a o):HOk P w (upd H a o) h:=λb u e=>by
 by_cases hb:b=a
 .subst hb;rw[Bd]at e
  grind
 .rw[Ak hb]at e;exact(x b u e).stay (λc v _ q=>q) (λc q=>by rw[Ak (Bi q hn)];exact q) λc xs q=>by rw[Ak (Bi q hn)];exact q
section
variable {X:Cx}{elt iter tg:Expr}{scope:Scope}{pos:Pos}{cl:List (Str×Addr)}{N':List Str}{wi:TI}{g:TG}{te:TE}
end
end Zw
namespace Zx
open PySem PySem.Spec PyProof.Rows L2 Zw
def Lm(h B:Heap)(a:Addr)(cls:Value×Option Addr)(fl:Value):Prop :=
 ∃oe vs T oT ts,h.get? a=some oe/\((oe.cls,oe.dict)=cls/\vs[2]?=some .none)/\oe.data=.fields vs/\vs[1]?=some (.ref T)/\B.get? T=none/\T≠a/\h.get? T=some oT/\oT.data=.fields ts/\ts[3]?=some fl
def EX(B:Heap)(l:List Env)(a:Addr)(cls:Value×Option Addr)(h:Heap):Prop:=B.StaysIn h/\B.get? a=none/\h.FunFrames B l/\Lm h B a cls .none
def Qt(B:Heap)(l:List Env)(a:Addr)(cls:Value×Option Addr)(L:Addr)(h:Heap):Prop:=B.StaysIn h/\B.get? a=none/\h.FunFrames B l/\Lm h B a cls (rawInt L)
theorem EX.first(x:EX B l a cls h):∃oe vs,h.get? a=some oe/\(oe.cls,oe.dict)=cls/\oe.data=.fields vs/\vs[2]?=some .none :=
 let ⟨_,_,_,oe,vs,_,_,_,he,hc,hd,_⟩:=x;⟨oe,vs,he,hc.1,hd,hc.2⟩
theorem EX.there(x:EX B l a cls h):∃ob,h.get? a=some ob/\ob.cls=cls.1 :=
 let ⟨oe,_,he,hc,_⟩:=x.first;⟨oe,he,congrArg Prod.fst hc⟩
theorem zfe(f)(o):((Obj.mapFields f o).cls,(Obj.mapFields f o).dict)=(o.cls,o.dict):=by
 unfold Obj.mapFields;split<;>rfl
section
variable {M:Model}{A:Around}{E:Value->Shared->Prop}{s:Shared}{B:Heap}{env v:Env}{l:List Env}{L a:Addr}{cls:Value×Option Addr}{Q:Unit->Shared->Prop}
theorem Yy     (hfr:A.frames=some (v::l))(hl:s.heap.FunFrames B (v::l))(hL:v.frame=some L)(he:s.heap.get? a=some oe)(hk:B.StaysIn s.heap)(ha:B.get? a=none)
  (hd:oe.data=.fields vs) (hsz:1<vs.size) (h2:vs[2]?=some .none) (h:∀h',Qt B (v::l) a (oe.cls,oe.dict) L h'->s.heap.UpToSlots h'->Q () { s with heap:=h' }) :
  wpAny M A (do let f <- frameOf v;let pl <- entryPlaceOf L hn;let b <- EntryCells.newEntry head f .none (rawInt L) .none pl;setField (.ref a) 1 b) Q E s:=by
 have nof:a∉(v::l).filterMap (·.frame):=λz=>by
  obtain⟨_,o,ho,n⟩:=hl.mem z;rw[he]at ho;cases ho;exact n vs hd
 refine ydt (wpAny_frameOf_fun hfr hl hL λh1 k1=>?_)
 refine ydt (wpAny_entryPlaceOf λpl hpl=>?_)
 unfold EntryCells.newEntry newFields;refine ydt (wpAny_newObj_type ?_ (hpl.sizeOk5 _ _ _ _ _));have e1 :=(k1.2.1 a nof).trans he;have b1:B.StaysIn h1:=λb o q=>(k1.2.1 b λz=>by rw[(hl.mem z).1]at q;cases q).trans (hk b o q)
 have ne :=Nat.ne_of_gt (ya5 e1);refine ye7 (ya6 _ e1) hd hsz ?_;have hd3:=yck hd (·.setIfInBounds 1 (Value.ref h1.objs.size));have kp:∀nw b o,b≠a->h1.get? b=some o->((h1.push nw).update a (Obj.mapFields (·.setIfInBounds 1 (Value.ref h1.objs.size)))).get? b=some o:=λnw b o n q=>(yb2 _ _ (yao n)).trans (ya6 _ q)
 have nr:∀b o,s.heap.get? b=some o->(∀ws,o.data≠.fields ws)->b≠a:=λb o q n z=>by
  rw[z,he]at q;cases q;exact n vs hd
 have sm:∀nw,s.heap.UpToSlots ((h1.push nw).update a (Obj.mapFields (·.setIfInBounds 1 (Value.ref h1.objs.size)))):=λnw b o q n=>by
  obtain⟨sl,q1⟩:=k1.2.2 b o q;exact⟨sl,kp nw b _ (nr b o q n) q1⟩
 refine h _ ⟨λb o q=>kp _ b o (λz=>by rw[z,ha]at q;cases q) (b1 b o q),ha,hl.of_keeps λb o q n=>?_,_,_,h1.objs.size,_,_,yc5 _ (ya6 _ e1) (ycy hd3),⟨by rw[zfe],?_⟩,hd3,by simp[hsz],b1.fresh,ne,
  (yb2 _ _ (yao ne)).trans (yaj h1 rfl),rfl,?_⟩ (sm _)
 .obtain⟨sl,q1⟩:=sm _ b o q n;exact⟨_,q1,rfl⟩
 .rw[Array.getElem?_setIfInBounds_ne (by decide)]
  exact h2
 .first|(simp;done)|(rcases hpl with rfl|⟨_,_,_,_,_,_,_,rfl⟩<;>simp)
theorem Yj  (hk:B.StaysIn s.heap)(ha:B.get? a=none)(hl:s.heap.FunFrames B l)(ht:Lm s.heap B a cls fl)(h:∀h',EX B l a cls h'->s.heap.UpToSlots h'->Q () { s with heap:=h' }):wpAny M A (setFlight (.ref a) none) Q E s:=by
 obtain⟨oe,vs,T,oT,ts,he,hc,hd,g1,nT,Tne,hT,dT,g3⟩:=ht;have s3 :=(ybb.mp g3).1;have oth:∀b,b≠T->(s.heap.update T (Obj.mapFields (·.setIfInBounds 3 (none.elim Value.none λf=>rawInt f)))).get? b=s.heap.get? b:=λb hb=>yb2 _ _ (yao hb)
 have nr:∀b o,s.heap.get? b=some o->(∀ws,o.data≠.fields ws)->b≠T:=λb o q n z=>by
  grind
 refine ydt (ye8 he hd g1 ?_)
 exact ye7 hT dT s3 (h _ ⟨λb o q=>(oth b λz=>by grind).trans (hk b o q),ha,hl.of_keeps λb o q n=>⟨o,(oth b (nr b o q n)).trans q,rfl⟩,
  oe,vs,T,_,_,(oth a (yao Tne)).trans he,hc,hd,g1,nT,Tne,yc5 _ hT (ycy (yck dT _)),yck dT _,by simp[s3]⟩ λb o q n=>⟨o.slots,(oth b (nr b o q n)).trans q⟩)
theorem Om(hh:Qt B l a cls L s.heap)(hQ:∀h',EX B l a cls h'->s.heap.UpToSlots h'->Q () { s with heap:=h' }):wpAny M A (setFlight (.ref a) none) Q E s :=
 Yj hh.1 hh.2.1 hh.2.2.1 hh.2.2.2 hQ
theorem zp4(hh:EX B l a cls s.heap)(hQ:∀h',EX B l a cls h'->s.heap.UpToSlots h'->Q () { s with heap:=h' }):wpAny M A (setFlight (.ref a) none) Q E s :=
 Yj hh.1 hh.2.1 hh.2.2.1 hh.2.2.2 hQ
structure MadeO(h h':Heap)(a:Addr)(cls:Value×Option Addr):Prop where
 keeps:∀b o,h.get? b=some o->h'.get? b=some o
 new:h.get? a=none
 there:∃oe t,h'.get? a=some oe/\(oe.cls,oe.dict)=cls/\oe.data=.fields #[.ref t,.none,.none,.none,.bool false,.none]
theorem madeO(hx:Heap.MadeExcOf h h' a c args):MadeO h h' a (c,none) :=
 ⟨hx.keeps,hx.new,let ⟨t,he,_,_⟩:=hx.there;⟨_,t,he,rfl,rfl⟩⟩
theorem madeX  (hfr:A.frames=some (v::l))(hL:v.frame=some L)(hk:B.StaysIn h)(hl:h.FunFrames B (v::l))(hx:MadeO h s.heap a cls)
  (hQ:∀h',EX B l a cls h'->s.heap.UpToSlots h'->Q () { s with heap:=h' }):wpAny M A (leaving v (.ref a)) Q E s:=by
 obtain⟨oe,t,he,rfl,hd⟩:=hx.there
 have fr:B.get? a=none:=by
  cases q:B.get? a with
  |none=>rfl
  |some o =>
   have:=hk a o q;rw[hx.new]at this;cases this
 unfold leaving noteFrame;simp only[hL];refine ydt (ydt (ye8 he hd rfl ?_));refine Yy hfr (hl.of_keeps λb o q _=>⟨o,hx.keeps b o q,rfl⟩) hL he (λb o q=>hx.keeps b o (hk b o q)) fr hd (by simp) rfl λh1 k1 sm=>Om k1 λh2 k2 sm2=>?_
 obtain⟨k1,k2,⟨_,_,k3⟩,k4⟩:=k2;exact hQ h2 ⟨k1,k2,k3,k4⟩ (sm.trans sm2)
end
def MS(B:Heap)(l:List Env)(a:Addr)(cls:Value×Option Addr)(h:Heap):Prop:=∃fl,B.StaysIn h/\B.get? a=none/\h.FunFrames B l/\Lm h B a cls fl
theorem Yh(x:EX B l a cls h):MS B l a cls h:=⟨.none,x⟩
section
variable {M:Model}{A:Around}{E:Value->Shared->Prop}{s:Shared}{B:Heap}{env v:Env}{l:List Env}{L a:Addr}{cls:Value×Option Addr}{Q:Unit->Shared->Prop}
theorem NY(hfr:A.frames=some (v::l))(hv:env.frame=v.frame)(hL:v.frame=some L)(hx:MS B (v::l) a cls s.heap)(hQ:∀h',Qt B (v::l) a cls L h'->s.heap.UpToSlots h'->Q () { s with heap:=h' }):wpAny M A (noteFrame (.ref a) env) Q E s:=by
 have en:noteFrame (.ref a) env=noteFrame (.ref a) v:=by
  unfold noteFrame PySem.frameOf;rw[hv]
 rw[en];obtain⟨fl,f1,f2,f3,f4⟩:=hx
 by_cases hfl:fl=rawInt L
 .subst hfl;obtain⟨oe,ws,Tb,oT,ts,ha,_,hd,g1,_,_,hT,dT,g3⟩:=id f4;unfold noteFrame;simp only[hL];refine ydt (ye8 ha hd g1 ?_);rw[if_pos (by simp)]
  refine ydt (ye8 hT dT g3 ?_);rw[if_pos (by simp)]
  exact ydx (hQ _ ⟨f1,f2,f3,f4⟩ (.refl _))
 .obtain⟨oe,ws,Tb,oT,ts,ha,⟨rfl,g0⟩,hd,g1,nT,Tne,hT,dT,g3⟩:=f4;have g3s:=(ybb.mp g3).1;have oth:∀b,b≠Tb->(s.heap.update Tb (Obj.mapFields (·.setIfInBounds 3 Value.none))).get? b=s.heap.get? b:=λb hb=>yb2 _ _ (yao hb)
  have nr:∀b o,s.heap.get? b=some o->(∀us,o.data≠.fields us)->b≠Tb:=λb o hb hn z=>by
   rw[z,hT]at hb;cases hb;exact hn ts dT
  unfold noteFrame;simp only[hL];refine ydt (ye8 ha hd g1 ?_);rw[if_pos (by simp)]
  refine ydt (ye8 hT dT g3 ?_);rw[if_neg (λz=>hfl (beq_iff_eq.mp z))]
  refine ydt (ye7 hT dT g3s ?_);refine Yy hfr (f3.of_keeps λb o hb hn=>⟨o,(oth b (nr b o hb hn)).trans hb,rfl⟩) hL ((oth a (yao Tne)).trans ha) (λb o hb=>(oth b λz=>by rw[z,nT]at hb;cases hb).trans (f1 b o hb)) f2 hd (ybb.mp g1).1 g0 λh' k k4=>?_
  exact hQ h' k λb o hb hn=>k4 b o ((oth b (nr b o hb hn)).trans hb) hn
theorem leavX(hfr:A.frames=some (v::l))(hL:v.frame=some L)(hx:MS B (v::l) a cls s.heap)(hQ:∀h',EX B l a cls h'->s.heap.UpToSlots h'->Q () { s with heap:=h' }):wpAny M A (leaving v (.ref a)) Q E s:=by
 refine ydt (NY hfr rfl hL hx λh1 hh sm1=>Om hh λh2 hf sm2=>?_)
 obtain⟨k1,k2,⟨_,_,k3⟩,k4⟩:=hf;exact hQ h2 ⟨k1,k2,k3,k4⟩ (sm1.trans sm2)
end
def Cb(P:Program)(w:World):EY:=λouter H s E e s'=>∃(a:Addr) (cls:Value×Option Addr) (H':Hp) (B:Heap),
 e=.ref a/\s'.os=s.os/\AllBare s'.gens/\Un (BM outer) [] H H' s.heap s'.heap/\HOk P w H' B/\(∀b o,s.heap.get? b=some o->H b=none->b∉BM outer->B.get? b=some o) /\
 (∀b o,s.heap.get? b=some o->b∉BM outer->∃o',B.get? b=some o')/\MS B outer a cls s'.heap/\E cls.1 cls.2 H'
theorem zgm       (x:CN P w H h a o):∃ob,h.get? a=some ob:=by
 cases o with
 |lst xs=>obtain⟨_,_,_,_,e⟩:=x;grind
 |tup xs=>obtain⟨_,_,_,o',e,_⟩:=x;grind
 |dK kvs=>obtain⟨_,_,_,_,o',_,_,e,_⟩:=x;grind
 |dT kvs=>obtain⟨_,_,_,_,o',_,_,e,_⟩:=x;grind
 |set S n=>obtain⟨o',_,_,_,e,_⟩:=x;grind
 |ins C dx fs=>obtain⟨_,_,_,e,_⟩:=x;grind
 |own y=>exact x
 |xd fs=>obtain⟨_,⟨o',_,_,e,_⟩,_⟩:=x;grind
 |rng lo hi=>obtain⟨_,_,_,e⟩:=x;grind
 |frz ob u=>obtain⟨e,_⟩:=x;exact⟨_,e⟩
 |tbl ps=>exact⟨_,(x)⟩
 |met f y=>exact⟨_,(x)⟩
 |ext φ=>obtain⟨_,e,_⟩:=x;exact e
theorem none_of(x:HOk P w H h)(e:h.get? a=none):H a=none:=by
 cases q:H a with
 |none=>rfl
 |some u =>
  obtain⟨ob,z⟩:=zgm (x a u q)
  grind
theorem zp5       (x:HOk P w H h)(hn:H a=none)(new:CN P w (upd H a o) h a o):HOk P w (upd H a o) h:=λb u e=>by
 by_cases hb:b=a
 .subst hb;have e':=Bd.symm.trans e
  grind
 .have e':=(Ak hb).symm.trans e;exact(x b u e').stay (λc v _ q=>q) (λc q=>(Ak (Bi q hn)).trans q) λc xs q=>(Ak (Bi q hn)).trans q
def BK(X:Cx)(E:L2.St->XK):Prop:=∀(pins:List (Addr×Obj)) (σ:L2.St) (H:Hp) (s:Shared) (e:Value) (s':Shared),Inv X pins σ H s->Cb X.prog X.w X.stack H s (E σ) e s'->X.xe e s'
def Qn(X:Cx)(E:L2.St->XK):Prop:=∀(pins:List (Addr×Obj)) (σ:L2.St) (H:Hp) (s:Shared) (a:Addr) (cls:Value) (vs:List Value) (h':Heap),Inv X pins σ H s->Heap.MadeExcOf s.heap h' a cls vs->E σ cls none H->X.xe (.ref a) { s with heap:=h' }
section
variable {X:Cx}{pins:List (Addr×Obj)}{σ:L2.St}{H:Hp}{s:Shared}
theorem Kk(I:Inv X pins σ H s)(e:X.s₀.heap.get? b=some o)(hb:b∉BM X.outer):b∉BM X.stack:=λz=>by
 rcases yaa.mp (I.stkSub b z) with q|q
 .exact absurd (yac (ya5 e) I.ok.above) (by grind)
 .exact hb q
theorem zf0(hst:X.stack=X.env::X.outer)(hb:b∈BM X.outer):b∈BM X.stack:=by
 rw[hst];obtain⟨v,h1,h2⟩:=yby.mp hb;exact yby.mpr ⟨v,ya4 _ h1,h2⟩
theorem zod(I:Inv X pins σ H s):HOk X.prog X.w H (PySem.W.hideAll s.heap (BM X.stack)):=λb u e=>(I.hok b u e).stay (λc v hc q=>ybl _ q λz=>by
  have f:=I.stkFree c z
  grind) (λ_ q=>q) λ_ _ q=>q
theorem zkf(hst:X.stack=X.env::X.outer)(hf:X.env.frame=some X.env.locals)(hex:X.ex=[])       (I:Inv X pins σ H s)(hx:Heap.MadeExcOf s.heap h' a cls vs)(he:E cls none H) :
  wpAny (model X.prog X.w) X.A (leaving X.env (.ref a)) (λ_ s2=>Cb X.prog X.w X.outer X.H₀ X.s₀ E (.ref a) s2) Ex { s with heap:=h' }:=by
 have nex:∀b ,b∉X.ex:=λb z=>by grind
 have hfr :=hst▸I.ok.frames
 have FF:s.heap.FunFrames (PySem.W.hideAll s.heap (BM X.stack)) (X.env::X.outer):=by
  rw[<- hst];exact PySem.W.funFrames_hide I.stack λv hv b hb=>yby.mpr ⟨v,hv,hb⟩
 refine madeX hfr hf (λb o q=>ybx _ q) FF (madeO hx) λh2 fl sm=>?_
 have kB :=λb o e n hb=>ybl _ (I.base.keep b o e n hb (nex b)) (Kk I e hb)
 have tB:∀b o,X.s₀.heap.get? b=some o->b∉BM X.outer->∃o',(PySem.W.hideAll s.heap (BM X.stack)).get? b=some o':=λb o e hb=>by
  obtain⟨o',e'⟩:=I.base.there b o e (nex b);exact⟨o',ybl _ e' (Kk I e hb)⟩
 have sl:∀b o,X.s₀.heap.get? b=some o->X.H₀ b=none->b∈BM X.outer->∃z,h2.get? b=some { o with slots:=z }:=λb o e n hb=>by
  obtain⟨z,e1⟩:=I.base.slot b o e n hb (nex b);obtain⟨_,o2,ho2,hd⟩:=I.funs.mem hb;rw[e1]at ho2;cases ho2;obtain⟨z3,e3⟩:=sm b { o with slots:=z } (hx.keeps b _ e1) hd
  exact⟨z3,e3⟩
 refine⟨a,(cls,none),H,_,rfl,I.os,I.bare,⟨λb o e n hb _=>fl.1 b o (kB b o e n hb),λb o e n hb _=>sl b o e n hb,λb o e n _=>I.base.free b o e n (nex b),λb o e _=>?_,I.base.tups,I.base.frzs,I.base.tbls⟩,zod I,kB,tB,Yh fl,he⟩
 by_cases hb:b∈BM X.outer
 .obtain⟨z,q⟩:=sl b o e (I.ok.frf b hb) hb;exact⟨_,q⟩
 .obtain⟨o',q⟩:=tB b o e hb;exact⟨o',fl.1 b o' q⟩
theorem zjs(hst:X.stack=X.env::X.outer)(hf:X.env.frame=some X.env.locals)(hex:X.ex=[])     (I:Inv X pins σ H s)(h:Cb X.prog X.w X.stack H s E e s') :
  wpAny (model X.prog X.w) X.A (leaving X.env e) (λ_ s2=>Cb X.prog X.w X.outer X.H₀ X.s₀ E e s2) Ex s':=by
 obtain⟨a,cls,H',B,rfl,os,bare,un,hok,kB0,tB0,fl0,he⟩:=h;have nex:∀b ,b∉X.ex:=λb z=>by rw[hex]at z;cases z
 have hfr :=hst▸I.ok.frames;have fl1 :=hst▸fl0;refine leavX hfr hf fl1 λh2 fl sm=>?_
 have kB :=λb o e n hb=>kB0 b o (I.base.keep b o e n hb (nex b)) (I.base.free b o e n (nex b)) (Kk I e hb)
 have tB:∀b o,X.s₀.heap.get? b=some o->b∉BM X.outer->∃o',B.get? b=some o':=λb o e hb=>by
  obtain⟨o',e'⟩:=I.base.there b o e (nex b);exact tB0 b o' e' (Kk I e hb)
 have sl:∀b o,X.s₀.heap.get? b=some o->X.H₀ b=none->b∈BM X.outer->∃z,h2.get? b=some { o with slots:=z }:=λb o e n hb=>by
  obtain⟨z,e1⟩:=I.base.slot b o e n hb (nex b);obtain⟨_,o2,ho2,hd⟩:=I.funs.mem hb;rw[e1]at ho2;cases ho2;obtain⟨z2,e2⟩:=un.slot b { o with slots:=z } e1 (I.base.free b o e n (nex b)) (zf0 hst hb) (by simp)
  obtain⟨z3,e3⟩:=sm b { o with slots:=z2 } e2 hd
  exact⟨z3,e3⟩
 refine⟨a,cls,H',B,rfl,os.trans I.os,bare,⟨λb o e n hb _=>fl.1 b o (kB b o e n hb),λb o e n hb _=>sl b o e n hb,λb o e n _=>?_,λb o e _=>?_,λb xs e=>un.tups b xs (I.base.tups b xs e),λb o u e=>un.frzs b o u (I.base.frzs b o u e),λb ps e=>?_⟩,hok,kB,tB,Yh fl,he⟩
 .obtain⟨o',e'⟩:=I.base.there b o e (nex b);exact un.free b o' e' (I.base.free b o e n (nex b)) (by simp)
 .by_cases hb:b∈BM X.outer
  .obtain⟨z,q⟩:=sl b o e (I.ok.frf b hb) hb;exact⟨_,q⟩
  .obtain⟨o',q⟩:=tB b o e hb;exact⟨o',fl.1 b o' q⟩
 .obtain⟨m1,e1⟩:=I.base.tbls b ps e;obtain⟨m2,e2⟩:=un.tbls b _ e1;exact⟨m1++m2,e2.trans (by rw[Array.append_assoc])⟩
end
section
variable {P:Program}{w:World}{K:k6}{mg:Str->Option Value}{base:Heap}
theorem Uu:BK (Dz (Cb P w) P w K mg base N qual sc f cd A outer s H E) (λ_=>E) :=
 λ_ _ _ _ _ _ I h=>zjs rfl rfl rfl I h
theorem Wo:Qn (Dz (Cb P w) P w K mg base N qual sc f cd A outer s H E) (λ_=>E) :=
 λ_ _ _ _ _ _ _ _ I hx he=>zkf rfl rfl rfl I hx he
theorem VE  {st }      (F:FunD K x qual st f fd)(S:FnScope N ps (Bl st))(len:∀vs H Q E,sp vs H Q E->vs.length=ps.length)
  (hbody : ∀ (cdv ) (A ) (outer ) (s ) (H ) (vs ) (Q ) (E ), Room k (A.deeper (envOfC qual (Bl st) s.heap.objs.size f cdv)) -> sp vs H Q E ->
   ∃t,BI (Dz (Cb P w) P w K mg base N qual (Bl st) f cdv A outer s H E) (Dx st) t/\t { nx:=λ_ H'=>Q .non H',rt:=Q } (start N vs) H):FnOk P w K mg base (Cb P w) (k+1) f fd ps sp:=by
 obtain⟨oc,od,dV,kV,doc,pm,an,cdv,ct,osl,rfl,lk,hcd⟩:=F.ex;exact PX lk hcd S len λA outer s H vs Q E hr hsp=>hbody cdv A outer s H vs Q E hr hsp
end
structure DefX(P:Program)(w:World)(K:k6)(mg:Str->Option Value)(base:Heap)(k:Nat)(x:Str)(ps:List Str)(sp:Sp) where
 f:Addr
 fd:FuncData
 ok:FnOk P w K mg base (Cb P w) k f fd ps sp
 m:mg x=some (.ref f)
 kp:PySem.W.keepIn K (.ref f)=true
 b:Bx K fd ps []
structure DefsX(K:k6)(fd:FuncData)(ps:List Str)(dvs:List V):Prop where
 ex:∃ds,Bx K fd ps ds/\AZ dvs ds
section
variable {X:Cx}{k j:Nat}{f:Addr}{fd:FuncData}{x:Str}{ps:List Str}{sp:Sp}{p pos:Pos}{e:Expr}{es:List Expr}{t:TA}{E:L2.St->XK}{dvs:List V}
theorem NI  {σ:L2.St}      (F:FnOk X.prog X.w X.K X.mg X.base (Cb X.prog X.w) k f fd ps sp)(hr:Room k X.A)(hb:Bx X.K fd ps ds)(hd:AZ dvs ds)(hx:BK X E)
  (I:Inv X pins σ H s) (r:AZ vs us) (h:sp (vs++dvs) H Q (E σ)):wpAny (model X.prog X.w) X.A (call (.ref f) us) (EP X pins σ Q) X.xe s:=by
 have r2 :=r.append hd;have hl :=r2.length.symm.trans (F.len _ _ _ _ h);refine ye0 (ye1 (F.run X.A X.stack s H ⟨us,[]⟩ (us++ds) (vs++dvs) Q (E σ) hr I.env0 (hb s us I.kIn hl) r2 h) λr s' hq=>?_)
 cases r with
 |error v=>exact hx pins σ H s v s' I hq
 |ok fl =>
  cases fl with
  |ret u=>exact I.after hq
  |_=>exact False.elim hq
def Rw(sp:Sp)(dvs:List V)(E:L2.St->XK)(t:TA):TE:=λσ H Q=>t σ H λvs H1=>sp (vs++dvs) H1 Q (E σ)
theorem px(D:DefX X.prog X.w X.K X.mg X.base k x ps sp)(hr:Room j X.A)(hx:BK X E)(ha:PA X (e::es) t)(hk:k<=j:=by decide)(hg:Gl X x:=by rfl)(hdb:(x == "__debug__")=false:=by decide)
  (he:starEach (e::es) X.env=(false,eval e X.env)::starEach es X.env:=by rfl) (hpl:(backTo pos (starEach es X.env)).any (·.1)=false:=by rfl):PE X (.Call (.Name x p) (e::es) [] pos) (Rw sp [] E t):=by
 intro pins s σ H Q I h;refine ye2 (HX I hg D.m ?_ hdb);refine yci I.ok.mod.kin D.kp (AU (ha pos pins s σ H _ I h) λus s1 ⟨vs,H1,I1,r,q⟩=>⟨I1.kIn,?_⟩) he hpl
 exact NI D.ok (hr.mono hk) D.b .nil hx I1 r q
end
noncomputable abbrev RM:List Value:=[.type "ValueError",.type "Exception",.type "BaseException",.type "object"]
def LZ(K:k6)(C:Addr):Bool:=match K.lookup C with
 |some ⟨.type "type",_,.cls k,l⟩=>(match k.mro,l.toList with|.ref D::r,[_,_,_,_,some (.builtin n),_]=>D == C && n == "ValueError.__new__" && !k.hasDel && PySem.W.tailIn K RM r && PySem.W.nsOkIn K k.ns|_,_=>false)
 |_=>false
def Cv(K:k6)(C:Addr):Option (Option Value):=(PySem.W.clsIn K C).bind λk=>PySem.W.nsIn K k.ns "__init__"
structure ExcK(K:k6)(C:Addr):Prop where
 q:LZ K C=true
 self:PySem.W.subIn K (.ref C) (.ref C)=some true
 cd:∃cd,PySem.W.clsIn K C=some cd
 ty:PySem.W.typeIn K (.ref C)=some (.type "type")
 ga:PySem.W.findIn K (.ref C) "__getattribute__"=some (some (.builtin "BaseException.__getattribute__"))
 gt:PySem.W.findIn K (.ref C) "__getattr__"=some none
 ca:PySem.W.findIn K (.ref C) "__class__"=some (some (.builtin "object.__class__"))
 ob:PySem.W.mroIn K C (.type "object")=some true
 be:PySem.W.mroIn K C (.type "BaseException")=some true
 gs:PySem.W.specialIn K (.builtin "object.__class__") "__get__"=some (some (.builtin "getset_descriptor.__get__"))
 tk:PySem.W.takesIn K (.builtin "object.__class__")=some true
structure ECls(K:k6)(mg:Str->Option Value)(x:Str) where
 C:Addr
 m:mg x=some (.ref C)
 k:ExcK K C
theorem Yr{K}(X:K.In h)(q:LZ K C=true):∃bm N nm qn bs hd sn sub ab col dd k0 k1 k2 k3 k5 mN,
  h.get? C=some (excClassObj nm qn C N bs bm hd sn sub ab col dd k0 k1 k2 k3 k5 "ValueError.__new__")/\h.Ns N mN/\(∃cd,PySem.W.clsIn K C=some cd/\cd.ns=N/\cd.mro=.ref C::bm/\cd.hasDict=hd)/\OwnTail h RM bm:=by
 unfold LZ at q;split at q
 .rename_i dd cd sl ho;have hcl:PySem.W.clsIn K C=some cd:=by unfold PySem.W.clsIn;rw[ho]
  split at q
  .rename_i C2 bm k0 k1 k2 k3 nid k5 hm hs;simp only[Bool.not_eq_true',ya2,beq_iff_eq]at q;obtain⟨⟨⟨⟨z1,z2⟩,hdel⟩,ht⟩,hok⟩:=q;subst z1;subst z2;obtain⟨nm,bs,mro,nsp,qn,hd,sn,sub,ab,col,dl⟩:=cd;dsimp only at hm hok hdel;subst hm;subst hdel
   have hsl:sl=#[k0,k1,k2,k3,some (.builtin "ValueError.__new__"),k5]:=by
    obtain⟨l⟩:=sl;have hs':l=[k0,k1,k2,k3,some (.builtin "ValueError.__new__"),k5]:=hs;rw[hs']
   subst hsl;exact⟨bm,nsp,nm,qn,bs,hd,sn,sub,ab,col,dd,k0,k1,k2,k3,k5,_,X _ _ ho,.of_isNs (PySem.W.isNs_of_in X hok),⟨_,hcl,rfl,rfl,rfl⟩,PySem.W.tail_of_in X ht⟩
  .exact absurd q yb8
 .exact absurd q yb8
theorem zhk{K}(X:K.In h)(G:h.Ns N mN)(hc:PySem.W.clsIn K C=some cd)(hn:cd.ns=N)(q:Cv K C=some none):mN "__init__"=none:=by
 unfold Cv at q;rw[hc]at q;subst hn;exact PySem.W.ns_none_of X G q
section
variable {X:Cx}{x:Str}{p cpos pos:Pos}{e:Expr}{es:List Expr}{t:TA}{E:L2.St->XK}
def zlo(C:Addr)(E:L2.St->XK)(t:TA):TS:=λ_ σ H=>t σ H λvs H1=>vs.length<=sizeLine/\E σ (.ref C) none H1
theorem zgy(T:ECls X.K X.mg x)(hini:Cv X.K T.C=some none)(hc:X.calm=true)(hx:Qn X E)(ha:PA X (e::es) t)(hg:Gl X x:=by rfl)(hdb:(x == ("__debug__":Str))=false:=by decide)
  (he:starEach (e::es) X.env=(false,eval e X.env)::starEach es X.env:=by rfl) (hpl:(backTo cpos (starEach (e::es) X.env)).any (·.1)=false:=by rfl) :
  PS X (.Raise (some (.Call (.Name x p) (e::es) [] cpos)) none pos) (zlo T.C E t):=by
 intro pins s σ H D I h;obtain⟨bm,N,nm,qn,bs,hd,sn,sub,ab,col,dd,k0,k1,k2,k3,k5,mN,hC,hN,⟨cd,hcd,hcn,_⟩,TL⟩:=Yr I.mod.kin T.k.q;have hni:=zhk I.mod.kin hN hcd hcn hini
 refine wpAny_Raise_call_subT (nm:=nm) (q:=qn) (N:=N) (bs:=bs) (hdct:=hd) (sn:=sn) (sub:=sub) (ab:=ab) (col:=col) (dd:=dd) (k0:=k0) (k1:=k1) (k2:=k2) (k3:=k3) (k5:=k5)
  ycb (TL.hasType ycb.hasBase) (I.ok.hd hc) hpl hni (HX I hg T.m ⟨rfl,?_⟩ hdb)
 have h2:=ha cpos pins s σ H _ I h;rw[he]at h2 ⊢;exact Calls.evalArgs_plain (AU h2 λus s1 ⟨vs,H1,I1,r,z,q1⟩=>⟨rfl,r.length▸z,I1.bk _ _ hC,hN.keeps I1.bk,TL.keeps I1.bk,λh' a hm=>hx pins σ H1 s1 a _ us h' I1 hm q1⟩)
end
def Gu(H:Hp)(a C:Addr):Prop:=∃ob,H a=some (.frz ob (.own 0))/\ob.cls=.ref C/\∃vs,ob.data=.fields vs/\vs[2]?=some .none
def GD(H:Hp)(a C:Addr)(dx:Option Addr):Prop:=∃ob,H a=some (.frz ob (.own 0))/\(ob.cls,ob.dict)=(.ref C,dx)/\∃vs,ob.data=.fields vs/\vs[2]?=some .none
theorem GD.x(h:GD H a C dx):Gu H a C:=let ⟨ob,e,k,r⟩:=h;⟨ob,e,congrArg Prod.fst k,r⟩
theorem GD.of(x:GD H a C dx)(e:∀u,H a=some u->F a=some u):GD F a C dx :=
 let ⟨ob,y,r⟩:=x;⟨ob,e _ y,r⟩
theorem Gu.of(x:Gu H a C)(e:∀u,H a=some u->F a=some u):Gu F a C :=
 let ⟨ob,y,r⟩:=x;⟨ob,e _ y,r⟩
section
variable {K:k6}{a C:Addr}
open PySem.W PySem.Builtin PySem.Builtin.ObjectAttr PySem.Builtin.Getset_descriptor in
theorem zlf{prog:Program}{w:World}{A:Around}{R:Result->Shared->Prop}{s:Shared}{tp:Value}(X:K.In s.heap)(k:ExcK K C)(h0:∃o,s.heap.get? a=some o/\o.cls=.ref C)
  (h:R (.ok (.ret (.ref C))) s):codeAny (model prog w) A (.call (.builtin "getset_descriptor.__get__") ⟨[.builtin "object.__class__",.ref a,tp],[]⟩) R s:=by
 obtain⟨o,ho,hc⟩:=h0;obtain⟨hp9,g,dr,t,os⟩:=s;have L0:Looks (model prog w) hp9 (typeOf (.ref a)) (.ref C):=hc▸(Looks.ld ho).andThen .now;have L1:=looks_mroIn (M:=model prog w) X k.ob;refine(ye9 KF.slot_gs.plain KF.entry_gs (KF.slot_gs.check _ _ _ _ _ _ _ _ KF.type_class (KF.args_gs _ _ _) ?_));unfold Builtin.«getset_descriptor.__get__» descrGet;rw[dga_obj];refine ydt (ydx ?_);unfold descrGetter descrCheckInstance descrNameAndClass isInstance;simp only[KF.owner_class]
 repeat lk
 refine⟨(Code.quiet_builtin _ (by decide +kernel)),(yea KF.entry_class ?_)⟩
 (unfold Builtin.«object.__class__» shownTypeOf)
 repeat lk
 exact h
open PySem.W PySem.Builtin PySem.Builtin.ObjectAttr in
theorem zil{M:Model}{h:Heap}(X:K.In h)(k:ExcK K C):Looks M h (Builtin.ObjectAttr.find (.ref a) (.ref C) "__class__") (.bind (.builtin "getset_descriptor.__get__") (.builtin "object.__class__")):=by
 have L1:=looks_findIn (M:=M) X k.ca;have L2:Looks M h (getOf (some (.builtin "object.__class__"))) (some (.builtin "getset_descriptor.__get__")):=looks_specialIn X k.gs;have L3:=looks_takesIn (M:=M) X k.tk;exact L1.andThen (L2.andThen ((show Looks M h (dataDescriptor? (some (.builtin "object.__class__")) (some (.builtin "getset_descriptor.__get__"))) (some (.builtin "getset_descriptor.__get__",.builtin "object.__class__")) from L3.andThen .now).andThen (Looks.tag .now)))
theorem zgj:(Value.builtin "BaseException.__getattribute__" == Value.builtin "object.__getattribute__")=false:=by rfl
theorem zik:builtinKind "BaseException.__getattribute__"=some .slot:=by decide +kernel
theorem zgi:splitId "BaseException.__getattribute__"=some ("BaseException","__getattribute__"):=by rfl
open PySem.W in
theorem zim{prog:Program}{w:World}{A:Around}{E:Value->Shared->Prop}{Q:Option Value->Shared->Prop}{s:Shared}(X:K.In s.heap)(k:ExcK K C)(h0:∃o,s.heap.get? a=some o/\o.cls=.ref C)
  (h:Q (some (.ref C)) { s with toks:=s.toks+1 }):wpAny (model prog w) A (getAttr? (.ref a) "__class__") Q E s:=by
 obtain⟨o,ho,hc⟩:=id h0;obtain⟨hp9,g,dr,t,os⟩:=s;have L0:Looks (model prog w) hp9 (typeOf (.ref a)) (.ref C):=hc▸(Looks.ld ho).andThen .now;have L1:=looks_findIn (M:=model prog w) X k.ga;have L2:=looks_findIn (M:=model prog w) X k.gt;have LI:Looks (model prog w) hp9 (isInstance (.ref a) (.type "BaseException")) true:=L0.andThen (looks_mroIn X k.be);have LF:=zil (M:=model prog w) (a:=a) X k
 (unfold getAttr? getAttrBy? getAttrBy)
 refine ydt (wpAny_mkText (ydt (wpAny_attempt (ydu (ydt (L0.at (ydt (L1.at ?ga))))))))
 case ga =>
  have hx1:(onTheHeap (Value.ref C) && Value.builtin "BaseException.__getattribute__" == Value.builtin "object.__getattribute__")=false:=by
   rw[zgj]
   rfl
  dsimp only;rw[if_neg (by rw[hx1];exact yb8)]
  unfold getAttrByItsOwn hookBefore;rw[if_pos (show onTheHeap (Value.ref C)=true from rfl)];refine ydt (L2.at (ydt (wpAny_attempt (ydu ?_))));unfold callGetattribute boundAndCalled;rw[if_neg (by exact yb8)]
  refine ydt (yeb (PySem.F.excAttr_ValueError.ga.bind (.ref a)) ?_);show wpAny _ _ (call (.builtin "BaseException.__getattribute__") [.ref a,.str "__class__" t]) _ _ _;refine ye0 (ye9 PySem.F.excAttr_ValueError.ga.plain PySem.F.entry_bexc_ga ?_);have ha:=PySem.F.args_bexc_ga (.ref a) (.str (Str.ofString "__class__") t);obtain⟨i,hi⟩:∃i,i="BaseException.__getattribute__":=⟨_,rfl⟩;have k1:=zik;have k2:=zgi;rw[<- hi]at k1 k2 ha ⊢;refine PySem.W.check_slot k1 k2 LI ha ?_;refine ydt (ydx (ydt (ydx (ydt (L0.at (ydt (LF.at ?_)))))));show wpAny _ _ (holding [.builtin "object.__class__"] (call (.builtin "getset_descriptor.__get__") [.builtin "object.__class__",.ref a,.ref C]) >>= ret) _ _ _;refine ydt (ydu (ye0 (zlf X k h0 ?_)));exact ydx (handed_on rfl (ydx h))
open PySem.W in
theorem zhh(k:ExcK K C):KitX K (.ref a) (.ref C) (λh=>∃o,h.get? a=some o/\o.cls=.ref C) where
 ty:=λ_ _ _ p=>by
  obtain⟨o,ho,hc⟩:=p;exact hc▸(Looks.ld ho).andThen .now
 it:=λ_ _ X _=>by
  obtain⟨cd,hcd⟩:=k.cd;unfold clsIn at hcd;split at hcd
  .rename_i c' d' cd' sl' ho;intro A' Q' E' s' kk q;unfold isType loadHead;exact(ydt (wpAny_loadPart (kk _ _ (X _ _ ho)) (ydx q)))
  .cases hcd
 ne:=λh tp dd its n sl X hq0=>by
  obtain⟨cd,hcd⟩:=k.cd;refine(Bool.eq_false_iff.mpr λq=>?_)
  have e:C=tp:=Value.ref.inj (beq_iff_eq.mp q);subst e;unfold clsIn at hcd;split at hcd
  .rename_i c' d' cd' sl' ho;have z:=(X _ _ ho).symm.trans hq0;cases z
  .cases hcd
 ca:=λX p kk=>zim X k p kk
end
def Pp:V->Value
 |.ref C=>.ref C
 |.ty T=>.type T
 |_=>.none
section
variable {X:Cx}
theorem zib:Bb X (.builtin "isinstance") (λxs H Q=>∃a C c b,xs=[.ref a,c]/\Gu H a C/\ExcK X.K C/\(∃D,c=.ref D\/∃T,c=.ty T)/\PySem.W.kitOne X.K (.ref C) (Pp c)=some b/\Q (.bl b) H):=by
 intro pins s σ H xs us Q I r h;obtain⟨a,C,c,b,rfl,ho,k,hc,e,q⟩:=h;obtain⟨u,w',rfl,rx,ry⟩:=GH r;cases rx
 have hv:w'=Pp c:=by
  obtain⟨D,hc|⟨T,hc⟩⟩:=hc
  .subst hc;exact ry
  .subst hc;exact ry
 subst hv
 have p0:∃o,s.heap.get? a=some o/\o.cls=.ref C:=by
  obtain⟨ob,y,r,_⟩:=ho;exact⟨ob,(I.hok a _ y).1,r⟩
 exact yay (zhh k) I.kIn p0 e (λz=>nomatch z) λtk=>⟨.bl b,H,I.tok _,rfl,q⟩
end
noncomputable abbrev Dy(X:Cx)(pins:List (Addr×Obj))(xe:Value->Shared->Prop):Cx:={ X with pn:=X.pn++pins,xe:=xe }
abbrev Gg(X:Cx)(a:Addr):Cx:={ X with A:=X.A.mark (some (.ref a)),calm:=false,xe:=λ_ _=>False }
section
variable {X:Cx}{pins:List (Addr×Obj)}{σ:L2.St}{H:Hp}{s:Shared}{xe:Value->Shared->Prop}
theorem znh(ok:X.Ok):(Dy X pins xe).Ok:=⟨ok.mod,ok.kind,ok.glob,ok.blt,ok.above,ok.inj,ok.has,ok.cab,ok.hd,ok.frames,ok.stk,ok.exf,ok.bs,ok.bsz,ok.noex,ok.exfs,ok.funs,ok.frf⟩
theorem zh6(ok:X.Ok):(Gg X a).Ok:=⟨ok.mod,ok.kind,ok.glob,ok.blt,ok.above,ok.inj,ok.has,ok.cab,λz=>Bool.noConfusion z,ok.frames,ok.stk,ok.exf,ok.bs,ok.bsz,ok.noex,ok.exfs,ok.funs,ok.frf⟩
theorem zoa(I:Inv X pins σ H s):Inv (Dy X pins xe) [] σ H s:=⟨znh I.ok,I.os,I.bare,I.base,I.loc,I.cell,I.free,I.freeC,λp hp=>I.pin p (by grind),I.hok,I.len⟩
theorem VG{ok:X.Ok}(I:Inv (Dy X pins xe) pn2 σ H s):Inv X pins σ H s:=⟨ok,I.os,I.bare,I.base,I.loc,I.cell,I.free,I.freeC,λp hp=>I.pin p (ybh _ hp),I.hok,I.len⟩
theorem X7{a:Addr}(I:Inv X pins σ H s):Inv (Gg X a) pins σ H s:=⟨zh6 I.ok,I.os,I.bare,I.base,I.loc,I.cell,I.free,I.freeC,I.pin,I.hok,I.len⟩
theorem zh7(ok:X.Ok)(I:Inv (Gg X a) pins σ H s):Inv X pins σ H s:=⟨ok,I.os,I.bare,I.base,I.loc,I.cell,I.free,I.freeC,I.pin,I.hok,I.len⟩
theorem gone      (I:Inv X pins σ H s)(hN:X.N.Nodup)(hi:X.N[i]?=some n)(hm:s.heap.Ns X.env.locals m)(hn:h'.Ns X.env.locals (λx=>if x=n then v else m x))
  (hs:Heap.SameBut X.env.locals s.heap h'):Inv X pins (σ.set i none) H { s with heap:=h',toks:=t }:=by
 have neL:∀b o,X.s₀.heap.get? b=some o->b≠X.env.locals:=λb o e=>yaf (yac (ya5 e) I.ok.above)
 have hok :=λb u e=>(I.hok b u e).stay (λc x hc q=>(hs.2 c (λz=>by
   have f:=I.free
   rcases hc with y|y
   .rw[<- z,y,e]at f;cases f
   .rw[<- z,y]at f;cases f)).trans q) (λ_ q=>q) λ_ _ q=>q
 refine⟨I.ok,I.os,I.bare,⟨λb o e n hb hx=>(hs.2 b (neL b o e)).trans (I.base.keep b o e n hb hx),λb o e n hb hx=>?_,I.base.free,λb o e hx=>?_,I.base.tups,I.base.frzs,I.base.tbls⟩,⟨_,hn,λj y v' e1 e2 e3=>?_⟩,λy c e=>?_,I.free,I.freeC,λp hp=>?_,hok,by rw[ybn];exact I.len⟩
 .obtain⟨z,e1⟩:=I.base.slot b o e n hb hx;exact⟨z,(hs.2 b (neL b o e)).trans e1⟩
 .obtain⟨o',e1⟩:=I.base.there b o e hx;exact⟨o',(hs.2 b (neL b o e)).trans e1⟩
 .have hj:j≠i:=λz=>by
   grind
  rw[yah (yao hj)]at e2;obtain⟨m2,hn2,hl2⟩:=I.loc;obtain⟨u,r,q⟩:=hl2 j y v' e1 e2 e3;refine⟨u,r,?_⟩
  rcases q with ⟨kk,e⟩|⟨kk,c,e,z⟩
  .refine .inl ⟨kk,?_⟩;have hy:y≠n:=λz=>hj (N0 hN e1 (z▸hi))
   have em:m2 y=m y:=by
    obtain⟨o1,es1,ep1,a1,b1,_,c1⟩:=hn2;obtain⟨o2,es2,ep2,a2,b2,_,c2⟩:=hm;rw[a1]at a2;cases a2;rw[b1]at b2;cases b2;rw[<- c1,<- c2]
   show(if y=n then v else m y)=some u
   rw[if_neg hy,<- em];exact e
  .exact .inr ⟨kk,c,e,z.sameBut hs (I.cne y c e)⟩
 .obtain⟨w',z⟩:=I.cell y c e;exact⟨w',z.sameBut hs (I.cne y c e)⟩
 .obtain⟨e,n,ne,nf,d⟩:=I.pin p hp;exact⟨(hs.2 p.1 ne).trans e,n,ne,nf,d⟩
end
def Qj(a:Addr)(i:Nat)(X:Cx)(st:List Stmt)(t:TS):Prop:=∀(pins:List (Addr×Obj)) (s:Shared) (σ:L2.St) (H:Hp) (D:Ends),Inv X pins σ H s->σ[i]?=some (some (.ref a))->(∃C,Gu H a C)->t D σ H->wpAny (model X.prog X.w) X.A (execs st X.env) (SP X pins D) X.xe s
theorem pss_e{st}(h:BI X st t):Qj a i X st t:=λpins s σ H D I _ _ q=>h pins s σ H D I q
def Xe(i:Nat)(D:Ends):Ends:={ nx:=λσ H=>D.nx (σ.set i none) H,rt:=D.rt,bk:=λσ H=>D.bk (σ.set i none) H,ct:=λσ H=>D.ct (σ.set i none) H }
def tTry(K:k6)(W:Addr)(i:Nat)(E:L2.St->XK)(tb th:TS):TS:=λD σ H=>tb D σ H/\∀σ1 cls dx H1,E σ1 cls dx H1->∃C,cls=.ref C/\PySem.W.subIn K (.ref C) (.ref W)=some true /\
 ∀a o,H1 a=none->GD (upd H1 a o) a C dx->th (Xe i D) (σ1.set i (some (.ref a))) (upd H1 a o)
section
variable {A:Around}{E:Value->Shared->Prop}{M:Model}
theorem exm{h:Heap}{d:Drawn}{t:Nat}{os:OsState}{a C W N:Addr}{oe:Obj}{nm q:Str}{hdct:Bool}{sn:List Str}{ab:Bool}
     {newId:String} (hW:h.get? W=some (excClassObj nm q W N bs bm hdct sn sub ab col dd k0 k1 k2 k3 k5 newId)) (he:h.get? a=some oe) (hcls:oe.cls=.ref C) (hb:bm.contains (.type "BaseException")=true)
    (LS:PySem.W.Looks M h (isSubtype (.ref C) (.ref W)) true) (hq:Q true ⟨h,g,d,t,os⟩):wpAny M A (excMatches (.ref a) (.ref W)) Q E ⟨h,g,d,t,os⟩:=by
  have hcB:(Value.ref W::bm).contains (.type "BaseException")=true:=by
    rw[ydc,hb];exact Bool.or_true _
  have f:=tc_notTuple;unfold excMatches
  repeat (first|(with_reducible refine wpAny_loadPart_at he ?_;rw[hcls])|with_reducible refine wpAny_loadPart_at hW ?_|(with_reducible refine wpAny_isSubtype_exc hW ?_;rw[hcB])|with_reducible refine PySem.W.Looks.at LS ?_|wp_step)
  exact hq
end
section
variable {X:Cx}{i:Nat}{x n:Str}{np pos hpos:Pos}{body suite:List Stmt}{b₀:Stmt}{tb th:TS}{E:L2.St->XK}
theorem zmn(T:ECls X.K X.mg x)(hst:X.stack=X.env::X.outer)(hf:X.env.frame=some X.env.locals)(hN:X.N.Nodup)(hi:X.N[i]?=some n)(hloc:X.env.scope.names.lookup n=some .local)
  (hb:∀pins xe,BK (Dy X pins xe) E->BI (Dy X pins xe) body tb) (hh:∀a,Qj a i (Gg X a) (b₀::suite) th) (hg:Gl X x:=by rfl) (hdb:(x == ("__debug__":Str))=false:=by decide) :
  PS X (.Try body [.ExceptHandler (some (.Name x np)) (some n) (b₀::suite) hpos] [] [] pos) (tTry X.K T.C i E tb th):=by
 intro pins s σ H D I h;obtain⟨h1,h2⟩:=h
 have hkind:(X.env.scope.kind == .class || (X.env.scope.kind == .module && X.env.locals != X.env.globals))=false:=by
  rw[I.ok.kind]
  rfl
 refine wpAny_Try_except (ydq (hb pins (λe s₁=>wpAny (model X.prog X.w) X.A (noteFrame e X.env) (λ_ s₂=>wpAny (model X.prog X.w) X.A (setFlight e none) (λ_ s₃=>wpAny (model X.prog X.w) X.A (handleBy e X.env [.ExceptHandler (some (.Name x np)) (some n) (b₀::suite) hpos]) (SP X pins D) X.xe s₃) X.xe s₂) X.xe s₁)
  ?pass [] s σ H D (zoa I) h1) (λf s1 q=>?_) (λe s1 q=>q))
 case pass =>
  intro pins1 σ1 H1 s1 e s' I1t hcx;have I1 :=VG (ok:=I.ok) I1t;obtain⟨a,cls,H',B,rfl,os,bare,un,hok,kB,tB,fl0,he⟩:=hcx;obtain⟨c0,dx⟩:=cls;obtain⟨C,hC0,hsub,kk⟩:=h2 σ1 c0 dx H' he;have hC0 :=hC0;subst hC0;have fl1 :=hst▸fl0;have hfr :=hst▸I.ok.frames;have ha :=none_of hok fl1.choose_spec.2.1
  have sl:∀h',s'.heap.UpToSlots h'->∀b o,s1.heap.get? b=some o->H1 b=none->b∈BM X.stack->∃z,h'.get? b=some { o with slots:=z }:=λh' sm b o e n hb=>by
   obtain⟨_,o2,ho2,hd⟩:=I1.stack.mem hb;rw[e]at ho2;cases ho2;obtain⟨z2,e2⟩:=un.slot b o e n hb (by simp)
   obtain⟨z3,e3⟩:=sm b { o with slots:=z2 } e2 hd
   exact⟨z3,e3⟩
  have th':∀h',B.StaysIn h'->s'.heap.UpToSlots h'->∀b o,s1.heap.get? b=some o->∃o',h'.get? b=some o':=λh' st sm b o e=>by
   by_cases hb:b∈BM X.stack
   .obtain⟨z,q⟩:=sl h' sm b o e (I1.stkFree b hb) hb;exact⟨_,q⟩
   .obtain⟨o',q⟩:=tB b o e hb;exact⟨o',st b o' q⟩
  have inv5 :=λh' st sm =>
   I1.call' (s':={ s' with heap:=h' }) os ⟨λb o e n hb _=>st b o (kB b o e n hb),λb o e n hb _=>sl h' sm b o e n hb,un.free,λb o e _=>th' h' st sm b o e,un.tups,un.frzs,un.tbls⟩ (hok.kept st) bare (λ_ z=>nomatch z)
  refine NY hfr rfl hf fl1 λh4 held4 sm4=>?_
  refine Om held4 λh5 fl5 sm5=>?_
  have sm45:=sm4.trans sm5;have I5:=inv5 h5 fl5.1 sm45;obtain⟨oe,he5,hc5⟩:=fl5.there;obtain⟨bm,N,nm,qn,bs,hd,sn,sub,ab,col,dd,k0,k1,k2,k3,k5,mN,hC,hNs,hni,TL⟩:=Yr I5.kIn T.k.q;refine wpAny_handleBy_cons (codeAny_handlers_test (HX (X7 I5) hg T.m ?_ hdb)) (by intro q;cases q)
  refine exm hC he5 hc5 (TL.hasType ycb.hasBase) (PySem.W.looks_subIn I5.kIn hsub) ?_;refine codeAny_handlers_suite_as (zp4 fl5 λh6 fl6 sm6=>?_)
  have sm456:=sm45.trans sm6;obtain⟨oe6,ws6,he6,hc6,hd6,hz6⟩:=fl6.first
  have nea:∀b o,s1.heap.get? b=some o->H1 b=none->b≠a:=λb o e n z=>by
   by_cases hb:b∈BM X.stack
   .obtain⟨_,o2,ho2,hd⟩:=I1.stack.mem hb;rw[e]at ho2;cases ho2;obtain⟨y,e2⟩:=sl h6 sm456 b o e n hb;rw[z,he6]at e2;cases e2;exact hd _ hd6
   .have e2:=kB b o e n hb;rw[z,fl6.2.1]at e2;cases e2
  have I6:Inv X pins σ1 (upd H' a (.frz oe6 (.own 0))) { s' with heap:=h6 }:=by
   refine I1.call' (ch:=[]) os ⟨λb o e n hb _=>fl6.1 b o (kB b o e n hb),λb o e n hb _=>sl h6 sm456 b o e n hb,λb o e n hx=>(Ak (nea b o e n)).trans (un.free b o e n hx),λb o e _=>th' h6 fl6.1 sm456 b o e,λb xs e=>?_,λb o u e=>?_,λb ps e=>?_⟩
    (zp5 (hok.kept fl6.1) ha ⟨he6,oe6,he6⟩) bare (λ_ z=>nomatch z)
   .have q:=un.tups b xs e;exact(Ak (Bi q ha)).trans q
   .have q:=un.frzs b o u e;exact(Ak (Bi q ha)).trans q
   .obtain⟨more,q⟩:=un.tbls b ps e;exact⟨more,(Ak (Bi q ha)).trans q⟩
  refine Mt (X:=Gg X a) (v:=.ref a) (X7 I6) hN hi (.inl hloc) rfl (λs7 I7=>?_) (.inr hloc)
  refine ydq (hh a pins s7 (σ1.set i (some (.ref a))) _ (Xe i D) I7 (yal (by rw[I1.len];exact(ya3.mp hi).1)) ⟨C,oe6,Bd,congrArg Prod.fst hc6,ws6,hd6,hz6⟩ (kk a _ ha ⟨oe6,Bd,hc6,ws6,hd6,hz6⟩)) (λf s8 q8=>?_) (λ_ _ z=>False.elim z)
  have As:∀σ8 H8,Inv (Gg X a) pins σ8 H8 s8->∀(G ),(∀s9,Inv X pins (σ8.set i none) H8 s9->G () s9)->wpAny (model X.prog X.w) X.A (do bindName X.env n .none;unbindBehindTheSuite X.env n hpos) G X.xe s8:=λσ8 H8 I8 G hG=>by
   have J:=zh7 I.ok I8;obtain⟨m,hm,_⟩:=id J.loc;exact wpAny_nameGoes_keeps hloc hm hkind λh' v hn hs=>hG _ (gone J hN hi hm hn hs)
  cases f with
  |next =>
   obtain⟨σ8,H8,I8,d8⟩:=q8;exact As σ8 H8 I8 _ λs9 I9=>⟨_,H8,I9,d8⟩
  |brk =>
   obtain⟨σ8,H8,I8,d8⟩:=q8;exact As σ8 H8 I8 _ λs9 I9=>⟨_,H8,I9,d8⟩
  |cont =>
   obtain⟨σ8,H8,I8,d8⟩:=q8;exact As σ8 H8 I8 _ λs9 I9=>⟨_,H8,I9,d8⟩
  |ret u =>
   obtain⟨v,σ8,H8,I8,r8,d8⟩:=q8;exact As σ8 H8 I8 _ λs9 I9=>⟨v,_,H8,I9,r8,d8⟩
 have back:∀{xe0 } {σ':L2.St} {H':Hp},Inv (Dy X pins xe0) [] σ' H' s1->Inv X pins σ' H' s1:=λJ=>VG (ok:=I.ok) J
 cases f with
 |next =>
  obtain⟨σ',H',J,d⟩:=q;exact yds ⟨σ',H',back J,d⟩
 |brk =>
  obtain⟨σ',H',J,d⟩:=q;exact⟨σ',H',back J,d⟩
 |cont =>
  obtain⟨σ',H',J,d⟩:=q;exact⟨σ',H',back J,d⟩
 |ret u =>
  obtain⟨v,σ',H',J,r,d⟩:=q;exact⟨v,σ',H',back J,r,d⟩
end
end Zx
namespace Pu
open PySem PySem.Spec PyProof.Rows L2 Zw Zx
abbrev Rg:=Addr->Prop
def R0:Rg:=λ_=>False
set_option genInjectivity true in
inductive Kd where
 |lst|rl|tup|rt|pin (p:Addr)
set_option genInjectivity true in
inductive Ob where
 |ins (C:Addr) (fs:List Str)|exn (C:Addr)|sdc (ks:List Str)|lab (p:Addr)
set_option genInjectivity true in
inductive T where
 |non|bl (b:Bool)|int (i:Int)|str (x:Str)|nd (o:Bool) (k:Kd) (l:List T)|dic (ks:List Int) (l:List T)|pdc (ks:List Int) (l:List T)|odc (ks:List Int) (l:List T)
 |obj (k:Ob) (l:List T)|oob (p C:Addr) (fs:List Str) (l:List T)|osd (ks:List Str) (l:List T)
noncomputable abbrev T.lst(l:List T):T:=.nd false .lst l
noncomputable abbrev T.own(l:List T):T:=.nd true .lst l
noncomputable abbrev T.tup(l:List T):T:=.nd false .tup l
mutual
def T.share:T->T
 |.nd _ k l=>.nd false k (Ar l)
 |.dic ks l=>.dic ks (Ar l)
 |.pdc ks l=>.pdc ks (Ar l)
 |.odc ks l=>.pdc ks (Ar l)
 |.obj k l=>.obj k (Ar l)
 |.oob _ C fs l=>.obj (.ins C fs) (Ar l)
 |.osd ks l=>.obj (.sdc ks) (Ar l)
 |.non=>.non
 |.bl b=>.bl b
 |.int i=>.int i
 |.str x=>.str x
def Ar:List T->List T
 |[]=>[]
 |t::r=>t.share::Ar r
end
mutual
def T.sh:T->Bool
 |.nd o _ l=>!o && AS l
 |.dic _ l=>AS l
 |.pdc _ l=>AS l
 |.odc _ _=>false
 |.obj _ l=>AS l
 |.oob _ _ _ _=>false
 |.osd _ _=>false
 |.non=>true
 |.bl _=>true
 |.int _=>true
 |.str _=>true
def AS:List T->Bool
 |[]=>true
 |t::r=>t.sh && AS r
end
noncomputable def T.flat:T->Bool
 |.nd _ _ _=>false
 |.dic _ _=>false
 |.pdc _ _=>false
 |.odc _ _=>false
 |.obj _ _=>false
 |.oob _ _ _ _=>false
 |.osd _ _=>false
 |.non=>true
 |.bl _=>true
 |.int _=>true
 |.str _=>true
theorem Cc:∀l ,Ar l=l.map T.share
 |[]=>rfl
 |t::r=>by rw[Ar,Cc r];rfl
theorem Bn:∀l ,AS l=l.all T.sh
 |[]=>rfl
 |t::r=>by rw[AS,Bn r];rfl
mutual
theorem AO:∀t:T,t.sh=true->t.share=t
 |.nd o k l,h=>by
  rw[T.sh,ya2]at h;have ho:o=false:=by simpa using h.1
  subst ho;rw[T.share,AJ l h.2]
 |.dic ks l,h=>by
  rw[T.sh]at h;rw[T.share,AJ l h]
 |.pdc ks l,h=>by
  rw[T.sh]at h;rw[T.share,AJ l h]
 |.odc ks l,h=>by
  rw[T.sh]at h;cases h
 |.obj k l,h=>by
  rw[T.sh]at h;rw[T.share,AJ l h]
 |.oob p C fs l,h=>by
  rw[T.sh]at h;cases h
 |.osd ks l,h=>by
  rw[T.sh]at h;cases h
 |.non,_=>rfl
 |.bl _,_=>rfl
 |.int _,_=>rfl
 |.str _,_=>rfl
theorem AJ:∀l:List T,AS l=true->Ar l=l
 |[],_=>rfl
 |t::r,h=>by
  rw[AS,ya2]at h;rw[Ar,AO t h.1,AJ r h.2]
end
mutual
theorem SG:∀t:T,t.share.sh=true
 |.nd o k l=>by
  rw[T.share,T.sh,FV l]
  rfl
 |.dic ks l=>by rw[T.share,T.sh,FV l]
 |.pdc ks l=>by rw[T.share,T.sh,FV l]
 |.odc ks l=>by rw[T.share,T.sh,FV l]
 |.obj k l=>by rw[T.share,T.sh,FV l]
 |.oob p C fs l=>by rw[T.share,T.sh,FV l]
 |.osd ks l=>by rw[T.share,T.sh,FV l]
 |.non=>rfl
 |.bl _=>rfl
 |.int _=>rfl
 |.str _=>rfl
theorem FV:∀l:List T,AS (Ar l)=true
 |[]=>rfl
 |t::r=>by rw[Ar,AS,SG t,FV r];rfl
end
theorem zdc(t:T):t.share.share=t.share:=AO _ (SG t)
theorem ziz(h:AS l=true){i:Nat}(e:l[i]?=some t):t.sh=true:=by
 rw[Bn]at h
 grind
def Gk(K:k6)(F:Hp)(p:Addr)(xs:List V):Prop:=(∃o,F p=some (.frz o (.lst xs)))\/∃(o:Obj) (its:Array Value) (n:Nat),K.lookup p=some o/\o.cls=.type "list"/\o.dict=none/\o.data=.seq its n/\its.size<=sizeLine/\AZ xs its.toList
theorem Gk.l{K}(h:Gk K F p xs):A9 K F p xs:=h.elim (λz=>.inl (.inr z)) .inr
def En(K:k6)(F:Hp)(k:Kd)(p:Addr)(xs:List V):Prop:=match k with
 |.lst=>F p=some (.lst xs)
 |.rl=>Gk K F p xs
 |.tup=>F p=some (.tup xs)
 |.rt=>Bm K F p xs
 |.pin _=>F p=some (.lst xs)
theorem FX{K}(s:A2 F F')(h:Bm K F p xs):Bm K F' p xs:=by
 rcases h with (h|⟨o,h⟩)|h
 .exact .inl (.inl (s _ _ h))
 .exact .inl (.inr ⟨o,s _ _ h⟩)
 .exact .inr h
theorem En.same{K}(h:En K F k p xs)(s:A2 F F'):En K F' k p xs:=by
 cases k with
 |lst=>exact s _ _ h
 |rl=>exact h.elim (λ⟨o,z⟩=>.inl ⟨o,s _ _ z⟩) .inr
 |tup=>exact s _ _ h
 |rt=>exact FX s h
 |pin q=>exact s _ _ h
def ID(k:Kd)(p:Addr):Prop:=match k with
 |.lst=>True
 |.pin q=>q=p
 |_=>False
theorem ID.node{K}(hk:ID k p)(h:F p=some (.lst xs)):En K F k p xs:=by
 cases k with
 |lst=>exact h
 |pin q=>exact h
 |_=>exact hk.elim
def LC(ks:List Int)(xs:List V):List (Key×V):=List.zipWith (λk x=>(Sum.inl k,x)) ks xs
def CJ(ks:List Str)(xs:List V):List (Key×V):=List.zipWith (λk x=>(Sum.inr k,x)) ks xs
def J3(F:Hp)(dx:Option Addr)(v:V):Prop:=∃d od u,dx=some d/\F d=some (.frz od (.own 0))/\A3 v u/\PySem.W.lookIn "step" od=some (some u)
theorem J3.of(h:J3 F dx v)(s:∀a u,F a=some u->F' a=some u):J3 F' dx v :=
 let ⟨d,od,u,e,h1,r⟩:=h;⟨d,od,u,e,s _ _ h1,r⟩
def Jm(F:Hp)(k:Ob)(p:Addr)(xs:List V):Prop:=match k with
 |.ins C fs=>∃dx,F p=some (.ins C dx (fs.zip xs))
 |.exn C=>∃dx,GD F p C dx/\∀v∈xs,J3 F dx v
 |.sdc ks=>ks.length=xs.length/\F p=some (.dK (CJ ks xs))
 |.lab q=>q=p/\xs=[.ref p]
theorem Jm.same(h:Jm F k p xs)(s:A2 F F'):Jm F' k p xs:=by
 cases k with
 |ins C fs=>exact h.elim λdx e=>⟨dx,s _ _ e⟩
 |exn C=>exact h.elim λdx e=>⟨dx,e.1.of λu=>s p u,λv hv=>(e.2 v hv).of s⟩
 |sdc ks=>exact⟨h.1,s _ _ h.2⟩
 |lab q=>exact h
inductive Rp(K:k6)(F H:Hp):T->V->Rg->Prop where
 |non:Rp K F H .non .non R0
 |bl (b:Bool):Rp K F H (.bl b) (.bl b) R0
 |int (i:Int):Rp K F H (.int i) (.int i) R0
 |str (x:Str):Rp K F H (.str x) (.str x) R0
 |shr {k:Kd} {p:Addr} {xs:List V} {l:List T} (h:En K F k p xs) (e:l.length=xs.length) (c:∀(i:Nat) (t:T) (x:V),l[i]?=some t->xs[i]?=some x->Rp K F H t x R0):Rp K F H (.nd false k l) (.ref p) R0
 |dic {p:Addr} {ob:Obj} {ks:List Int} {xs:List V} {l:List T} (h:F p=some (.frz ob (.dK (LC ks xs)))) (e:l.length=xs.length) (ek:ks.length=xs.length) (c:∀(i:Nat) (t:T) (x:V),l[i]?=some t->xs[i]?=some x->Rp K F H t x R0):Rp K F H (.dic ks l) (.ref p) R0
 |pdc {p:Addr} {ks:List Int} {xs:List V} {l:List T} (h:F p=some (.dK (LC ks xs))) (e:l.length=xs.length) (ek:ks.length=xs.length) (c:∀(i:Nat) (t:T) (x:V),l[i]?=some t->xs[i]?=some x->Rp K F H t x R0):Rp K F H (.pdc ks l) (.ref p) R0
 |odc {p:Addr} {ks:List Int} {xs:List V} {l:List T} (f:F p=none) (h:H p=some (.dK (LC ks xs))) (e:l.length=xs.length) (ek:ks.length=xs.length) (c:∀(i:Nat) (t:T) (x:V),l[i]?=some t->xs[i]?=some x->Rp K F H t x R0):Rp K F H (.odc ks l) (.ref p) (λa=>a=p)
 |obj {k:Ob} {p:Addr} {xs:List V} {l:List T} (h:Jm F k p xs) (e:l.length=xs.length) (c:∀(i:Nat) (t:T) (x:V),l[i]?=some t->xs[i]?=some x->Rp K F H t x R0):Rp K F H (.obj k l) (.ref p) R0
 |oob {C p dx:Addr} {fs:List Str} {xs:List V} {l:List T} (R:Nat->Rg) (f:F p=none) (h:H p=some (.ins C dx (fs.zip xs))) (e:l.length=xs.length) (c:∀(i:Nat) (t:T) (x:V),l[i]?=some t->xs[i]?=some x->Rp K F H t x (R i))
   (d:∀i j a,i≠j->R i a->¬ R j a) (dp:∀i,¬ R i p) (o:∀i a,R i a->i<l.length):Rp K F H (.oob p C fs l) (.ref p) (λa=>a=p\/∃i,R i a)
 |osd {p:Addr} {ks:List Str} {xs:List V} {l:List T} (R:Nat->Rg) (f:F p=none) (h:H p=some (.dK (CJ ks xs))) (e:l.length=xs.length) (ek:ks.length=xs.length) (c:∀(i:Nat) (t:T) (x:V),l[i]?=some t->xs[i]?=some x->Rp K F H t x (R i))
   (d:∀i j a,i≠j->R i a->¬ R j a) (dp:∀i,¬ R i p) (o:∀i a,R i a->i<l.length):Rp K F H (.osd ks l) (.ref p) (λa=>a=p\/∃i,R i a)
 |own {k:Kd} {p:Addr} {xs:List V} {l:List T} (hk:ID k p) (R:Nat->Rg) (f:F p=none) (h:H p=some (.lst xs)) (e:l.length=xs.length) (c:∀(i:Nat) (t:T) (x:V),l[i]?=some t->xs[i]?=some x->Rp K F H t x (R i))
   (d:∀i j a,i≠j->R i a->¬ R j a) (dp:∀i,¬ R i p) (o:∀i a,R i a->i<l.length):Rp K F H (.nd true k l) (.ref p) (λa=>a=p\/∃i,R i a)
theorem reg0{p:Addr}:(λa=>a=p\/∃_:Nat,R0 a)=λa=>a=p:=funext λ_=>propext ⟨λz=>z.elim id λ⟨_,w⟩=>w.elim,.inl⟩
theorem Rp.osd0{K}{F H:Hp}{p:Addr}{ks:List Str}{xs:List V}{l:List T}(f:F p=none)(h:H p=some (.dK (CJ ks xs)))(e:l.length=xs.length)(ek:ks.length=xs.length)(c:∀(i:Nat) (t:T) (x:V),l[i]?=some t->xs[i]?=some x->Rp K F H t x R0):Rp K F H (.osd ks l) (.ref p) (λa=>a=p):=by
 have r:Rp K F H (.osd ks l) (.ref p) (λa=>a=p\/∃_:Nat,R0 a):=.osd (λ_=>R0) f h e ek c (λ_ _ _ _ z=>z.elim) (λ_ z=>z) (λ_ _ z=>z.elim)
 rwa[reg0]at r
section
variable {K:k6}{F F' H H':Hp}{t:T}{x:V}{A:Rg}
theorem Rp.frame(h:Rp K F H t x A)(s:A2 F F')(k:∀a,A a->H' a=H a/\F' a=none):Rp K F' H' t x A:=by
 induction h with
 |non=>exact .non
 |bl b=>exact .bl b
 |int i=>exact .int i
 |str y=>exact .str y
 |shr h e c ih=>exact .shr (h.same s) e λi t x h1 h2=>ih i t x h1 h2 λa z=>z.elim
 |dic h e ek c ih=>exact .dic (s _ _ h) e ek λi t x h1 h2=>ih i t x h1 h2 λa z=>z.elim
 |pdc h e ek c ih=>exact .pdc (s _ _ h) e ek λi t x h1 h2=>ih i t x h1 h2 λa z=>z.elim
 |odc f h e ek c ih =>
  have q:=k _ rfl;exact .odc q.2 (q.1.trans h) e ek λi t x h1 h2=>ih i t x h1 h2 λa z=>z.elim
 |obj h e c ih=>exact .obj (h.same s) e λi t x h1 h2=>ih i t x h1 h2 λa z=>z.elim
 |oob R f h e c d dp o ih =>
  have q:=k _ (.inl rfl);exact .oob R q.2 (q.1.trans h) e (λi t x h1 h2=>ih i t x h1 h2 λa z=>k a (.inr ⟨i,z⟩)) d dp o
 |osd R f h e ek c d dp o ih =>
  have q:=k _ (.inl rfl);exact .osd R q.2 (q.1.trans h) e ek (λi t x h1 h2=>ih i t x h1 h2 λa z=>k a (.inr ⟨i,z⟩)) d dp o
 |own hk R f h e c d dp o ih =>
  have q:=k _ (.inl rfl);exact .own hk R q.2 (q.1.trans h) e (λi t x h1 h2=>ih i t x h1 h2 λa z=>k a (.inr ⟨i,z⟩)) d dp o
theorem Rp.dom(h:Rp K F H t x A)(ha:A a):F a=none/\∃u,H a=some u:=by
 induction h with
 |non=>exact ha.elim
 |bl b=>exact ha.elim
 |int i=>exact ha.elim
 |str y=>exact ha.elim
 |shr h e c ih=>exact ha.elim
 |dic h e ek c ih=>exact ha.elim
 |pdc h e ek c ih=>exact ha.elim
 |odc f h e ek c ih =>
  grind
 |obj h e c ih=>exact ha.elim
 |@osd p ks xs l R f h e ek c d dp o ih =>
  rcases ha with rfl|⟨i,z⟩
  .grind
  .have hi:=o i a z;have hx:i<xs.length:=by omega
   exact ih i _ _ (ya0 hi) (ya0 hx) z
 |@oob C p dx fs xs l R f h e c d dp o ih =>
  rcases ha with rfl|⟨i,z⟩
  .grind
  .have hi:=o i a z;have hx:i<xs.length:=by omega
   exact ih i _ _ (ya0 hi) (ya0 hx) z
 |@own k0 p xs l hk R f h e c d dp o ih =>
  rcases ha with rfl|⟨i,z⟩
  .grind
  .have hi:=o i a z;have hx:i<xs.length:=by omega
   exact ih i _ _ (ya0 hi) (ya0 hx) z
theorem Rp.share(h:Rp K F H t x A)(s:A2 F F')(k:∀a u,A a->H a=some u->F' a=some u):Rp K F' H' t.share x R0:=by
 induction h with
 |non=>exact .non
 |bl b=>exact .bl b
 |int i=>exact .int i
 |str y=>exact .str y
 |@shr k0 p xs l h e c ih =>
  rw[T.share,Cc];refine .shr (h.same s) (by rw[ya1];exact e) λi t x h1 h2=>?_
  rw[ya8]at h1;obtain⟨t0,e0,rfl⟩:=yad.mp h1;exact ih i t0 x e0 h2 λa u z=>z.elim
 |@dic p ob ks xs l h e ek c ih =>
  rw[T.share,Cc];refine .dic (s _ _ h) (by rw[ya1];exact e) ek λi t x h1 h2=>?_
  rw[ya8]at h1;obtain⟨t0,e0,rfl⟩:=yad.mp h1;exact ih i t0 x e0 h2 λa u z=>z.elim
 |@pdc p ks xs l h e ek c ih =>
  rw[T.share,Cc];refine .pdc (s _ _ h) (by rw[ya1];exact e) ek λi t x h1 h2=>?_
  rw[ya8]at h1;obtain⟨t0,e0,rfl⟩:=yad.mp h1;exact ih i t0 x e0 h2 λa u z=>z.elim
 |@odc p ks xs l f h e ek c ih =>
  rw[T.share,Cc];refine .pdc (k _ _ rfl h) (by rw[ya1];exact e) ek λi t x h1 h2=>?_
  rw[ya8]at h1;obtain⟨t0,e0,rfl⟩:=yad.mp h1;exact ih i t0 x e0 h2 λa u z=>z.elim
 |@obj k0 p xs l h e c ih =>
  rw[T.share,Cc];refine .obj (h.same s) (by rw[ya1];exact e) λi t x h1 h2=>?_
  rw[ya8]at h1;obtain⟨t0,e0,rfl⟩:=yad.mp h1;exact ih i t0 x e0 h2 λa u z=>z.elim
 |@oob C p dx fs xs l R f h e c d dp o ih =>
  rw[T.share,Cc];refine .obj ⟨dx,k _ _ (.inl rfl) h⟩ (by rw[ya1];exact e) λi t x h1 h2=>?_
  grind
 |@osd p ks xs l R f h e ek c d dp o ih =>
  rw[T.share,Cc];refine .obj ⟨ek,k _ _ (.inl rfl) h⟩ (by rw[ya1];exact e) λi t x h1 h2=>?_
  grind
 |@own k0 p xs l hk R f h e c d dp o ih =>
  rw[T.share,Cc];refine .shr (hk.node (k _ _ (.inl rfl) h)) (by rw[ya1];exact e) λi t x h1 h2=>?_
  grind
theorem Rp.r0(h:Rp K F H t x A)(s:t.sh=true):A=R0:=by
 cases h with
 |own hk R f h e c d dp o =>
  cases s
 |odc f h e ek c =>
  cases s
 |oob R f h e c d dp o =>
  cases s
 |osd R f h e ek c d dp o =>
  cases s
 |_=>rfl
theorem Rp.move(h:Rp K F H t x A)(s:t.sh=true)(q:A2 F F'):Rp K F' H' t x R0:=by
 have e:=h.r0 s;subst e;exact h.frame q λa z=>z.elim
theorem Rp.flat_any(h:Rp K F H t x A)(s:t.flat=true):Rp K F' H' t x R0:=by
 cases h with
 |non=>exact .non
 |bl b=>exact .bl b
 |int i=>exact .int i
 |str y=>exact .str y
 |shr h e c=>cases s
 |dic h e ek c=>cases s
 |pdc h e ek c=>cases s
 |odc f h e ek c=>cases s
 |obj h e c=>cases s
 |oob R f h e c d dp o=>cases s
 |osd R f h e ek c d dp o=>cases s
 |own hk R f h e c d dp o=>cases s
theorem Rp.int_inv{i:Int}(h:Rp K F H (.int i) x A):x=.int i:=by cases h;rfl
theorem Rp.bl_inv{b:Bool}(h:Rp K F H (.bl b) x A):x=.bl b:=by cases h;rfl
theorem Rp.non_inv(h:Rp K F H .non x A):x=.non:=by cases h;rfl
theorem Rp.str_inv{y:Str}(h:Rp K F H (.str y) x A):x=.str y:=by cases h;rfl
end
def Ai(K:k6)(F:Hp)(ts:List T)(xs:List V):Prop:=ts.length=xs.length/\∀(i:Nat) (t:T) (x:V),ts[i]?=some t->xs[i]?=some x->Rp K F F t x R0
theorem Ai.nil{K}:Ai K F [] []:=⟨rfl,λi t x h=>by simp at h⟩
theorem Rp.any{K}(h:Rp K F H t x R0):Rp K F H' t x R0:=h.frame (A2.refl F) λa z=>z.elim
theorem Ai.cons{K:k6}{F H:Hp}{t:T}{x:V}{ts:List T}{xs:List V}(h:Rp K F H t x R0)(r:Ai K F ts xs):Ai K F (t::ts) (x::xs):=by
 refine⟨by simp[r.1],λi t' x' h1 h2=>?_⟩
 cases i with
 |zero =>
  simp at h1 h2;subst h1;subst h2;exact h.any
 |succ j=>exact r.2 j t' x' (by grind) (by grind)
theorem Ai.inv{K}(r:Ai K F (t::ts) xs):∃x xs',xs=x::xs'/\Rp K F F t x R0/\Ai K F ts xs':=by
 obtain⟨e,h⟩:=r;cases xs with
 |nil=>simp at e
 |cons x xs'=>exact⟨x,xs',rfl,h 0 t x rfl rfl,by simpa using e,λi t' x' h1 h2=>h (i+1) t' x' (by grind) (by grind)⟩
theorem Ai.inv0{K}(r:Ai K F [] xs):xs=[]:=by
 obtain⟨e,h⟩:=r
 grind
theorem Ai.same{K}(r:Ai K F ts xs)(s:A2 F F'):Ai K F' ts xs:=⟨r.1,λi t x h1 h2=>((r.2 i t x h1 h2).frame s λa z=>z.elim)⟩
theorem Ai.node{K}(h:Rp K F H (.nd false k l) (.ref p) A):∃xs,En K F k p xs/\Ai K F l xs:=by
 cases h with
 |shr h e c=>exact⟨_,h,e,λi t x h1 h2=>(c i t x h1 h2).any⟩
theorem Rp.ref_inv{K}(h:Rp K F H (.nd o k l) x A):∃p,x=.ref p:=by
 cases h with
 |shr h e c=>simp
 |own hk R f h e c d dp o=>simp
theorem Ai.of_node{K}(h:En K F k p xs)(r:Ai K F l xs):Rp K F H (.nd false k l) (.ref p) R0:=.shr h r.1 λi t x h1 h2=>(r.2 i t x h1 h2).any
structure Ext(F H F' H':Hp)(B:Rg):Prop where
 hh:A2 H H'
 ff:A2 F F'
 fh:A2 F' H'
 nb:∀b,B b->H b=none
 nf:∀b u,F' b=some u->F b=some u\/H b=none
theorem Fe(s:A2 H H')(h:H' b=none):H b=none:=by
 cases e:H b with
 |none=>rfl
 |some u=>rw[s b u e]at h;cases h
section
variable {F H F1 H1 F2 H2:Hp}{B C:Rg}
theorem Ext.refl(s:A2 F H):Ext F H F H R0:=⟨.refl _,.refl _,s,λ_ z=>z.elim,λ_ _ e=>.inl e⟩
theorem Ext.trans(a:Ext F H F1 H1 B)(b:Ext F1 H1 F2 H2 C):Ext F H F2 H2 (λx=>B x\/C x) where
 hh:=a.hh.trans b.hh
 ff:=a.ff.trans b.ff
 fh:=b.fh
 nb:=λx z=>z.elim (a.nb x) λz=>Fe a.hh (b.nb x z)
 nf:=λx u e=>(b.nf x u e).elim (a.nf x u) λz=>.inr (Fe a.hh z)
theorem Ext.mono(a:Ext F H F1 H1 B)(h:∀x,C x->B x):Ext F H F1 H1 C:=⟨a.hh,a.ff,a.fh,λx z=>a.nb x (h x z),a.nf⟩
theorem Ext.trans0(a:Ext F H F1 H1 R0)(b:Ext F1 H1 F2 H2 C):Ext F H F2 H2 C:=(a.trans b).mono λx z=>.inr z
open Classical in
def frz(F H:Hp)(A:Rg):Hp:=λb=>if A b then H b else F b
theorem Fv{A:Rg}{b:Addr}(h:A b):frz F H A b=H b:=by unfold frz;rw[if_pos h]
theorem FJ{A:Rg}{b:Addr}(h:¬ A b):frz F H A b=F b:=by unfold frz;rw[if_neg h]
theorem EO(n:∀a,A a->F a=none):A2 F (frz F H A):=λb u e=>by
 by_cases h:A b
 .grind
 .rw[FJ h];exact e
theorem Hb(s:A2 F H):A2 (frz F H A) H:=λb u e=>by
 by_cases h:A b
 .rw[Fv h]at e;exact e
 .rw[FJ h]at e;exact s b u e
theorem Ext.frz(a:Ext F H F1 H1 B)(n:∀b,B b->F1 b=none):Ext F H (frz F1 H1 B) H1 R0 where
 hh:=a.hh
 ff:=a.ff.trans (EO n)
 fh:=Hb a.fh
 nb:=λ_ z=>z.elim
 nf:=λb u e=>by
  by_cases h:B b
  .exact .inr (a.nb b h)
  .rw[FJ h]at e;exact a.nf b u e
theorem Rp.ext{K }    (h:Rp K F H t x A)(a:Ext F H F1 H1 B):Rp K F1 H1 t x A:=h.frame a.ff λb z=>by
 obtain⟨f,u,e⟩:=h.dom z;refine⟨(a.hh b u e).trans e.symm,?_⟩;cases q:F1 b with
 |none=>rfl
 |some u' =>
  rcases a.nf b u' q with z|z
  .grind
  grind
theorem Rp.apart{K}(h:Rp K F H t x A)(a:Ext F H F1 H1 B)(hb:B b):¬ A b:=λz=>by
 obtain⟨f,u,e⟩:=h.dom z;rw[a.nb b hb]at e;cases e
theorem Ext.new   (s:A2 F H)(h:H p=none):Ext F H (upd F p o) (upd H p o) R0 where
 hh:=K0 h o
 ff:=K0 (Fe s h) o
 fh:=λb u e=>by
  by_cases hb:b=p
  .subst hb;rw[Bd]at e ⊢;exact e
  .rw[Ak hb]at e ⊢;exact s b u e
 nb:=λ_ z=>z.elim
 nf:=λb u e=>by
  by_cases hb:b=p
  .grind
  .rw[Ak hb]at e;exact .inl e
theorem Ext.newO   (s:A2 F H)(h:H p=none):Ext F H F (upd H p o) (λa=>a=p) where
 hh:=K0 h o
 ff:=.refl _
 fh:=λb u e=>K0 h o b u (s b u e)
 nb:=λb z=>by grind
 nf:=λb u e=>.inl e
end
abbrev AL:=List (Option T)
structure StR(K:k6)(F H:Hp)(σ:L2.St)(τ:AL)(R:Nat->Rg):Prop where
 fh:A2 F H
 len:σ.length=τ.length
 rep:∀i t,τ[i]?=some (some t)->∃x,σ[i]?=some (some x)/\Rp K F H t x (R i)
 out:∀i a,R i a->∃t,τ[i]?=some (some t)
 dis:∀i j a,i≠j->R i a->¬ R j a
section
variable {K:k6}{F H F1 H1:Hp}{σ:L2.St}{τ:AL}{R:Nat->Rg}{B:Rg}
theorem StR.dom(h:StR K F H σ τ R)(ha:R i a):F a=none/\∃u,H a=some u:=by
 obtain⟨t,e⟩:=h.out i a ha;obtain⟨x,_,r⟩:=h.rep i t e;exact r.dom ha
theorem StR.ext(h:StR K F H σ τ R)(a:Ext F H F1 H1 B):StR K F1 H1 σ τ R where
 fh:=a.fh
 len:=h.len
 rep:=λi t e=>by
  obtain⟨x,e1,r⟩:=h.rep i t e;exact⟨x,e1,r.ext a⟩
 out:=h.out
 dis:=h.dis
theorem StR.apart(h:StR K F H σ τ R)(a:Ext F H F1 H1 B)(hb:B b)(i):¬ R i b:=λz=>by
 obtain⟨f,u,e⟩:=h.dom z;rw[a.nb b hb]at e;cases e
end
def XU:Key->PyData
 |.inl i=>.int i
 |.inr x=>.str x
mutual
def T.data:T->PyData
 |.non=>.none
 |.bl b=>.bool b
 |.int i=>.int i
 |.str x=>.str x
 |.nd _ .lst l=>.list (BD l)
 |.nd _ .rl l=>.list (BD l)
 |.nd _ .tup l=>.tuple (BD l)
 |.nd _ .rt l=>.tuple (BD l)
 |.nd _ (.pin _) l=>.list (BD l)
 |.dic ks l=>.dict ((ks.map PyData.int).zip (BD l))
 |.pdc ks l=>.dict ((ks.map PyData.int).zip (BD l))
 |.odc ks l=>.dict ((ks.map PyData.int).zip (BD l))
 |.obj _ _=>.none
 |.oob _ _ _ _=>.none
 |.osd _ _=>.none
def BD:List T->List PyData
 |[]=>[]
 |t::r=>t.data::BD r
end
mutual
def T.pln:T->Bool
 |.nd _ _ l=>Co l
 |.dic _ l=>Co l
 |.pdc _ l=>Co l
 |.odc _ l=>Co l
 |.obj _ _=>false
 |.oob _ _ _ _=>false
 |.osd _ _=>false
 |.non=>true
 |.bl _=>true
 |.int _=>true
 |.str _=>true
def Co:List T->Bool
 |[]=>true
 |t::r=>t.pln && Co r
end
theorem EH:∀{l},Co l=true->∀{i:Nat} {t},l[i]?=some t->t.pln=true
 |[],_,i,t,e=>by simp at e
 |a::r,h,i,t,e=>by
  rw[Co,ya2]at h;cases i with
  |zero =>
   grind
  |succ i=>exact EH h.2 (by simpa using e)
theorem UK:∀{l} {us},l.length=us.length->(∀(i:Nat) (t) (u),l[i]?=some t->us[i]?=some u->∃as,Reads h u t.data as)->∃as,ReadsAll h us (BD l) as
 |[],[],_,_=>⟨_,.nil⟩
 |[],_::_,e,_=>by simp at e
 |_::_,[],e,_=>by simp at e
 |t::l,u::us,e,f=>by
  obtain⟨a1,r1⟩:=f 0 t u rfl rfl;obtain⟨a2,r2⟩:=UK (by simpa using e) λi t' u' h1 h2=>f (i+1) t' u' (by grind) (by grind)
  exact⟨_,.cons r1 r2⟩
theorem Oq(e:(Ci P w).is k v=true):Reads h v (XU k) []:=by
 rcases EM (e) with ⟨i,t,rfl,rfl⟩|⟨x,t,rfl,rfl⟩
 .exact .int i t
 .exact .str x t
theorem Kb:∀(ks) (xs) (l) (vs),KV (LC ks xs) vs->l.length=xs.length->ks.length=xs.length->(∀(i:Nat) (t) (x),l[i]?=some t->xs[i]?=some x->∀{u},A3 x u->∃as,Reads h u t.data as) ->
  ∃bs,PyProof.V.PairsRead h XU vs ((ks.map PyData.int).zip (BD l)) bs
 |[],xs,l,vs,r,_,_,_=>by
  have r' :=(r);cases r';exact⟨_,.nil⟩
 |k::ks,[],l,vs,r,_,ek,_=>by simp at ek
 |k::ks,x::xs,[],vs,r,e,_,_=>by simp at e
 |k::ks,x::xs,t::l,vs,r,e,ek,f=>by
  have r' :=r;cases r' with
  |@cons _ q _ qs hd tl =>
   obtain⟨a1,r1⟩:=f 0 t x rfl rfl hd.2;obtain⟨a2,r2⟩:=Kb ks xs l qs tl (by simpa using e) (by grind) λi t' x' h1 h2=>f (i+1) t' x' (by grind) (by grind)
   obtain⟨q1,q2⟩:=q;cases (hd.1);exact⟨_,.cons r1 r2⟩
section
variable {X:Cx}{pins:List (Addr×Obj)}{σ:L2.St}{F H:Hp}{s:Shared}
theorem F7(I:Inv X pins σ H s)(fh:A2 F H)(h:Rp X.K F H t x A)(hpl:t.pln=true):∀{u},A3 x u->∃as,Reads s.heap u t.data as:=by
 have kids:∀{l } {xs } {its },AZ xs its->l.length=xs.length->(∀(i:Nat) (t ) (x ),l[i]?=some t->xs[i]?=some x->∀{u },A3 x u->∃as,Reads s.heap u t.data as)->∃as,ReadsAll s.heap its (BD l) as:=by
  intro l xs its r e ih;refine UK (e.trans r.length) λi t u h1 h2=>?_
  have hi:i<xs.length:=by
   have:=(ya3.mp h1).1
   omega
  obtain⟨u',e1,r1⟩:=r.get (ya0 hi);rw[h2]at e1;cases e1;exact ih i t _ h1 (ya0 hi) r1
 have lsts:∀{p } {l } {xs },A9 X.K H p xs->l.length=xs.length->(∀(i:Nat) (t ) (x ),l[i]?=some t->xs[i]?=some x->∀{u },A3 x u->∃as,Reads s.heap u t.data as)->∃as,Reads s.heap (.ref p) (.list (BD l)) as:=by
  intro p l xs hq e ih;obtain⟨its,r,⟨o,n,e1,e2,e3,e4⟩,_⟩:=I.list hq;obtain⟨as,ra⟩:=kids r e ih;exact⟨_,.list e1 e2 e4 (by simpa using ra)⟩
 have tups:∀{p } {l } {xs },Bm X.K H p xs->l.length=xs.length->(∀(i:Nat) (t ) (x ),l[i]?=some t->xs[i]?=some x->∀{u },A3 x u->∃as,Reads s.heap u t.data as)->∃as,Reads s.heap (.ref p) (.tuple (BD l)) as:=by
  intro p l xs hq e ih;obtain⟨its,r,⟨o,e1,e2,n,e4⟩,_⟩:=I.tuple hq;obtain⟨as,ra⟩:=kids r e ih;exact⟨_,.tuple e1 e2 e4 (by simpa using ra)⟩
 induction h with
 |non=>intro u r;cases r;exact⟨_,.none⟩
 |bl b=>intro u r;cases r;exact⟨_,.bool b⟩
 |int i=>intro u r;obtain⟨t,rfl⟩:=r;exact⟨_,.int i t⟩
 |str y=>intro u r;obtain⟨t,rfl⟩:=r;exact⟨_,.str y t⟩
 |@shr k p xs l h e c ih =>
  intro u r;cases r;cases k with
  |lst=>exact lsts (A9.of (fh _ _ h)) e λi t x h1 h2=>ih i t x h1 h2 (EH hpl h1)
  |rl=>exact lsts (fh.seq h.l) e λi t x h1 h2=>ih i t x h1 h2 (EH hpl h1)
  |tup=>exact tups (Bm.of (fh _ _ h)) e λi t x h1 h2=>ih i t x h1 h2 (EH hpl h1)
  |rt=>exact tups (FX fh h) e λi t x h1 h2=>ih i t x h1 h2 (EH hpl h1)
  |pin q=>exact lsts (A9.of (fh _ _ h)) e λi t x h1 h2=>ih i t x h1 h2 (EH hpl h1)
 |@dic p ob ks xs l h e ek c ih =>
  intro u r;cases r;obtain⟨ho,z,hd,vs,rel,dd⟩:=(I.hok p _ (fh _ _ h));obtain⟨bs,pr⟩:=Kb ks xs l vs rel e ek λi t x h1 h2=>ih i t x h1 h2 (EH hpl h1)
  exact⟨_,ycq (λk v q=>Oq q) dd pr⟩
 |@pdc p ks xs l h e ek c ih =>
  intro u r;cases r;obtain⟨z,hd,vs,rel,dd⟩:=(I.hok p _ (fh _ _ h));obtain⟨bs,pr⟩:=Kb ks xs l vs rel e ek λi t x h1 h2=>ih i t x h1 h2 (EH hpl h1)
  exact⟨_,ycq (λk v q=>Oq q) dd pr⟩
 |@odc p ks xs l f h e ek c ih =>
  intro u r;cases r;obtain⟨z,hd,vs,rel,dd⟩:=(I.hok p _ h);obtain⟨bs,pr⟩:=Kb ks xs l vs rel e ek λi t x h1 h2=>ih i t x h1 h2 (EH hpl h1)
  exact⟨_,ycq (λk v q=>Oq q) dd pr⟩
 |obj h e c ih=>cases hpl
 |oob R f h e c d dp o ih=>cases hpl
 |osd R f h e ek c d dp o ih=>cases hpl
 |@own k0 p xs l hk R f h e c d dp o ih =>
  intro u r;cases r;cases k0 with
  |lst=>exact lsts (A9.of h) e λi t x h1 h2=>ih i t x h1 h2 (EH hpl h1)
  |pin q=>exact lsts (A9.of h) e λi t x h1 h2=>ih i t x h1 h2 (EH hpl h1)
  |_=>exact hk.elim
end
noncomputable def C7(t:T):Bool:=t.pln && t.data.canLay0
def L4(t u:T):Bool:=PyData.eqv t.data u.data
def Gc(t u:T):Bool:=C7 t && C7 u && decide (min t.data.depth u.data.depth<=60)
def Az(t u:T):Option T:=if Gc t u then some (.bl (L4 t u)) else none
def Cp(t u:T):Option T:=if Gc t u then some (.bl (!L4 t u)) else none
def Ef(t:T)(l:List T):Bool:=C7 t && (Co l && PyData.canLayAll0 (BD l)) && decide (min (PyData.depthAll (BD l)) t.data.depth<=60)
def Fs(t:T)(l:List T):Bool:=(BD l).any λy=>PyData.eqv y t.data
def X8(t:T)(y:Str):Option T:=match t with
 |.str x=>some (.bl (!(Builtin.Str.occurrences y x 0 y.length 1).isEmpty))
 |_=>none
def C6(t c:T):Option T:=match c with
 |.nd _ _ l=>if Ef t l then some (.bl (Fs t l)) else none
 |.str y=>X8 t y
 |_=>none
def E7(t c:T):Option T:=match c with
 |.nd _ _ l=>if Ef t l then some (.bl (!Fs t l)) else none
 |_=>none
def CO(K:k6)(F H:Hp)(v:T)(Q:VK):Prop:=∀F' H' z C,Ext F H F' H' C->Rp K F' H' v z C->Q z H'
def BY(K:k6)(g:T->T->Option T):R2:=λx y H Q=>∃F t u v,A2 F H/\Rp K F F t x R0/\Rp K F F u y R0/\g t u=some v/\CO K F H v Q
def K5(K:k6)(g:T->Option T):V->Hp->VK->Prop:=λx H Q=>∃F t v,A2 F H/\Rp K F F t x R0/\g t=some v/\CO K F H v Q
def DF(K:k6)(g:List T->Option T):List V->Hp->VK->Prop:=λxs H Q=>∃F ts v,A2 F H/\Ai K F ts xs/\g ts=some v/\CO K F H v Q
section
variable {K:k6}{F H:Hp}{Q:VK}
theorem CO.int(q:CO K F H (.int i) Q)(s:A2 F H):Q (.int i) H:=q F H _ _ (Ext.refl s) (.int i)
theorem CO.bl(q:CO K F H (.bl b) Q)(s:A2 F H):Q (.bl b) H:=q F H _ _ (Ext.refl s) (.bl b)
theorem CO.str(q:CO K F H (.str x) Q)(s:A2 F H):Q (.str x) H:=q F H _ _ (Ext.refl s) (.str x)
theorem CO.non(q:CO K F H .non Q)(s:A2 F H):Q .non H:=q F H _ _ (Ext.refl s) .non
theorem CO.list   (q:CO K F H (.own l) Q)(s:A2 F H)(r:Ai K F l xs)  (hp:H p=none):Q (.ref p) (upd H p (.lst xs)):=by
 refine q F (upd H p (.lst xs)) (.ref p) _ ((Ext.newO s hp).mono ?_) (.own (k:=.lst) trivial (λ_=>R0) (Fe s hp) Bd r.1 (λi t x h1 h2=>?_) (λ_ _ _ _ z=>z.elim) (λ_ z=>z) (λ_ _ z=>z.elim))
 .rintro a (z|⟨i,z⟩)
  .exact z
  .exact z.elim
 .exact(r.2 i t x h1 h2).any
theorem CO.tuple(q:CO K F H (.tup l) Q)(s:A2 F H)(r:Ai K F l xs)(hp:H p=none):Q (.ref p) (upd H p (.tup xs)):=by
 have e:=Ext.new (o:=.tup xs) s hp;exact q _ _ _ _ e (Ai.of_node Bd (r.same e.ff))
theorem CO.same(q:CO K F H t Q)(s:A2 F H)(r:Rp K F F t x R0):Q x H:=q F H x _ (Ext.refl s) r.any
end
def F6(i:Int):Bool:=@decide (-(2 ^ 64)<i/\i<2 ^ 64) (Classical.propDecidable _)
def Bh(i:Int):Bool:=@decide (-(10 ^ 70)<i/\i<10 ^ 70) (Classical.propDecidable _)
def LL(k:Int):Bool:=@decide (k<2 ^ 63/\-(2 ^ 63)<=k) (Classical.propDecidable _)
def CF(i j:Int):Bool:=F6 i || F6 j || (Bh i && Bh j)
noncomputable def BV:Nat:=16777216
def B7:T->T->Option T
 |.int i,.int j=>some (.int (i+j))
 |.str x,.str y=>if x.length+y.length<=BV then some (.str (x++y)) else none
 |.nd _ .lst l,.nd _ .lst m=>if l.length+m.length<=BV then some (.own (l++m)) else none
 |_,_=>none
def Er:T->T->Option T
 |.int i,.int j=>some (.int (i - j))
 |_,_=>none
def CD:T->T->Option T
 |.int i,.int j=>if CF i j then some (.int (i * j)) else none
 |.nd _ .lst l,.int k=>if LL k=true/\l.length * k.toNat<=BV then some (.own (List.replicate k.toNat l).flatten) else none
 |.str x,.int k=>if 0<=k/\k<=1000000/\x.length<=16 then some (.str (Txt.mul x k)) else none
 |_,_=>none
def Bs:T->T->Option T
 |.int i,.int j=>if j≠0 then some (.int (i.fmod j)) else none
 |_,_=>none
def B9:T->T->Option T
 |.int i,.int j=>if j≠0/\Bh j then some (.int (i.fdiv j)) else none
 |_,_=>none
def Ig:T->T->Option T
 |.int i,.int j=>if 0<=j/\j<=1000000/\F6 i then some (.int (i ^ j.toNat)) else none
 |_,_=>none
def JX:T->T->Option T
 |.int i,.int j=>some (.int (Builtin.bitOr i j))
 |_,_=>none
def J0:T->T->Option T
 |.int i,.int j=>some (.int (Builtin.bitAnd i j))
 |_,_=>none
def Ca(f:Int->Int->Bool):T->T->Option T
 |.int i,.int j=>some (.bl (f i j))
 |_,_=>none
def EK:T->Option T
 |.int i=>some (.int (-i))
 |_=>none
theorem NG(h:F6 i=true):-(2 ^ 64)<i/\i<2 ^ 64:=@of_decide_eq_true _ (Classical.propDecidable _) h
theorem NF(h:Bh i=true):Sm i:=@of_decide_eq_true _ (Classical.propDecidable _) h
theorem XW(h:LL k=true):k<2 ^ 63/\-(2 ^ 63)<=k:=@of_decide_eq_true _ (Classical.propDecidable _) h
theorem Eb:BV=sizeLine:=by rw[ydz];rfl
theorem K2{K}{F}:∀{l m} {xs ys},Ai K F l xs->Ai K F m ys->Ai K F (l++m) (xs++ys)
 |[],m,xs,ys,r,q=>by rw[r.inv0];exact q
 |t::l,m,xs,ys,r,q=>by
  obtain⟨x,xs',rfl,r1,r2⟩:=r.inv;exact .cons r1 (K2 r2 q)
theorem UB{K}(r:Ai K F l xs):∀n ,Ai K F (List.replicate n l).flatten (List.replicate n xs).flatten
 |0=>.nil
 |n+1=>by
  exact K2 r (UB r n)
section
variable {X:Cx}
theorem DV{K}(h:Rp K F H (.nd o k l) x R0):∃p xs,x=.ref p/\o=false/\En K F k p xs/\Ai K F l xs:=by
 generalize hA:R0=A at h;cases h with
 |shr h e c=>exact⟨_,_,rfl,rfl,h,e,λi t x h1 h2=>(hA▸c i t x h1 h2).any⟩
 |@own k0 p xs l hk R f h e c d dp o =>
  exfalso
  have:R0 p:=by grind
  exact this
theorem VC:Ab X (binaryOp .Add) (BY X.K B7):=by
 intro pins s σ H x y v u Q I rx ry h;obtain⟨F,t1,t2,r,fh,r1,r2,e,q⟩:=h;unfold B7 at e;split at e
 .cases e;rw[r1.int_inv]at rx;rw[r2.int_inv]at ry;exact znc pins s σ H _ _ v u Q I rx ry ⟨_,_,rfl,rfl,q.int fh⟩
 .split at e
  .cases e;rename_i hz;rw[r1.str_inv]at rx;rw[r2.str_inv]at ry;exact ze8 pins s σ H _ _ v u Q I rx ry ⟨_,_,rfl,rfl,by rw[<- Eb];exact hz,q.str fh⟩
  .cases e
 .split at e
  .cases e;rename_i hz;obtain⟨p,xs,rfl,rfl,n1,k1⟩:=DV r1;obtain⟨p2,ys,rfl,rfl,n2,k2⟩:=DV r2;refine zna pins s σ H _ _ v u Q I rx ry ⟨p,p2,xs,ys,rfl,rfl,fh _ _ n1,fh _ _ n2,?_,λa ha=>q.list fh (K2 k1 k2) ha⟩
   rw[<- k1.1,<- k2.1,<- Eb];exact hz
  .cases e
 .cases e
theorem GY(ho:Ab X f (rI C g))(hg:∀t u v,gT t u=some v->∃i j,t=.int i/\u=.int j/\C i j/\((∃k,v=.int k/\g i j=.int k)\/∃k,v=.bl k/\g i j=.bl k)):Ab X f (BY X.K gT):=by
 intro pins s σ H x y v u Q I rx ry h;obtain⟨F,t1,t2,r,fh,r1,r2,e,q⟩:=h;obtain⟨i,j,rfl,rfl,hc,hv⟩:=hg _ _ _ e;rw[r1.int_inv]at rx;rw[r2.int_inv]at ry;refine ho pins s σ H _ _ v u Q I rx ry ⟨i,j,rfl,rfl,hc,?_⟩
 rcases hv with ⟨k,rfl,ek⟩|⟨k,rfl,ek⟩
 .rw[ek];exact q.int fh
 .rw[ek];exact q.bl fh
theorem Ab.weak(h:Ab X f r)(w:∀x y H Q,r' x y H Q->r x y H Q):Ab X f r':=λpins s σ H x y v u Q I rx ry q=>h pins s σ H x y v u Q I rx ry (w x y H Q q)
theorem K3(h:Ab X f (Dl g)):Ab X f (rI (λ_ _=>True) g):=Ab.weak h λx y H Q ⟨i,j,a,b,_,q⟩=>⟨i,j,a,b,q⟩
theorem zjy:Ab X (binaryOp .Sub) (BY X.K Er):=GY (K3 zn5) λt u v h=>by
 unfold Er at h
 grind
theorem zk4:Ab X (binaryOp .BitOr) (BY X.K JX):=GY (K3 op_or) λt u v h=>by
 unfold JX at h
 grind
theorem zh5:Ab X (binaryOp .BitAnd) (BY X.K J0):=GY (K3 znb) λt u v h=>by
 unfold J0 at h
 grind
theorem zk1:Ab X (binaryOp .Mod) (BY X.K Bs):=GY zjx λt u v h=>by
 unfold Bs at h
 grind
theorem zh4:Ab X (binaryOp .FloorDiv) (BY X.K B9):=GY zh3 λt u v h=>by
 unfold B9 at h;split at h
 .split at h
  .cases h;rename_i hc;exact⟨_,_,rfl,rfl,⟨hc.1,NF hc.2⟩,.inl ⟨_,rfl,rfl⟩⟩
  .cases h
 .cases h
theorem zjz:Ab X (binaryOp .Pow) (BY X.K Ig):=GY zn7 λt u v h=>by
 unfold Ig at h;split at h
 .split at h
  .cases h;rename_i hc;have q:=NG hc.2.2;exact⟨_,_,rfl,rfl,⟨hc.1,hc.2.1,by omega⟩,.inl ⟨_,rfl,rfl⟩⟩
  .cases h
 .cases h
theorem Kf(ho:Ab X (compareOp op) (Dl λi j=>.bl (g i j))):Ab X (compareOp op) (BY X.K (Ca g)):=GY (K3 ho) λt u v h=>by
 unfold Ca at h
 grind
theorem zk0:Ab X (binaryOp .Mult) (BY X.K CD):=by
 intro pins s σ H x y v u Q I rx ry h;obtain⟨F,t1,t2,r,fh,r1,r2,e,q⟩:=h;unfold CD at e;split at e
 .rename_i i j;split at e
  .cases e;rename_i hc;rw[r1.int_inv]at rx;rw[r2.int_inv]at ry;unfold CF at hc;rw[ybz,ybz,ya2]at hc
   rcases hc with (hc|hc)|hc
   .exact Uz pins s σ H _ _ v u Q I rx ry ⟨i,j,rfl,rfl,.inl (NG hc),q.int fh⟩
   .exact Uz pins s σ H _ _ v u Q I rx ry ⟨i,j,rfl,rfl,.inr (NG hc),q.int fh⟩
   .exact zjw pins s σ H _ _ v u Q I rx ry ⟨i,j,rfl,rfl,⟨NF hc.1,NF hc.2⟩,q.int fh⟩
  .cases e
 .split at e
  .cases e;rename_i hc;obtain⟨p,xs,rfl,rfl,n1,k1⟩:=DV r1;rw[r2.int_inv]at ry;refine zn6 pins s σ H _ _ v u Q I rx ry ⟨p,_,xs,rfl,rfl,fh _ _ n1,(XW hc.1).2,(XW hc.1).1,?_,λa ha=>q.list fh (UB k1 _) ha⟩
   rw[<- k1.1,<- Eb];exact hc.2
  .cases e
 .split at e
  .cases e;rename_i hc;rw[r1.str_inv]at rx;rw[r2.int_inv]at ry;obtain⟨t1,rfl⟩:=rx;obtain⟨t2,rfl⟩:=ry;exact SB.mul (mulOk_of 16 1048576 hc.2.2 (by omega) (by omega) (by decide) (by decide)) λt' k=>⟨.str _,H,I.tok _,⟨_,rfl⟩,q.str fh⟩
  .cases e
 .cases e
theorem zio:J2 X (unaryOp .USub) (K5 X.K EK):=by
 intro pins s σ H x v Q I rx h;obtain⟨F,t,r,fh,r1,e,q⟩:=h;unfold EK at e;split at e
 .cases e;rw[r1.int_inv]at rx;exact zlj pins s σ H _ v Q I rx ⟨_,rfl,q.int fh⟩
 .cases e
theorem ZH{A:Around}(hu:A.units+64<cLine)(h:n<=60):A.units+n<cLine:=by omega
theorem VB(hu:X.A.units+64<cLine):Ab X (compareOp .Eq) (BY X.K Az):=by
 intro pins s σ H x y v u Q I rx ry h;obtain⟨F,t1,t2,r,fh,r1,r2,e,q⟩:=h;unfold Az at e;split at e
 .cases e;rename_i hc;unfold Gc C7 at hc;rw[ya2,ya2,ya2,ya2,yec]at hc;obtain⟨a1,q1⟩:=F7 I fh (r1.any) hc.1.1.1 rx;obtain⟨a2,q2⟩:=F7 I fh (r2.any) hc.1.2.1 ry;exact SeqAt.compareEq_reads q1 q2 hc.1.1.2 hc.1.2.2 (ZH hu hc.2) ⟨.bl _,H,I,rfl,q.bl fh⟩
 .cases e
theorem znf(hu:X.A.units+64<cLine):Ab X (compareOp .In) (BY X.K C6):=by
 intro pins s σ H x y v u Q I rx ry h;obtain⟨F,t1,t2,r,fh,r1,r2,e,q⟩:=h;unfold C6 at e;split at e
 .rename_i o k l;split at e
  .cases e;rename_i hc;unfold Ef C7 at hc;rw[ya2,ya2,ya2,ya2,yec]at hc;obtain⟨a1,q1⟩:=F7 I fh (r1.any) hc.1.1.1 rx;obtain⟨a2,q2⟩:=F7 I fh (r2.any) (hc.1.2.1) ry;have hd:X.A.units+1+min (PyData.depthAll (BD l)) t1.data.depth<cLine:=by omega
   cases k with
   |lst=>exact yd8 q2 q1 hc.1.2.2 hc.1.1.2 hd ⟨.bl _,H,I,rfl,q.bl fh⟩
   |rl=>exact yd8 q2 q1 hc.1.2.2 hc.1.1.2 hd ⟨.bl _,H,I,rfl,q.bl fh⟩
   |tup=>exact SeqAt.in_tuple_reads q2 q1 hc.1.2.2 hc.1.1.2 hd ⟨.bl _,H,I,rfl,q.bl fh⟩
   |rt=>exact SeqAt.in_tuple_reads q2 q1 hc.1.2.2 hc.1.1.2 hd ⟨.bl _,H,I,rfl,q.bl fh⟩
   |pin _=>exact yd8 q2 q1 hc.1.2.2 hc.1.1.2 hd ⟨.bl _,H,I,rfl,q.bl fh⟩
  .cases e
 .unfold X8 at e;split at e
  .cases e;rw[r1.str_inv]at rx;rw[r2.str_inv]at ry;exact zf8 pins s σ H _ _ v u Q I rx ry ⟨_,_,rfl,rfl,q.bl fh⟩
  .cases e
 .cases e
theorem zf9(hu:X.A.units+64<cLine):Ab X (compareOp .NotIn) (BY X.K E7):=by
 intro pins s σ H x y v u Q I rx ry h;obtain⟨F,t1,t2,r,fh,r1,r2,e,q⟩:=h;unfold E7 at e;split at e
 .rename_i o k l;split at e
  .cases e;rename_i hc;unfold Ef C7 at hc;rw[ya2,ya2,ya2,ya2,yec]at hc;obtain⟨a1,q1⟩:=F7 I fh (r1.any) hc.1.1.1 rx;obtain⟨a2,q2⟩:=F7 I fh (r2.any) (hc.1.2.1) ry;have hd:X.A.units+1+min (PyData.depthAll (BD l)) t1.data.depth<cLine:=by omega
   cases k with
   |lst=>exact ycr q2 q1 hc.1.2.2 hc.1.1.2 hd ⟨.bl _,H,I,rfl,q.bl fh⟩
   |rl=>exact ycr q2 q1 hc.1.2.2 hc.1.1.2 hd ⟨.bl _,H,I,rfl,q.bl fh⟩
   |tup=>exact SeqAt.notIn_tuple_reads q2 q1 hc.1.2.2 hc.1.1.2 hd ⟨.bl _,H,I,rfl,q.bl fh⟩
   |rt=>exact SeqAt.notIn_tuple_reads q2 q1 hc.1.2.2 hc.1.1.2 hd ⟨.bl _,H,I,rfl,q.bl fh⟩
   |pin _=>exact ycr q2 q1 hc.1.2.2 hc.1.1.2 hd ⟨.bl _,H,I,rfl,q.bl fh⟩
  .cases e
 .cases e
end
set_option genInjectivity true in
inductive Rs where
 |v (t:T) (b:Bool)|x (c:Str)
abbrev AG:=AL->Option Rs
set_option genInjectivity true in
inductive RsL where
 |v (ts:List T) (b:Bool)|x (c:Str)
abbrev Av:=AL->Option RsL
def tot(R:Nat->Rg):Rg:=λa=>∃i,R i a
def DS(K:k6)(F H:Hp)(R:Nat->Rg)(v:T)(b:Bool)(x:V)(B:Rg):Prop:=match b with
 |true=>B=R0/\∃A,(∀a,A a->tot R a)/\Rp K F H v x A
 |false=>Rp K F H v x B
def Gz(b:Bool)(F H:Hp)(R:Nat->Rg):Hp:=match b with
 |true=>frz F H (tot R)
 |false=>F
section
variable {K:k6}{F H F1 H1:Hp}{σ:L2.St}{τ:AL}{R:Nat->Rg}{B:Rg}{b c:Bool}{v:T}{x:V}
theorem StR.tot(S:StR K F H σ τ R)(h:tot R a):F a=none/\∃u,H a=some u:=by
 obtain⟨i,z⟩:=h;exact S.dom z
theorem LN(S:StR K F H σ τ R):A2 F (Gz b F H R):=by
 cases b with
 |true=>exact EO λa z=>(S.tot z).1
 |false=>exact .refl _
theorem PF(S:StR K F H σ τ R):A2 (Gz b F H R) H:=by
 cases b with
 |true=>exact Hb S.fh
 |false=>exact S.fh
theorem zkr(S:StR K F H σ τ R)(e:Ext F H F1 H1 B)(h:b=true->c=true):A2 (Gz b F H R) (Gz c F1 H1 R):=by
 have S1:=S.ext e;cases b with
 |false=>exact e.ff.trans (LN S1)
 |true =>
  rw[h rfl];intro a u q;show frz F1 H1 (Pu.tot R) a=some u
  by_cases z:Pu.tot R a
  .rw[Fv z];have q':frz F H (Pu.tot R) a=some u:=q;rw[Fv z]at q';exact e.hh _ _ q'
  .rw[FJ z];have q':frz F H (Pu.tot R) a=some u:=q;rw[FJ z]at q';exact e.ff _ _ q'
theorem DS.frz(S:StR K F H σ τ R)(e:Ext F H F1 H1 B)(g:DS K F1 H1 R v b x B):∃F2,Ext F H F2 H1 R0/\A2 F1 F2/\Rp K (Gz b F2 H1 R) (Gz b F2 H1 R) v.share x R0:=by
 have S1:=S.ext e;cases b with
 |true =>
  obtain⟨rfl,A,hA,r⟩:=g
  exact⟨F1,e,.refl _,r.share (LN S1) λa u z q=>by
   show Pu.frz F1 H1 (Pu.tot R) a=some u;rw[Fv (hA a z)];exact q⟩
 |false =>
  have g' :=g;have n:∀a,B a->F1 a=none:=λa z=>(g'.dom z).1
  exact⟨_,e.frz n,EO n,g'.share (EO n) λa u z q=>by
   show Pu.frz F1 H1 B a=some u;rw[Fv z];exact q⟩
theorem Ext.grow(e:Ext F H F1 H1 R0)(s:A2 H1 H2):Ext F H F1 H2 R0:=⟨e.hh.trans s,e.ff,e.fh.trans s,λ_ z=>z.elim,e.nf⟩
end
noncomputable def EI(c:Str):Option Nat:=match c.cps.toList with
 |[78,111,82,117,110,n]=>some n
 |_=>none
def GW(c:Str):Str:=match EI c with
 |some _=>"NoRun"
 |none=>c
def Ii(c:Str):List V:=match EI c with
 |some n=>[.int n]
 |none=>[]
def GV(c:Str):List T:=match EI c with
 |some n=>[.int n]
 |none=>[]
def Jl(F:Hp)(c:Str)(dx:Option Addr):Prop:=∀v∈Ii c,J3 F dx v
def XE(E:XK)(ca:Str->Value)(c:Str)(F H:Hp):Prop:=∀dx,Jl F c dx->E (ca (GW c)) dx H
theorem XE.plain(h:XE E ca c F H)(hc:EI c=none):E (ca c) none H:=by
 have:=h none (by unfold Jl Ii;grind)
 unfold GW at this
 grind
theorem XE.any(h:XE E ca c F H)(hc:EI c=none):XE E ca c F' H:=λdx _=>h dx (by unfold Jl Ii;grind)
def pM(K:k6)(E:L2.St->XK)(ca:Str->Value)(σ:L2.St)(Q:VK)(F H:Hp)(R:Nat->Rg):Option Rs->Prop
 |some (.v v b)=>∀F' H' x B,Ext F H F' H' B->DS K F' H' R v b x B->Q x H'
 |some (.x c)=>∀F' H',Ext F H F' H' R0->XE (E σ) ca c F' H'
 |none=>False
def tM(K:k6)(E:L2.St->XK)(ca:Str->Value)(m:AG):TE:=λσ H Q=>∃F τ R,StR K F H σ τ R/\pM K E ca σ Q F H R (m τ)
def pMs(K:k6)(E:L2.St->XK)(ca:Str->Value)(σ:L2.St)(Q:List V->Hp->Prop)(F H:Hp)(R:Nat->Rg):Option RsL->Prop
 |some (.v ts b)=>∀F' H' xs,Ext F H F' H' R0->Ai K (Gz b F' H' R) ts xs->Q xs H'
 |some (.x c)=>∀F' H',Ext F H F' H' R0->XE (E σ) ca c F' H'
 |none=>False
def Bg(K:k6)(E:L2.St->XK)(ca:Str->Value)(m:Av):TA:=λσ H Q=>∃F τ R,StR K F H σ τ R/\pMs K E ca σ Q F H R (m τ)
def pMB(K:k6)(E:L2.St->XK)(ca:Str->Value)(σ:L2.St)(Q:Bool->Hp->Prop)(F H:Hp):Option Rs->Prop
 |some (.v (.bl c) _)=>∀F' H',Ext F H F' H' R0->Q c H'
 |some (.v _ _)=>False
 |some (.x c)=>∀F' H',Ext F H F' H' R0->XE (E σ) ca c F' H'
 |none=>False
def BH(K:k6)(E:L2.St->XK)(ca:Str->Value)(m:AG):TT:=λσ H Q=>∃F τ R,StR K F H σ τ R/\pMB K E ca σ Q F H (m τ)
noncomputable def AA(i:Nat):AG:=λτ=>match τ[i]? with
 |some (some t)=>some (.v t (!t.sh))
 |_=>none
noncomputable def mC(t:T):AG:=λ_=>some (.v t false)
def AD:Av:=λ_=>some (.v [] false)
noncomputable def AB(m:AG)(ms:Av):Av:=λτ=>match m τ with
 |some (.v t b)=>(match ms τ with
  |some (.v ts b')=>some (.v (t.share::ts) (b || b'))
  |r=>r)
 |some (.x c)=>some (.x c)
 |none=>none
def As(b:Bool)(v:T):Option Rs:=if b && !v.flat then none else some (.v v false)
def BN(g:List T->Option T)(ms:Av):AG:=λτ=>match ms τ with
 |some (.v ts b)=>(match g ts with
  |some v=>As b v
  |none=>none)
 |some (.x c)=>some (.x c)
 |none=>none
def g2(g:T->T->Option T):List T->Option T
 |[t,u]=>g t u
 |_=>none
def g1(g:T->Option T):List T->Option T
 |[t]=>g t
 |_=>none
abbrev m1(g:T->Option T)(a:AG):AG:=BN (g1 g) (AB a AD)
abbrev m2(g:T->T->Option T)(a b:AG):AG:=BN (g2 g) (AB a (AB b AD))
def DK(c:AG)(a b:AG):AG:=λτ=>match c τ with
 |some (.v (.bl true) _)=>a τ
 |some (.v (.bl false) _)=>b τ
 |some (.x c)=>some (.x c)
 |_=>none
def Ax(c:AG):AG:=λτ=>match c τ with
 |some (.v (.bl b) _)=>some (.v (.bl (!b)) false)
 |some (.x c)=>some (.x c)
 |_=>none
def Ct(a b:AG):AG:=DK a b (mC (.bl false))
def BU(a b:AG):AG:=DK a (mC (.bl true)) b
section
variable {X:Cx}{E:L2.St->XK}{ca:Str->Value}{σ:L2.St}{H:Hp}{m ma mb mc:AG}{ms:Av}{K:k6}{a b c e:Expr}{es:List Expr}{pos:Pos}
theorem PE.weak(h:PE X e t)(w:∀σ H Q,t' σ H Q->t σ H Q):PE X e t':=λpins s σ H Q I q=>h pins s σ H Q I (w σ H Q q)
theorem PT.weak(h:PT X e t)(w:∀σ H Q,t' σ H Q->t σ H Q):PT X e t':=λpins s σ H Q I q=>h pins s σ H Q I (w σ H Q q)
theorem PA.weak(h:PA X es t)(w:∀σ H Q,t' σ H Q->t σ H Q):PA X es t':=λpos pins s σ H Q I q=>h pos pins s σ H Q I (w σ H Q q)
theorem tM.mono(h:tM K E ca m σ H Q)(w:∀x H',Q x H'->Q' x H'):tM K E ca m σ H Q':=by
 obtain⟨F,τ,R,S,q⟩:=h;refine⟨F,τ,R,S,?_⟩;cases hm:m τ with
 |none=>rw[hm]at q;exact q
 |some r =>
  rw[hm]at q;cases r with
  |v v b=>exact λF' H' x B e g=>w _ _ (q F' H' x B e g)
  |x c=>exact q
theorem Bg.mono(h:Bg K E ca ms σ H Q)(w:∀x H',Q x H'->Q' x H'):Bg K E ca ms σ H Q':=by
 obtain⟨F,τ,R,S,q⟩:=h;refine⟨F,τ,R,S,?_⟩;cases hm:ms τ with
 |none=>rw[hm]at q;exact q
 |some r =>
  rw[hm]at q;cases r with
  |v v b=>exact λF' H' x e g=>w _ _ (q F' H' x e g)
  |x c=>exact q
theorem FO(h:Bg K E ca AD σ H Q):Q [] H:=by
 obtain⟨F,τ,R,S,q⟩:=h;exact q F H [] (Ext.refl S.fh) .nil
theorem FP(h:Bg K E ca (AB m ms) σ H Q):tM K E ca m σ H λx H1=>Bg K E ca ms σ H1 λxs H2=>Q (x::xs) H2:=by
 obtain⟨F,τ,R,S,q⟩:=h;refine⟨F,τ,R,S,?_⟩;unfold AB at q;cases hm:m τ with
 |none=>rw[hm]at q;exact q
 |some r =>
  rw[hm]at q;cases r with
  |x c=>exact q
  |v t b =>
   intro F' H' x B e g;obtain⟨F2,e2,_,r2⟩:=DS.frz S e g;have S2:=S.ext e2;refine⟨F2,τ,R,S2,?_⟩;cases hs:ms τ with
   |none=>rw[hs]at q;exact q.elim
   |some r =>
    simp only[hs]at q;cases r with
    |x c=>exact λF3 H3 e3=>q F3 H3 (e2.trans0 e3)
    |v ts b' =>
     intro F3 H3 xs e3 rs;refine q F3 H3 (x::xs) (e2.trans0 e3) ?_;refine .cons (H:=H3) ((r2.frame (zkr S2 e3 (by grind)) λa z=>z.elim)) ?_
     cases b' with
     |true=>grind
     |false =>
      cases b with
      |false=>exact rs
      |true=>exact rs.same (LN (S2.ext e3))
theorem FQ(h:tM K E ca (BN g ms) σ H Q):Bg K E ca ms σ H λxs H1=>DF K g xs H1 Q:=by
 obtain⟨F,τ,R,S,q⟩:=h;refine⟨F,τ,R,S,?_⟩;unfold BN at q;cases hs:ms τ with
 |none=>rw[hs]at q;exact q.elim
 |some r =>
  simp only[hs]at q;cases r with
  |x c=>exact q
  |v ts b =>
   intro F1 H1 xs e1 rs;have S1:=S.ext e1;cases hg:g ts with
   |none=>simp only[hg]at q;exact q.elim
   |some v =>
    simp only[hg]at q;refine⟨Gz b F1 H1 R,ts,v,PF S1,rs,hg,λF2 H2 z C e2 r2=>?_⟩
    unfold As at q;cases b with
    |false=>exact q F2 H2 z C (e1.trans0 e2) r2
    |true =>
     cases hf:v.flat with
     |false =>
      rw[hf]at q;exact False.elim q
     |true =>
      rw[hf]at q;exact q F1 H2 z R0 (e1.grow e2.hh) (r2.flat_any hf)
theorem rTn2(h:DF K (g2 g) [x,y] H Q):BY K g x y H Q:=by
 obtain⟨F,ts,v,fh,rs,e,q⟩:=h;unfold g2 at e;split at e
 .obtain⟨x1,xs1,e1,r1,rs1⟩:=rs.inv;obtain⟨x2,xs2,e2,r2,rs2⟩:=rs1.inv;cases e1;cases e2;exact⟨F,_,_,v,fh,r1,r2,e,q⟩
 .cases e
theorem rTn1(h:DF K (g1 g) [x] H Q):K5 K g x H Q:=by
 obtain⟨F,ts,v,fh,rs,e,q⟩:=h;unfold g1 at e;split at e
 .obtain⟨x1,xs1,e1,r1,rs1⟩:=rs.inv;cases e1;exact⟨F,_,v,fh,r1,e,q⟩
 .cases e
theorem Mm(h:tM K E ca (BN (g2 g) (AB ma (AB mb AD))) σ H Q):HF (BY K g) (tM K E ca ma) (tM K E ca mb) σ H Q :=
 (FP (FQ h)).mono λx H1 h1=>(FP h1).mono λy H2 h2=>rTn2 (FO h2)
theorem zlq(h:tM K E ca (BN (g1 g) (AB ma AD)) σ H Q):R9 (K5 K g) (tM K E ca ma) σ H Q :=
 (FP (FQ h)).mono λx H1 h1=>rTn1 (FO h1)
theorem zlh(h:tM K E ca (AA i) σ H Q):Mi i σ H Q:=by
 obtain⟨F,τ,R,S,q⟩:=h;unfold AA at q;split at q
 .rename_i t ht;obtain⟨x,e,r⟩:=S.rep i t ht;refine⟨x,e,q F H x R0 (Ext.refl S.fh) ?_⟩;cases hs:t.sh with
  |true=>exact r.move hs (.refl _)
  |false=>exact⟨rfl,R i,λa z=>⟨i,z⟩,r⟩
 .exact False.elim q
theorem UT(hN:X.N[i]?=some x)(hv:C8 X.env.scope x)(hd:(x == "__debug__")=false)(hcd:(x == "__classdict__")=false):PE X (.Name x pos) (tM X.K E ca (AA i)):=PE.weak (E5 hN hv hd hcd) λ_ _ _ h=>zlh h
theorem Ic(h:PE X e (tC v))(r:∀F H,Rp X.K F H t v R0):PE X e (tM X.K E ca (mC t)):=PE.weak h λσ H Q h=>by
 obtain⟨F,τ,R,S,q⟩:=h;exact q F H v R0 (Ext.refl S.fh) (r _ _)
theorem UZ:PA X [] (Bg X.K E ca AD):=PA.weak EJ λσ H Q h=>FO h
theorem U7(ha:PE X e (tM X.K E ca m))(hr:PA X es (Bg X.K E ca ms))(hs:starEach (e::es) X.env=(false,eval e X.env)::starEach es X.env):PA X (e::es) (Bg X.K E ca (AB m ms)) :=
 PA.weak (DH ha hr hs) λσ H Q h=>FP h
theorem U9(ho:Ab X (binaryOp op) (BY X.K g))(ha:PE X a (tM X.K E ca ma))(hb:PE X b (tM X.K E ca mb)):PE X (.BinOp a op b pos) (tM X.K E ca (BN (g2 g) (AB ma (AB mb AD)))) :=
 PE.weak (pe_op ho ha hb) λσ H Q h=>Mm h
theorem r_un(ho:J2 X (unaryOp op) (K5 X.K g))(ha:PE X a (tM X.K E ca ma)):PE X (.UnaryOp op a pos) (tM X.K E ca (BN (g1 g) (AB ma AD))) :=
 PE.weak (pe_un ho ha) λσ H Q h=>zlq h
theorem r_cmp(ho:Ab X (compareOp op) (BY X.K g))(ha:PE X a (tM X.K E ca ma))(hb:PE X b (tM X.K E ca mb))(hm:behindInMarks op b=false):PE X (.Compare a [op] [b] pos) (tM X.K E ca (BN (g2 g) (AB ma (AB mb AD)))) :=
 PE.weak (zjq ho ha hb hm) λσ H Q h=>Mm h
theorem KJ  (h:BH K E ca m σ H Q):tM K E ca m σ H λx H1=>∃k,x=.bl k/\Q k H1:=by
 obtain⟨F,τ,R,S,q⟩:=h;refine⟨F,τ,R,S,?_⟩;cases hm:m τ with
 |none=>rw[hm]at q;exact q
 |some r =>
  rw[hm]at q;cases r with
  |x c=>exact q
  |v v b =>
   cases v with
   |bl k =>
    intro F' H' x B e g
    have hx:x=.bl k:=by
     cases b with
     |true=>obtain⟨_,A,_,r⟩:=g;exact r.bl_inv
     |false=>exact(g).bl_inv
    exact⟨k,hx,q F' H' (e.mono λ_ z=>z.elim)⟩
   |_=>exact q.elim
theorem zma(ho:Ab X (compareOp op) (BY X.K g))(ha:PE X a (tM X.K E ca ma))(hb:PE X b (tM X.K E ca mb))(hm:behindInMarks op b=false):PT X (.Compare a [op] [b] pos) (BH X.K E ca (BN (g2 g) (AB ma (AB mb AD)))) :=
 PT.weak (zjc ho ha hb hm) λσ H Q h=>Mm (KJ h)
theorem NN(h:PE X e (tM X.K E ca m))(he:∀whole,isTrue e X.env whole=(do let v <- whole;standAt e.pos;holding [v] (truthy v))):PT X e (BH X.K E ca m):=PT.weak (zmk h he) λσ H Q h=>KJ h
theorem Rv  (h:BH K E ca (DK mc ma mb) σ H Q):BH K E ca mc σ H λk H1=>if k=true then BH K E ca ma σ H1 Q else BH K E ca mb σ H1 Q:=by
 obtain⟨F,τ,R,S,q⟩:=h;refine⟨F,τ,R,S,?_⟩;unfold DK at q;cases hm:mc τ with
 |none=>rw[hm]at q;exact q.elim
 |some r =>
  simp only[hm]at q;cases r with
  |x c=>exact q
  |v v b =>
   cases v with
   |bl k =>
    intro F1 H1 e1;have S1:=S.ext e1
    have key:∀{mm },(match mm τ with
      |some (.v (.bl c) _)=>∀F' H',Ext F H F' H' R0->Q c H'
      |some (.v _ _)=>False
      |some (.x c)=>∀F' H',Ext F H F' H' R0->XE (E σ) ca c F' H'
      |none=>False)->BH K E ca mm σ H1 Q:=λ{mm} q=>by
     refine⟨F1,τ,R,S1,?_⟩;cases hr:mm τ with
     |none=>grind
     |some r =>
      simp only[hr]at q;cases r with
      |x c=>exact λF' H' e=>q F' H' (e1.trans0 e)
      |v v b =>
       cases v with
       |bl k=>exact λF' H' e=>q F' H' (e1.trans0 e)
       |_=>exact q.elim
    cases k with
    |true=>exact JK (key q)
    |false=>exact JL (key q)
   |_=>exact q.elim
theorem Rn(h:tM K E ca (DK mc ma mb) σ H Q):BH K E ca mc σ H λk H1=>if k=true then tM K E ca ma σ H1 Q else tM K E ca mb σ H1 Q:=by
 obtain⟨F,τ,R,S,q⟩:=h;refine⟨F,τ,R,S,?_⟩;unfold DK at q;cases hm:mc τ with
 |none=>rw[hm]at q;exact q.elim
 |some r =>
  simp only[hm]at q;cases r with
  |x c=>exact q
  |v v b =>
   cases v with
   |bl k =>
    intro F1 H1 e1;have S1:=S.ext e1
    have key:∀{mm },(match mm τ with
      |some (.v v b)=>∀F' H' x B,Ext F H F' H' B->DS K F' H' R v b x B->Q x H'
      |some (.x c)=>∀F' H',Ext F H F' H' R0->XE (E σ) ca c F' H'
      |none=>False)->tM K E ca mm σ H1 Q:=λ{mm} q=>by
     refine⟨F1,τ,R,S1,?_⟩;cases hr:mm τ with
     |none=>grind
     |some r =>
      simp only[hr]at q;cases r with
      |x c=>exact λF' H' e=>q F' H' (e1.trans0 e)
      |v v b=>exact λF' H' x B e g=>q F' H' x B (e1.trans0 e) g
    cases k with
    |true=>exact JK (key q)
    |false=>exact JL (key q)
   |_=>exact q.elim
theorem r_ife(hc:PT X c (BH X.K E ca mc))(ha:PE X a (tM X.K E ca ma))(hb:PE X b (tM X.K E ca mb)):PE X (.IfExp c a b pos) (tM X.K E ca (DK mc ma mb)):=PE.weak (zh1 hc ha hb) λσ H Q h=>Rn h
theorem zis(h:BH K E ca (Ax mc) σ H Q):Rh (BH K E ca mc) σ H Q:=by
 obtain⟨F,τ,R,S,q⟩:=h;refine⟨F,τ,R,S,?_⟩;unfold Ax at q;cases hm:mc τ with
 |none=>rw[hm]at q;exact q.elim
 |some r =>
  simp only[hm]at q;cases r with
  |x c=>exact q
  |v v b =>
   cases v with
   |bl k=>exact q
   |_=>exact q.elim
theorem zm9(hc:PT X c (BH X.K E ca mc)):PT X (.UnaryOp .Not c pos) (BH X.K E ca (Ax mc)):=PT.weak (zml hc) λσ H Q h=>zis h
theorem zlr(h:tM K E ca (Ax mc) σ H Q):Rf (tM K E ca mc) σ H Q:=by
 obtain⟨F,τ,R,S,q⟩:=h;refine⟨F,τ,R,S,?_⟩;unfold Ax at q;cases hm:mc τ with
 |none=>rw[hm]at q;exact q.elim
 |some r =>
  simp only[hm]at q;cases r with
  |x c=>exact q
  |v v b =>
   cases v with
   |bl k =>
    intro F' H' x B e g
    have hx:x=.bl k:=by
     cases b with
     |true=>obtain⟨_,A,_,r⟩:=g;exact r.bl_inv
     |false=>exact(g).bl_inv
    exact⟨k,hx,q F' H' _ R0 (e.mono λ_ z=>z.elim) (.bl _)⟩
   |_=>exact q.elim
theorem r_not(ha:PE X a (tM X.K E ca ma)):PE X (.UnaryOp .Not a pos) (tM X.K E ca (Ax ma)):=PE.weak (zn0 ha) λσ H Q h=>zlr h
theorem Rm(h:tM K E ca (DK mc ma mb) σ H Q):tM K E ca mc σ H λx H1=>∃k,x=.bl k/\if k=true then tM K E ca ma σ H1 Q else tM K E ca mb σ H1 Q:=KJ (Rn h)
theorem Rt(r:∀F H,Rp K F H t v R0)(h:tM K E ca (mC t) σ H Q):Q v H:=by
 obtain⟨F,τ,R,S,q⟩:=h;exact q F H v R0 (Ext.refl S.fh) (r _ _)
theorem Ua{BO}(ha:PE X a (tM X.K E ca ma))(hb:PE X (.BoolOp .And (b::BO) pos) (tM X.K E ca mb)):PE X (.BoolOp .And (a::b::BO) pos) (tM X.K E ca (Ct ma mb)) :=
 PE.weak (zn4 ha hb) λσ H Q h=>(Rm h).mono λx H1 ⟨k,e,q⟩=>⟨k,e,by
  cases k with
  |true=>exact q
  |false=>exact Rt (λ_ _=>.bl _) q⟩
theorem UW{BO}(ha:PE X a (tM X.K E ca ma))(hb:PE X (.BoolOp .Or (b::BO) pos) (tM X.K E ca mb)):PE X (.BoolOp .Or (a::b::BO) pos) (tM X.K E ca (BU ma mb)) :=
 PE.weak (pe_or ha hb) λσ H Q h=>(Rm h).mono λx H1 ⟨k,e,q⟩=>⟨k,e,by
  cases k with
  |true=>exact Rt (λ_ _=>.bl _) q
  |false=>exact q⟩
theorem UX(ha:PE X a (tM X.K E ca ma)):PE X (.BoolOp op [a] pos) (tM X.K E ca ma):=zmz ha
theorem BH.mono(h:BH K E ca m σ H Q)(w:∀x H',Q x H'->Q' x H'):BH K E ca m σ H Q':=by
 obtain⟨F,τ,R,S,q⟩:=h;refine⟨F,τ,R,S,?_⟩;cases hm:m τ with
 |none=>rw[hm]at q;exact q
 |some r =>
  rw[hm]at q;cases r with
  |v v b =>
   cases v with
   |bl k=>exact λF' H' e=>w _ _ (q F' H' e)
   |_=>exact q.elim
  |x c=>exact q
theorem Mn(h:BH K E ca (mC (.bl k)) σ H Q):Q k H:=by
 obtain⟨F,τ,R,S,q⟩:=h;exact q F H (Ext.refl S.fh)
theorem PW.weak(h:PW X e t)(w:∀σ H Q,t' σ H Q->t σ H Q):PW X e t':=λwh pins s σ H Q I q=>h wh pins s σ H Q I (w σ H Q q)
theorem US{BO}(ha:PT X a (BH X.K E ca ma))(hb:PW X (.BoolOp .And (b::BO) pos) (BH X.K E ca mb)):PW X (.BoolOp .And (a::b::BO) pos) (BH X.K E ca (Ct ma mb)) :=
 PW.weak (zmj ha hb) λσ H Q h=>(Rv h).mono λk H1 q=>by
  cases k with
  |true=>exact q
  |false=>exact Mn q
theorem UP{BO}(ha:PT X a (BH X.K E ca ma))(hb:PW X (.BoolOp .Or (b::BO) pos) (BH X.K E ca mb)):PW X (.BoolOp .Or (a::b::BO) pos) (BH X.K E ca (BU ma mb)) :=
 PW.weak (pw_or ha hb) λσ H Q h=>(Rv h).mono λk H1 q=>by
  cases k with
  |true=>exact Mn q
  |false=>exact q
theorem UR(ha:PT X a (BH X.K E ca ma)):PW X (.BoolOp .And [a] pos) (BH X.K E ca ma):=zj9 ha
theorem UQ(ha:PT X a (BH X.K E ca ma)):PW X (.BoolOp .Or [a] pos) (BH X.K E ca ma):=zmi ha
end
section
variable {X:Cx}{pins:List (Addr×Obj)}{σ:L2.St}{H:Hp}{s:Shared}{h':Heap}
theorem GI{ch:List Addr}(I:Inv X pins σ H s)(k:∀b o,b∉ch->s.heap.get? b=some o->h'.get? b=some o)(f:∀b∈ch,CP X pins H b):Inv X pins σ H { s with heap:=h',toks:=t'}:=by
 have nit:∀b u,H b=some u->b∉ch:=λb u e z=>by rw[(f b z).1]at e;cases e
 refine I.step (λb hb=>?_) (λb o _ _ hc e _=>k b o hc e) (λb o _ _ hc e _=>⟨o.slots,k b o hc e⟩) (λ_ _ _ _ n=>n)
  (λb o hc e=>⟨o,k b o hc e⟩) (λ_ _ e=>e) (λ_ _ _ e=>e) (λb ps e=>⟨#[],by rw[e];simp⟩) (λm hm=>?_) (λb u e=>?_) I.bare
 .obtain⟨_,f1,f2,f3,f4,f5⟩:=f b hb
  grind
 .obtain⟨o,es,ep,ho,r⟩:=hm;exact⟨o,es,ep,k _ o (λz=>(f _ z).2.1 rfl) ho,r⟩
 .refine(I.hok b u e).stay (λc v hc q=>k c v ?_ q) (λ_ q=>q) λ_ _ q=>q
  grind
theorem R7{ch:List Addr}{p:Addr}(I:Inv X pins σ H s)(k:∀b o,b∉ch->s.heap.get? b=some o->h'.get? b=some o)(f:∀b∈ch,CP X pins H b)(hp:s.heap.objs.size<=p)(new:CN X.prog X.w (upd H p o) h' p o) :
  Inv X pins σ (upd H p o) { s with heap:=h',toks:=t' }:=by
 have hn :=I.hok.fresh hp;have nit:∀b u,H b=some u->b∉ch:=λb u e z=>by rw[(f b z).1]at e;cases e
 have old:∀b ob,s.heap.get? b=some ob->b≠p:=λb ob e z=>by
  subst z;exact absurd (ya5 e) (Nat.not_lt.mpr hp)
 refine I.step (λb hb=>?_) (λb o _ _ hc e _=>k b o hc e) (λb o _ _ hc e _=>⟨o.slots,k b o hc e⟩) (λb ob hc e n=>by rw[Ak (old b ob e)];exact n)
  (λb o hc e=>⟨o,k b o hc e⟩) (λb xs e=>by rw[Ak (Bi e hn)];exact e) (λb o u e=>by rw[Ak (Bi e hn)];exact e) (λb ps e=>⟨#[],by rw[Ak (Bi e hn),e];simp⟩) (λm hm=>?_) (λb u e=>?_) I.bare
 .obtain⟨_,f1,f2,f3,f4,f5⟩:=f b hb;exact⟨f3,f1,f4,f5⟩
 .obtain⟨o,es,ep,ho,r⟩:=hm;exact⟨o,es,ep,k _ o (λz=>(f _ z).2.1 rfl) ho,r⟩
 .by_cases hb:b=p
  .subst hb;rw[Bd]at e;cases e;exact new
  .rw[Ak hb]at e;refine(I.hok b u e).stay (λc v hc q=>k c v ?_ q) (λc q=>by rw[Ak (Bi q hn)];exact q) λc xs q=>by rw[Ak (Bi q hn)];exact q
   grind
theorem Xn(f:CP X pins H b)(h:b≠p):CP X pins (upd H p o) b:=⟨by rw[Ak h];exact f.1,f.2⟩
end
def Qs(K:k6)(k:Nat)(l:Addr):It :=
 ⟨λi H=>∃xs x,A9 K H l xs/\xs[i]?=some x,λi H x H'=>∃p y,x=.ref p/\H p=none/\H'=upd H p (.tup [.int ((k+i:Nat):Int),y])/\∀xs,A9 K H l xs->xs[i]?=some y,λi H=>∃xs,A9 K H l xs/\xs.length<=i⟩
theorem drw  {w:World}    {n:Nat}  {St }(D:Draws P w A it fp n Q St)(k:Nat):Draws P w A it fp (k+n) (λj x=>∃i,j=k+i/\Q i x) (λj h=>∃i,j=k+i/\St i h) where
 live:=λ_ h ⟨i,_,st⟩=>D.live i h st
 frame:=λ_ h h' ⟨i,e,st⟩ c=>⟨i,e,D.frame i h h' st c⟩
 item:=λj s R E hj ⟨i,e,st⟩ hQ=>D.item i s R E (by omega) st λx h' tk q st' sb=>hQ x h' tk ⟨i,e,q⟩ ⟨i+1,by omega,st'⟩ sb
 done:=λs R E ⟨i,e,st⟩ hE=>D.done s R E (by grind) hE
theorem zkw(he:IsEnum h e it i old)(hi:h.IsListIter it l j)(hl:h.IsList l its):l≠it/\l≠e:=by
 obtain⟨o,h1,c1,_⟩:=hl;obtain⟨o2,h2,c2,_⟩:=hi
 grind
theorem drw0       (hh:A.handled=none)(hi:its[i]?=none):Draws P w A it [it,l] i (λ_ _=>True) (λj h=>j=i/\h.IsListIter it l i/\h.IsList l its) where
 live:=λ_ _ ⟨_,⟨o,ho,_⟩,_⟩=>⟨o,ho⟩
 frame:=λ_ _ _ ⟨e,a,b⟩ c=>⟨e,a.at λo q=>c it (by simp) o q,b.at λo q=>c l (by simp) o q⟩
 item:=λj _ _ _ hj ⟨e,_⟩=>absurd hj (by omega)
 done:=λ_ _ _ ⟨_,a,b⟩ hE=>wpAny_nextOf_list_end hh a b hi hE
theorem zey{K}(k:Nat)(l e it:Addr)(hei:e≠it) :
  Turn P w K (.Tuple elts kk tpos) (Qs K k l) [e,it] e (λi h=>(∃old,IsEnum h e it (k+i:Nat) old)/\h.IsListIter it l i) where
 mem:=by simp
 obj:=λi h st b hb=>by
  obtain⟨⟨old,he⟩,o,hi,hc,hd⟩:=st;obtain rfl|hb:=yaa.mp hb
  .exact⟨_,he,λv z=>by
    have z' :=z;cases z'⟩
  .have q :=by simpa using hb
   subst q;exact⟨o,hi,λv z=>by rw[hd]at z;cases z⟩
 keep:=λi h h' st k=>by
  obtain⟨⟨old,he⟩,hi⟩:=st;exact⟨⟨old,k e (by simp) _ he⟩,hi.at λo q=>k it (by simp) o q⟩
 item:=by
  intro X hP hw hK hc i pins s σ H E I hf st hg;subst hP hw hK;obtain⟨⟨old,he⟩,hit⟩:=st;obtain⟨xs,x,hq,hx⟩:=hg;obtain⟨its,rv,p,hz⟩:=I.list hq;obtain⟨u,hu,ru⟩:=rv.get hx;have elt :=ya5 he;have ilt:it<s.heap.objs.size:=by obtain⟨o,q,_⟩:=hit;exact ya5 q
  have hn :=I.hok.fresh (ya9 _);obtain⟨n1,n2⟩:=zkw he hit p.isList;have hlt:i<its.toArray.size:=by simpa using (ya3.mp hu).1
  refine wpAny_pyNext_enum_itemD (drw (Draws.list (A:=X.A.in1) (I.ok.hd hc) it l n1 _) k) he ⟨i,rfl,hit,p.isList⟩ (by omega) hei (by simp[hei,yao n2]) λx' h' tk hx' ho hit' hT hsz hk=>?_
  obtain⟨i',e1,hx'⟩:=hx';have e1:i'=i:=by omega
  subst e1
  have e2 :=by
   rw[List.getElem?_toArray,hu]at hx';exact(yap hx').symm
  subst e2;obtain⟨i2,e2,hit',_⟩:=hit';have e2:i2=i'+1:=by omega
  subst e2
  have I1:Inv X pins σ (upd H s.heap.objs.size (.tup [.int (k+i'),x])) { s with heap:=h',toks:=tk+1 }:=by
   refine R7 I (λb o hb q=>hk b o (λz=>hb (by simp[z])) (λz=>hb (by simp[z])) q) hf (ya9 _) ?_
   exact⟨by simp only[yb9,ybi];rw[ydz];decide,[.int (k+i') tk,x'],.cons ⟨_,rfl⟩ (.cons ru .nil),_,hT,rfl,0,rfl⟩
  have f1:∀b∈[e,it],CP X pins (upd H s.heap.objs.size (.tup [.int (k+i':Nat),x])) b:=λb hb=>Xn (hf b hb) (by
   obtain rfl|hb:=yaa.mp hb
   .exact yaf elt
   .have q :=by simpa using hb
    subst q;exact yaf ilt)
  refine⟨.ref s.heap.objs.size,rfl,wpAny_letOwnedTupleGo_enum ho λh2 he2 hs2=>?_⟩
  refine⟨.ref s.heap.objs.size,_,GI (ch:=[e]) I1 (λb o hb q=>hs2.extBut b o (λz=>hb (by simp[z])) q) (λb hb=>f1 b (by simp at hb;simp[hb])),rfl,⟨_,x,rfl,hn,rfl,λys hy=>by rw[I.list_inj hy hq];exact hx⟩,⟨⟨_,by simpa[Int.add_assoc] using he2⟩,hit'.extBut hs2.extBut hei.symm⟩,λb hb=>(f1 b hb).1⟩
 done:=by
  intro X hP hw hK hc i pins s σ H E I hf st hg;subst hP hw hK;obtain⟨⟨old,he⟩,hit⟩:=st;obtain⟨xs,hq,hx⟩:=hg;obtain⟨its,rv,p,hz⟩:=I.list hq;have hl:=rv.length;exact wpAny_pyNext_enum_endD (drw0 (I.ok.hd hc) (by simp;omega)) he ⟨rfl,hit,p.isList⟩ λh' eb=>⟨rfl,GI (ch:=[it]) I (λb o hb q=>eb b o (λz=>hb (by simp[z])) q) (λb hb=>hf b (by simp at hb;simp[hb]))⟩
 self:=λ_ _ _ _ _ st h=>wpAny_pyIter_enum st.1.choose_spec h
def Qo(K:k6)(l1 l2:Addr):It :=
  ⟨λi H=>∃xs x ys y,A9 K H l1 xs/\xs[i]?=some x/\A9 K H l2 ys/\ys[i]?=some y,
   λi H x H'=>∃p y z,x=.ref p/\H p=none/\H'=upd H p (.tup [y,z])/\(∀xs,A9 K H l1 xs->xs[i]?=some y)/\∀xs,A9 K H l2 xs->xs[i]?=some z,
   λi H=>∃xs ys,A9 K H l1 xs/\A9 K H l2 ys/\(xs.length<=i\/ys.length<=i)⟩
theorem zgk{K}(z TI TO i1 i2 l1 l2)(D:ZipApart z TI TO i1 i2 l1 l2) :
  Turn P w K (.Tuple elts kk tpos) (Qo K l1 l2) [z,TI,TO,i1,i2] z (λi h=>IsZip h z TI TO .none/\IsPair h TI (.ref i1) (.ref i2)/\(∃a b,IsPair h TO a b)/\h.IsListIter i1 l1 i/\h.IsListIter i2 l2 i) where
 mem:=by simp
 obj:=λi h st b hb=>by
  obtain⟨hz,hTI,⟨a,c,hTO⟩,⟨o1,e1,_,d1⟩,⟨o2,e2,_,d2⟩⟩:=st;simp only[yaa,yar,yed]at hb;rcases hb with rfl|rfl|rfl|rfl|rfl
  .exact⟨_,hz,λv z=>by
    have z' :=z;cases z'⟩
  .exact⟨_,hTI,λv z=>by
    have z' :=z;cases z'⟩
  .exact⟨_,hTO,λv z=>by
    have z' :=z;cases z'⟩
  .exact⟨o1,e1,λv z=>by rw[d1]at z;cases z⟩
  .exact⟨o2,e2,λv z=>by rw[d2]at z;cases z⟩
 keep:=λi h h' st k=>by
  obtain⟨hz,hTI,⟨a,c,hTO⟩,h1,h2⟩:=st;exact⟨k z (by simp) _ hz,k TI (by simp) _ hTI,⟨a,c,k TO (by simp) _ hTO⟩,h1.at λo q=>k i1 (by simp) o q,h2.at λo q=>k i2 (by simp) o q⟩
 item:=by
  intro X hP hw hK hc i pins s σ H E I hf st hg;subst hP hw hK;obtain⟨hz,hTI,⟨a,c,hTO⟩,h1,h2⟩:=st;obtain⟨xs,x,ys,y,hq,hx,hq2,hy⟩:=hg;obtain⟨its,rv,p,hzz⟩:=I.list hq;obtain⟨its2,rv2,p2,hzz2⟩:=I.list hq2;obtain⟨u,hu,ru⟩:=rv.get hx;obtain⟨u2,hu2,ru2⟩:=rv2.get hy;have hn :=I.hok.fresh (ya9 _)
  have lt:∀b∈[z,TI,TO,i1,i2],b≠s.heap.objs.size:=λb hb=>by
   simp only[yaa,yar,yed]at hb;rcases hb with rfl|rfl|rfl|rfl|rfl
   .exact yaf (ya5 hz)
   .exact yaf (ya5 hTI)
   .exact yaf (ya5 hTO)
   .obtain⟨o,q,_⟩:=h1;exact yaf (ya5 q)
   .obtain⟨o,q,_⟩:=h2;exact yaf (ya5 q)
  refine wpAny_pyNext_zip_item D hz hTI hTO h1 h2 p.isList p2.isList (by simpa using hu) (by simpa using hu2) λh' a1 a2 a3 a4 a5 a6 hk=>?_
  have I1:Inv X pins σ (upd H s.heap.objs.size (.tup [x,y])) { s with heap:=h',toks:=s.toks }:=by
   refine R7 I (λb o hb q=>hk b o (λz=>hb (by simp[z])) (λz=>hb (by simp[z])) (λz=>hb (by simp[z])) (λz=>hb (by simp[z])) q) hf (ya9 _) ?_
   exact⟨by simp only[yb9,ybi];rw[ydz];decide,[u,u2],.cons ru (.cons ru2 .nil),_,a5,rfl,0,rfl⟩
  have f1:∀b∈[z,TI,TO,i1,i2],CP X pins (upd H s.heap.objs.size (.tup [x,y])) b:=λb hb=>Xn (hf b hb) (lt b hb)
  refine⟨.ref s.heap.objs.size,rfl,wpAny_letOwnedTupleGo_zip a1 λh3 hz3 hs3=>?_⟩
  refine⟨.ref s.heap.objs.size,_,GI (ch:=[z]) I1 (λb o hb q=>hs3.extBut b o (λz=>hb (by simp[z])) q) (λb hb=>f1 b (by simp at hb;simp[hb])),rfl,⟨_,x,y,rfl,hn,rfl,(λzs hy'=>by rw[I.list_inj hy' hq];exact hx),λzs hy'=>by rw[I.list_inj hy' hq2];exact hy⟩,?_,λb hb=>(f1 b hb).1⟩
  exact⟨hz3,hs3.extBut _ _ D.TIz (hk _ _ D.TIz D.TITO D.TIi1 D.TIi2 hTI),⟨_,_,hs3.extBut _ _ D.TOz a2⟩,a3.extBut hs3.extBut D.i1z,a4.extBut hs3.extBut D.i2z⟩
 done:=by
  intro X hP hw hK hc i pins s σ H E I hf st hg;subst hP hw hK;obtain⟨hz,hTI,⟨a,c,hTO⟩,h1,h2⟩:=st;obtain⟨xs,ys,hq,hq2,hx⟩:=hg;obtain⟨its,rv,p,hzz⟩:=I.list hq;obtain⟨its2,rv2,p2,hzz2⟩:=I.list hq2;have hl:=rv.length;have hl2:=rv2.length;refine wpAny_pyNext_zip_end (I.ok.hd hc) D hz hTI hTO h1 h2 p.isList p2.isList ?_ λh' hk=>⟨rfl,GI I (λb o hb q=>hk b o (λz=>hb (by simp[z])) (λz=>hb (by simp[z])) (λz=>hb (by simp[z])) (λz=>hb (by simp[z])) q) hf⟩
  rcases hx with hx|hx
  .exact .inl (by simp;omega)
  .exact .inr (by simp;omega)
 self:=λ_ _ _ _ _ st h=>wpAny_pyIter_zip st.1 h
section
variable {X:Cx}{elts:List Expr}{kk:Nat}{tpos:Pos}
def iEnum(K:k6)(ta:TA):TI:=λσ H R=>ta σ H λvs H1=>∃a,vs=[.ref a]/\(∃xs,A9 K H1 a xs)/\R (Qs K 0 a) H1
theorem zjm(hg:Gl X "enumerate")(hm:X.mg "enumerate"=none)(ha:PA X [a] ta)(hs:starEach [a] X.env=[(false,eval a X.env)]):PI X (.Tuple elts kk tpos) (.Call (.Name "enumerate" p) [a] [] pos) (iEnum X.K ta):=by
 intro pins s σ H R I h;refine Call_ (Fm I hg hm boot_enumerate (yb4 (AU (ha pos pins s σ H _ I h) λus s1 ⟨vs,H1,I1,r1,q1⟩=>?_) hs rfl))
 obtain⟨l,e,⟨xs,hq⟩,q⟩:=q1;subst e;obtain⟨u,rfl,ru⟩:=FN r1;cases ru;obtain⟨its,rv,pl,hz⟩:=I1.list hq;refine call_enumerate_list pl.isList λh' he hit hsz hk=>?_
 have I2:Inv X pins σ H1 { s1 with heap:=h',toks:=s1.toks }:=I1.kept hk
 refine wpAny_pyIter_enum he ⟨s1.heap.objs.size+1,[s1.heap.objs.size+1,s1.heap.objs.size],_,_,H1,rfl,I2,zey 0 l _ _ (by simp),⟨⟨_,by simpa using he⟩,hit⟩,λb hb=>?_,q⟩
 have hb':s1.heap.objs.size<=b:=by
  grind
 exact I1.fpOk hb' (I1.hok.fresh hb')
def iZip(K:k6)(ta:TA):TI:=λσ H R=>ta σ H λvs H1=>∃a b,vs=[.ref a,.ref b]/\(∃xs,A9 K H1 a xs)/\(∃xs,A9 K H1 b xs)/\R (Qo K a b) H1
theorem zms(hg:Gl X "zip")(hm:X.mg "zip"=none)(ha:PA X [a,b] ta)(hs:starEach [a,b] X.env=[(false,eval a X.env),(false,eval b X.env)])(hs2:starEach [b] X.env=[(false,eval b X.env)]):PI X (.Tuple elts kk tpos) (.Call (.Name "zip" p) [a,b] [] pos) (iZip X.K ta):=by
 intro pins s σ H R I h;refine Call_ (Fm I hg hm boot_zip (yb4 (AU (ha pos pins s σ H _ I h) λus s1 ⟨vs,H1,I1,r1,q1⟩=>?_) (by rw[hs,hs2]) (by rw[hs2];rfl)))
 obtain⟨l1,l2,e,⟨xs,hq⟩,⟨ys,hq2⟩,q⟩:=q1;subst e;obtain⟨u,u2,rfl,ru,ru2⟩:=GH r1;cases ru;cases ru2;obtain⟨its,rv,pl,hz⟩:=I1.list hq;obtain⟨its2,rv2,pl2,hz2⟩:=I1.list hq2;have llt:l1<s1.heap.objs.size:=by obtain⟨o,n,e,_⟩:=pl;exact ya5 e
 have llt2:l2<s1.heap.objs.size:=by obtain⟨o,n,e,_⟩:=pl2;exact ya5 e
 refine call_zip_2 pl.isList pl2.isList λh' a1 a2 a3 a4 a5 a6 hk=>?_
 have I2:Inv X pins σ H1 { s1 with heap:=h',toks:=s1.toks }:=I1.kept hk
 have D:ZipApart (s1.heap.objs.size+4) (s1.heap.objs.size+2) (s1.heap.objs.size+3) s1.heap.objs.size (s1.heap.objs.size+1) l1 l2:=by
  have n1:∀k ,l1≠s1.heap.objs.size+k:=λk z=>yaw _ (yac llt (z▸Nat.le_add_right _ _))
  have n2:∀k ,l2≠s1.heap.objs.size+k:=λk z=>yaw _ (yac llt2 (z▸Nat.le_add_right _ _))
  refine⟨?_,?_,?_,?_,?_,?_,?_,?_,?_,?_,n1 4,n1 3,n1 0,n1 1,n2 4,n2 3,n2 0,n2 1⟩<;>intro z<;>simp at z
 refine wpAny_pyIter_zip a1 ⟨_,[s1.heap.objs.size+4,s1.heap.objs.size+2,s1.heap.objs.size+3,s1.heap.objs.size,s1.heap.objs.size+1],_,_,H1,rfl,I2,zgk _ _ _ _ _ l1 l2 D,⟨a1,a2,⟨_,_,a3⟩,a4,a5⟩,λb hb=>?_,q⟩
 have hb':s1.heap.objs.size<=b:=by
  grind
 exact I1.fpOk hb' (I1.hok.fresh hb')
end
section
variable {X:Cx}{pins:List (Addr×Obj)}{σ:L2.St}{H:Hp}{s:Shared}{a:Addr}{o:Obj}{kvs:List (Key×V)}
theorem znz(r:KV kvs vs):kvs.length=vs.length:=ydg (r)
end
section
variable {X:Cx}{o:Expr}{to:TE}{ap cp:Pos}{elts:List Expr}{kk:Nat}{tpos:Pos}
end
def IS(ifs:List Expr)(env:Env):Sem Bool:=forIn ifs true λc r=>if r=true then do let ok <- isTrue c env (eval c env);pure (ForInStep.yield ok) else pure (ForInStep.yield r)
def GB(X:Cx)(ifs:List Expr)(t:TT):Prop :=
 ∀(pins:List (Addr×Obj)) (s:Shared) (σ:L2.St) (H:Hp) (Q:Bool->Hp->Prop),Inv X pins σ H s->t σ H Q->wpAny (model X.prog X.w) X.A (IS ifs X.env) (TP X pins σ Q) X.xe s
theorem zjb:GB X [] (λ_ H Q=>Q true H):=λpins s σ H Q I h=>ydx ⟨H,I,h⟩
theorem zja(h:PT X c t):GB X [c] t:=λpins s σ H Q I q=>by
 have e:IS [c] X.env=(isTrue c X.env (eval c X.env) >>= λok=>pure ok):=by
  unfold IS;simp
 rw[e];exact ydt (ydq (h pins s σ H Q I q) (λb s1 h1=>ydx h1) λ_ _ z=>z)
theorem zel:compTurn (.ListComp elt [⟨target,iter,ifs,0⟩] scope pos) 0 it acc env=(standAt iter.pos >>= λ_=>pyNext it >>= λr=>match r with
  |none=>pure (.done .next)
  |some u=>letOwnedTupleGo target it u >>= λ_=>assign target env u >>= λ_=>IS ifs env >>= λok =>
   if ok=true then ((eval elt env >>= λx=>call (.builtin "list.append") [acc,x] >>= λ_=>pure ()) >>= λ_=>again (.compLoop (.ListComp elt [⟨target,iter,ifs,0⟩] scope pos) 0 it acc env))
   else again (.compLoop (.ListComp elt [⟨target,iter,ifs,0⟩] scope pos) 0 it acc env)):=by rfl
theorem zem(hN:NE=notedBy (model prog w) A env λe s'=>R (.error e) s')(I:Nat->Shared->Prop)
  (hturn : ∀ n s, I n s -> wpAny (model prog w) A (pyNext it) (fun r s₁ => match r with
   |none=>R (.ok .next) s₁
   |some v=>wpAny (model prog w) A (letOwnedTupleGo target it v) (λ_ s₁'=>wpAny (model prog w) A (assign target env v) (λ_ s₂=>wpAny (model prog w) A (IS ifs env) (λok s₂'=>if ok=true then wpAny (model prog w) A (eval elt env) (λx s₃ =>
     wpAny (model prog w) A (call (.builtin "list.append") [acc,x]) (λ_ s₄=>∃m,m<n/\I m s₄) NE s₃)
     NE s₂' else ∃m,m<n/\I m s₂') NE s₂) NE s₁') NE s₁) NE s)
  (k ) (hk:I k s):codeAny (model prog w) A (.compLoop (.ListComp elt [⟨target,iter,ifs,0⟩] scope pos) 0 it acc env) R s:=by
 subst hN;refine codeAny_loop rfl I (λn s hI=>?_) k hk
 refine wpAny_noted ?_;rw[zel];refine ydt (ydv (ydt (ydq (hturn n s hI) (λr s₁ h₁=>?_) λ_ _ z=>z)))
 cases r with
 |none=>exact ydx h₁
 |some v =>
  refine ydt (ydq h₁ (λ_ s₁' h₁'=>?_) λ_ _ z=>z)
  refine ydt (ydq h₁' (λ_ s₂ h₂=>ydt (ydq h₂ (λok s₂' h₂'=>?_) λ_ _ z=>z)) λ_ _ z=>z)
  cases ok with
  |false =>
   rw[if_neg (by decide)]at h₂' ⊢
   exact ydx ⟨rfl,h₂'⟩
  |true =>
   rw[if_pos rfl]at h₂' ⊢;exact ydt (ydt (ydq h₂' (λx s₃ h₃=>ydt (ydq h₃ (λ_ s₄ h₄=>ydx (ydx ⟨rfl,h₄⟩)) λ_ _ z=>z)) λ_ _ z=>z))
theorem Pq(env ):∀(names:List (Str×NameKind)),(∀y∈names,y.2=.free->∃c,env.cells.lookup y.1=some c)->∀acc ,∃cl ,
  (forIn names acc λ(x:Str×NameKind) r=>if (x.2 == NameKind.free)=true then do let a <- cellOf env x.1;pure (ForInStep.yield ((x.1,a)::r)) else pure (ForInStep.yield r))=pure cl /\
  (∀y c,cl.lookup y=some c->acc.lookup y=some c\/env.cells.lookup y=some c)/\(∀y∈names,y.2=.free->∃c,cl.lookup y.1=some c)/\∀y c,acc.lookup y=some c->∃c',cl.lookup y=some c'
 |[],_,acc=>⟨acc,rfl,λ_ _ e=>.inl e,(λ_ z=>by cases z),λ_ c e=>⟨c,e⟩⟩
 |(n,k)::r,h,acc=>by
  rw[List.forIn_cons]
  by_cases hk:k=.free
  .subst hk;obtain⟨c,hc⟩:=h (n,.free) (ya7 ..) rfl;have e1:cellOf env n=pure c:=by unfold cellOf;rw[hc]
   obtain⟨cl,e,h1,h2,h3⟩:=Pq env r (λy hy=>h y (ya4 _ hy)) ((n,c)::acc)
   grind
  .have hk' :=beq_eq_false_iff_ne.mpr hk;obtain⟨cl,e,h1,h2,h3⟩:=Pq env r (λy hy=>h y (ya4 _ hy)) acc
   grind
theorem zdt(scope)(env)(h:∀y∈scope.names,y.2=.free->∃c,env.cells.lookup y.1=some c):∃cl,closureFor scope env=pure cl/\(∀y c,cl.lookup y=some c->env.cells.lookup y=some c)/\∀y∈scope.names,y.2=.free->∃c,cl.lookup y.1=some c:=by
 obtain⟨cl,e,h1,h2,_⟩:=Pq env scope.names h [];refine⟨cl,?_,λy c q=>?_,h2⟩
 .have e2:closureFor scope env=(forIn scope.names [] λx r=>if (x.2 == NameKind.free)=true then do let a <- cellOf env x.1;pure (ForInStep.yield ((x.1,a)::r)) else pure (ForInStep.yield r)) >>= pure:=rfl
  grind
 grind
theorem Pt:∀(names ) (h:Heap) (acc ) (y ) (c ),(cellsFrom h.objs.size names acc).lookup y=some c->acc.lookup y=some c\/(h.objs.size<=c/\(pushCells h names).IsCell c none/\(y,NameKind.cell)∈names)
 |[],h,acc,y,c,e=>.inl e
 |(n,k)::r,h,acc,y,c,e=>by
  unfold cellsFrom at e;unfold pushCells;split at e
  .rename_i hk;rw[if_pos hk];have ez:(h.push { cls:=.type "cell",data:=.cell none }).objs.size=h.objs.size+1:=ybp ..;rw[<- ez]at e
   rcases Pt r _ _ y c e with q|⟨q1,q2,q3⟩
   .rw[ybd]at q;cases hy:y == n with
    |true =>
     rw[hy]at q;cases q;have e1 :=eq_of_beq hy;subst e1;exact .inr ⟨ya9 _,⟨_,yee _ _ _ _ (yaj _ rfl),rfl⟩,by grind⟩
    |false=>rw[hy]at q;exact .inl q
   grind
  .rename_i hk;rw[if_neg hk]
   rcases Pt r h acc y c e with q|⟨q1,q2,q3⟩
   .exact .inl q
   grind
theorem Pw:∀(names) (h:Heap) (acc:List (Str×Addr)),(∀y z c,acc.lookup y=some c->acc.lookup z=some c->y=z)->(∀y c,acc.lookup y=some c->c<h.objs.size) ->
  ∀y z c,(cellsFrom h.objs.size names acc).lookup y=some c->(cellsFrom h.objs.size names acc).lookup z=some c->y=z
 |[],h,acc,hi,_=>hi
 |(n,k)::r,h,acc,hi,hl=>by
  unfold cellsFrom;split
  .have ez:(h.push { cls:=.type "cell",data:=.cell none }).objs.size=h.objs.size+1:=ybp ..;rw[<- ez];refine Pw r _ _ (λy z c h1 h2=>?_) (λy c h1=>?_)
   .grind
   grind
  .exact Pw r h acc hi hl
theorem Pr:∀(names) (n lo:Nat) (acc:List (Str×Addr)) (y) (c),lo<=n->((y,NameKind.cell)∈names\/∃c0,acc.lookup y=some c0/\lo<=c0)->(cellsFrom n names acc).lookup y=some c->lo<=c
 |[],n,lo,acc,y,c,hn,h,e=>by
  rcases h with h|⟨c0,h1,h2⟩
  .cases h
  .have e':acc.lookup y=some c:=e
   grind
 |(m,k)::r,n,lo,acc,y,c,hn,h,e=>by
  unfold cellsFrom at e;split at e
  .refine Pr r (n+1) lo _ y c (Nat.le_succ_of_le hn) ?_ e
   grind
  .rename_i hk;refine Pr r n lo acc y c hn ?_ e
   grind
theorem zci{code}
  (hQ:Q (newEnv scope s.heap.objs.size globals (cellsFrom (s.heap.objs.size+1) scope.names cl) qual func code (some outer) builtins) { s with heap:=pushCells (s.heap.push { cls:=.type "dict",data:=.dict #[] }) scope.names }) :
  wpAny M A (newFunctionEnv scope globals cl [] qual func code (some outer) builtins) Q E s:=by
 simp only[newFunctionEnv,Option.isSome_some,ye4];refine ydt (wpAny_alloc ?_);refine ydt (wpAny_layCells _ (λname kind cells=>by rfl) _ _ _ _ ?_);rw[ybp ..]
 exact ydt (ydx (ydx hQ))
abbrev Aq(X:Cx)(scope:Scope)(cl:List (Str×Addr))(N':List Str)(C:Addr)(s₀:Shared)(H₀:Hp)(ex:List Addr)(xb:Value->Shared->Prop):Cx:={ zor X scope cl N' C s₀ H₀ ex with fn:=λx=>decide (scope.names.lookup x=some .cell),xe:=xb }
theorem Yn{h h' B B':Heap}(k:∀b o,B.get? b=none->h.get? b=some o->(∀us,o.data≠.fields us)->B'.get? b=none/\∃o',h'.get? b=some o'/\∀us,o'.data≠.fields us):∀{l},h.FunFrames B l->h'.FunFrames B' l
 |[],_=>trivial
 |_::_,⟨x,⟨L,o,y1,y2,y3,y4⟩,r⟩=>by
  obtain⟨z1,o',z2,z3⟩:=k L o y2 y3 y4;exact⟨x,⟨L,o',y1,z1,z2,z3⟩,Yn k r⟩
def Gv(X:Cx):Prop:=∃v l,X.stack=v::l/\X.env.frame=v.frame
theorem zfy{X:Cx}   {σ:L2.St}{H:Hp}        (hx:BK X E)(hst:Gv X)(I:Inv X pins σ H s)(fC:CP X pins H C)(hC:∃m,s.heap.Ns C m)(nC:C∉BM X.stack)
  (hb:benv.frame=X.env.frame) (h:Cb X.prog X.w X.stack H s (E σ) e s'):wpAny (model X.prog X.w) X.A (noteFrame e benv) (λ_ s2=>compPost (model X.prog X.w) X.A X.xe use QQ acc C (.error e) s2) EE s':=by
 obtain⟨v,l,st,hv⟩:=hst;obtain⟨a,cls,H',B,rfl,os,bare,un,hok,kB,tB,fl0,he⟩:=h;have fl1 :=st▸fl0
 obtain⟨L,hL⟩:∃L,v.frame=some L:=by
  obtain⟨_,_,_,⟨_,⟨L,_,y,_⟩,_⟩,_⟩:=fl1;exact⟨L,y⟩
 refine NY (st▸I.ok.frames) (hb.trans hv) hL fl1 λh4 held sm=>?_
 obtain⟨m,oC,es,ep,hCo,dC,rC⟩:=hC;have bC :=kB C oC hCo fC.1 nC;obtain⟨f1,f2,f3,oe,ws,Tb,oT,ts,ha,hcl,hd,g1,nT,Tne,hT,dT,g3⟩:=held
 have hne:∀{b },B.get? b=none->b≠C:=λz w=>by
  rw[w,bC]at z;cases z
 have key:∃m,h4.Ns C m/\∀h',Heap.SameBut C h4 h'->∀cenv ,cenv.locals=C->wpAny (model X.prog X.w) X.A (PySem.passOn "comprehension.variables-let-go" (.ref a) cenv:Sem Value) (λ_ _=>False) X.xe { s' with heap:=h' }:=by
  refine⟨m,⟨oC,es,ep,f1 C oC bC,dC,rC⟩,λh5 sb cenv _=>?_⟩
  have ha5 :=(sb.2 a (hne f2)).trans ha;have hT5 :=(sb.2 Tb (hne nT)).trans hT;unfold PySem.passOn;refine ydt (ye8 ha5 hd g1 ?_);rw[if_neg (by simp)]
  refine ydt ?_;unfold setFlight;refine ydt (ye8 ha5 hd g1 ?_);rw[if_pos (by simp)]
  refine ye7 hT5 dT (ybb.mp g3).1 (wpAny_throw ?_);generalize hfl:(cenv.frame.elim Value.none λf=>rawInt f)=fl
  have dT6:=yck dT (·.setIfInBounds 3 fl);have hT6:=yc5 (Obj.mapFields (·.setIfInBounds 3 fl)) hT5 (ycy dT6);generalize hh6:h5.update Tb (Obj.mapFields (·.setIfInBounds 3 fl))=h6 at hT6 ⊢
  have to6:∀b o,b≠C->b≠Tb->h4.get? b=some o->h6.get? b=some o:=λb o n1 n2 e=>by
   rw[<- hh6,yb2 _ _ (yao n2)];exact(sb.2 b n1).trans e
  have B6 :=λb o n e=>to6 b o n (λz=>by rw[z,nT]at e;cases e) (f1 b o e)
  have hid:∀{b } {o },(PySem.W.hideAll s.heap [C]).get? b=some o->s.heap.get? b=some o/\b≠C:=λ{b o} e=>⟨ybx _ e,λz=>by
   rw[z,yd1 [C] (yab.mpr rfl)]at e;cases e⟩
  have hidB:∀{b } {o },b≠C->B.get? b=some o->(PySem.W.hideAll B [C]).get? b=some o:=λ{b o} n e=>ybl _ e (λz=>n (yab.mp z))
  have hidN:∀{b },B.get? b=none->(PySem.W.hideAll B [C]).get? b=none:=λ{b} e=>by
   cases q:(PySem.W.hideAll B [C]).get? b with
   |none=>rfl
   |some o =>
    rw[ybx _ q]at e;cases e
  have IX :=GI (t':=s.toks) I (λb o n e=>ybl _ e n) λb z=>by
   rw[yab.mp z];exact fC
  have slot:∀b o,s.heap.get? b=some o->H b=none->b∈BM X.stack->∃z,h6.get? b=some { o with slots:=z }:=λb o e n z=>by
   obtain⟨_,o2,ho2,d2⟩:=I.stack.mem z;rw[e]at ho2;cases ho2;obtain⟨z2,e2⟩:=un.slot b o e n z (by simp)
   obtain⟨z3,e3⟩:=sm b _ e2 d2;refine⟨z3,to6 b _ (λw=>nC (w▸z)) (λw=>?_) e3⟩
   rw[w,hT]at e3;cases e3;exact d2 _ dT
  have HC :=un.free C oC hCo fC.1 (by simp)
  refine hx pins σ H _ _ _ IX ⟨a,cls,H',PySem.W.hideAll B [C],rfl,os,bare,⟨λb o e n z _=>?_,λb o e n z _=>slot b o (hid e).1 n z,λb o e n z=>un.free b o (hid e).1 n z,λb o e _=>?_,un.tups,un.frzs,un.tbls⟩,?_,λb o e n z=>hidB (hid e).2 (kB b o (hid e).1 n z),λb o e z=>?_,⟨fl,λb o e=>?_,hidN f2,?_,?_⟩,he⟩
  .exact B6 b o (hid e).2 (kB b o (hid e).1 n z)
  .by_cases z:b∈BM X.stack
   .obtain⟨w,q⟩:=slot b o (hid e).1 (I.stkFree b z) z;exact⟨_,q⟩
   .obtain⟨o',q⟩:=tB b o (hid e).1 z;exact⟨o',B6 b o' (hid e).2 q⟩
  .intro b u e;refine(hok b u e).stay (λc x hc q=>hidB (λw=>?_) q) (λ_ q=>q) λ_ _ q=>q
   rcases hc with y|y
   .rw[<- y,w,HC]at e;cases e
   .rw[w,HC]at y;cases y
  .obtain⟨o',q⟩:=tB b o (hid e).1 z;exact⟨o',hidB (hid e).2 q⟩
  .have e':=ybx _ e;refine B6 b o (λw=>?_) e'
   rw[w,yd1 [C] (yab.mpr rfl)]at e;cases e
  .rw[st];refine Yn (λb o n e d=>⟨hidN n,o,to6 b o (hne n) (λw=>?_) e,d⟩) f3
   rw[w,hT]at e;cases e;exact d _ dT
  .refine⟨oe,ws,Tb,_,_,?_,hcl,hd,g1,hidN nT,Tne,hT6,dT6,?_⟩
   .rw[<- hh6,yb2 _ _ Tne];exact ha5
   .simp[Array.getElem?_setIfInBounds,(ybb.mp g3).1]
 cases use<;>exact key
structure TurnG(cq:Cx->Prop)(P:Program)(w:World)(K:k6)(tg:Expr)(J:It)(fp:List Addr)(it:Addr)(tn:Nat->Heap->Prop):Prop where
 obj:∀i h,tn i h->∀b∈fp,∃o,h.get? b=some o/\∀v,o.data≠.cell v
 keep:∀i h h',tn i h->(∀b∈fp,∀o,h.get? b=some o->h'.get? b=some o)->tn i h'
 item:∀(X:Cx),X.prog=P->X.w=w->X.K=K->cq X->∀(i:Nat) (pins:List (Addr×Obj)) (s:Shared) (σ:L2.St) (H:Hp) (E:Value->Shared->Prop),Inv X pins σ H s->(∀b∈fp,CP X pins H b)->tn i s.heap->J.go i H ->
  wpAny (model P w) X.A (pyNext (.ref it)) (λr s1=>∃u,r=some u/\wpAny (model P w) X.A (letOwnedTupleGo tg (.ref it) u) (λ_ s2=>∃x H',Inv X pins σ H' s2/\A3 x u/\J.yld i H x H'/\tn (i+1) s2.heap/\∀b∈fp,H' b=none) E s1) E s
 done:∀(X:Cx),X.prog=P->X.w=w->X.K=K->cq X->∀(i:Nat) (pins:List (Addr×Obj)) (s:Shared) (σ:L2.St) (H:Hp) (E:Value->Shared->Prop),Inv X pins σ H s->(∀b∈fp,CP X pins H b)->tn i s.heap->J.stop i H ->
  wpAny (model P w) X.A (pyNext (.ref it)) (λr s1=>r=none/\Inv X pins σ H s1) E s
 self:∀(A:Around) (i:Nat) (s:Shared) (Q:Value->Shared->Prop) (E:Value->Shared->Prop),tn i s.heap->Q (.ref it) s->wpAny (model P w) A (pyIter (.ref it)) Q E s
def PJ(cq:Cx->Prop)(X:Cx)(tg iter:Expr)(wi:TI):Prop :=
 ∀(pins:List (Addr×Obj)) (s:Shared) (σ:L2.St) (H:Hp) (R:It->Hp->Prop),Inv X pins σ H s->wi σ H R ->
  wpAny (model X.prog X.w) X.A (eval iter X.env) (λv s1=>wpAny (model X.prog X.w) X.A (pyIter v) (λitv s2=>∃(it:Addr) (fp:List Addr) (tn:Nat->Heap->Prop) (J:It) (H':Hp),itv=.ref it/\Inv X pins σ H' s2/\TurnG cq X.prog X.w X.K tg J fp it tn/\tn 0 s2.heap/\(∀b∈fp,CP X pins H' b)/\R J H') X.xe s1) X.xe s
theorem Um(h:PI X tg iter wi):PJ (λX=>X.calm=true) X tg iter wi:=λpins s σ H R I q =>
 AU (h pins s σ H R I q) λ_ _ h1=>AU h1 λ_ _ ⟨it,fp,tn,J,H',e,I2,T,r⟩=>⟨it,fp,tn,J,H',e,I2,⟨T.obj,T.keep,T.item,T.done,T.self⟩,r⟩
section
variable {X:Cx}{elt iter tg:Expr}{ifs:List Expr}{scope:Scope}{pos pos2:Pos}{cl:List (Str×Addr)}{N':List Str}{wi:TI}{g:TG}{tt:TT}{te:TE}
def KL(σ':L2.St->L2.St)(wi:TI)(g:TG)(tt:TT)(te:TE):TE:=λσ H Q=>wi σ H λJ H1=>∃(W:Nat->List V->L2.St->Hp->Prop) (n:Nat),n<=sizeLine/\W 0 [] (σ' σ) H1/\∀i ys τ H,W i ys τ H->ys.length<=i/\i<=n /\
 ((J.stop i H/\∀p,H p=none->Q (.ref p) (upd H p (.lst ys)))\/(i<n/\J.go i H/\∀x H',J.yld i H x H'->g x τ H' λτ2 H2=>tt τ2 H2 λk H3=>if k=true then te τ2 H3 λy H4=>W (i+1) (ys++[y]) τ2 H4 else W (i+1) ys τ2 H3))
theorem XG(σ':L2.St->L2.St)(hclos:closureFor scope X.env=pure cl)(hkind:scope.kind=.function)(hnames:∀y∈scope.names,y.2=.local->scope.names.lookup y.1=some .local)
  (hcl:∀y c,cl.lookup y=some c->X.env.cells.lookup y=some c) (hhas:∀y,(relabel scope X.env).names.lookup y=some .cell\/(relabel scope X.env).names.lookup y=some .free->(y,NameKind.cell)∈scope.names\/∃c,cl.lookup y=some c) (hcap:∀(σ:L2.St) (i:Nat) (y:Str) (v:V),N'[i]?=some y->(σ' σ)[i]?=some (some v)->(y,NameKind.cell)∉scope.names)
  (hσ:∀σ:L2.St,σ.length=X.N.length->(σ' σ).length=N'.length)
  (hvis:∀(σ:L2.St) (i:Nat) (y:Str) (v:V),N'[i]?=some y->(σ' σ)[i]?=some (some v)->((relabel scope X.env).names.lookup y=some .cell\/(relabel scope X.env).names.lookup y=some .free)/\∃j:Nat,X.N[j]?=some y/\σ[j]?=some (some v)/\C8 X.env.scope y/\X.env.kindOf y≠some .local)
  {cq:Cx->Prop} (hc:∀pins σ H s cl C ex xb,Inv X pins σ H s->cq (Aq X scope cl N' C s H ex xb)) (hi:PJ cq X tg iter wi) {E:L2.St->XK} (hps:BK X E) (hst:Gv X) {σ:L2.St} (hg:∀cl C s₀ H₀ ex xb,BK (Aq X scope cl N' C s₀ H₀ ex xb) (λ_=>E σ)->PG (Aq X scope cl N' C s₀ H₀ ex xb) tg g) (ht:∀cl C s₀ H₀ ex xb,BK (Aq X scope cl N' C s₀ H₀ ex xb) (λ_=>E σ)->GB (Aq X scope cl N' C s₀ H₀ ex xb) ifs tt) (he:∀cl C s₀ H₀ ex xb,BK (Aq X scope cl N' C s₀ H₀ ex xb) (λ_=>E σ)->PE (Aq X scope cl N' C s₀ H₀ ex xb) elt te)
  (hs:∀x,foldedSetIterable iter X.env x=pure x) {use:Option (Value->Sem Unit)} {pins:List (Addr×Obj)} {s:Shared} {H:Hp} {Q:VK} {QQ:Value->Shared->Prop} (I:Inv X pins σ H s) (h:KL σ' wi g tt te σ H Q)
  (hend:∀(D C:Addr) (s5:Shared) (H5:Hp),Inv X pins σ H5 s5->Q (.ref D) H5->(∃m,s5.heap.Ns C m)->CP X pins H5 C->compPost (model X.prog X.w) X.A X.xe use QQ (.ref D) C (.ok .next) s5) :
  wpAny (model X.prog X.w) X.A (comprehension (.ListComp elt [⟨tg,iter,ifs,0⟩] scope pos) scope X.env pos2 (newList []) false (eval iter X.env) use) QQ X.xe s:=by
 refine wpAny_comprehension_free (use:=use) rfl hs hclos hkind hnames (AU (hi pins s σ H _ I h) λv s1 h1=>AU h1 λitv s2 h2=>?_)
 obtain⟨it,fp,tn,J,H2,e,I2,T,st2,f2,W,n,hn,w0,turn⟩:=h2;subst e;refine wpAny_newObj_type (zci ?_);dsimp only;generalize hHp:s2.heap.push { cls:=.type "list",dict:=none,data:=.seq ([]:List Value).toArray }=P2;generalize hcl':cellsFrom (P2.objs.size+1) scope.names cl=cl';generalize hh1:pushCells (P2.push { cls:=.type "dict",data:=.dict #[] }) scope.names=h₁;have hC:P2.objs.size=s2.heap.objs.size+1:=by rw[<- hHp,ybp]
 have hP3:(P2.push { cls:=.type "dict",data:=.dict #[] }).objs.size=P2.objs.size+1:=ybp ..;have hDC:s2.heap.objs.size≠P2.objs.size:=by rw[hC];exact yaf (ybr _)
 have below:∀b,b<s2.heap.objs.size->b≠P2.objs.size/\b≠s2.heap.objs.size:=λb hb=>⟨by rw[hC];exact yaf (yc3 hb),yaf hb⟩
 have old:∀b o,s2.heap.get? b=some o->h₁.get? b=some o:=λb o e=>by
  rw[<- hh1];exact yee _ _ _ _ (ya6 _ (hHp▸ya6 _ e))
 have hacc:h₁.PlainList s2.heap.objs.size #[]:=⟨_,by
  rw[<- hh1];exact yee _ _ _ _ (ya6 _ (hHp▸yaj _ rfl))⟩
 have hns₁:h₁.Ns P2.objs.size (λ_=>none):=by
  rw[<- hh1];exact(Heap.Ns.new P2 (.type "dict")).keeps (yee _ _)
 have cells:∀y c,cl'.lookup y=some c->X.env.cells.lookup y=some c\/(P2.objs.size<c/\h₁.IsCell c none/\(y,NameKind.cell)∈scope.names):=λy c e=>by
  rw[<- hcl',<- hP3]at e
  rcases Pt _ _ _ y c e with q|⟨q1,q2,q3⟩
  .exact .inl (hcl y c q)
  .rw[hP3]at q1;rw[hh1]at q2;exact .inr ⟨q1,q2,q3⟩
 have has':∀y,(y,NameKind.cell)∈scope.names\/(∃c,cl.lookup y=some c)->∃c,cl'.lookup y=some c:=λy hy=>by
  rw[<- hcl']
  have go:∀(names:List (Str×NameKind)) (n:Nat) (acc:List (Str×Addr)),((y,NameKind.cell)∈names\/∃c,acc.lookup y=some c)->∃c,(cellsFrom n names acc).lookup y=some c:=by
   intro names
   induction names with
   |nil =>
    intro n acc h
    rcases h with h|h
    .cases h
    .exact h
   |cons x r ih =>
    obtain⟨m,k⟩:=x;intro n acc h;unfold cellsFrom;split
    .refine ih _ _ ?_
     by_cases hm:y=m
     .subst hm;exact .inr ⟨n,by simp⟩
     .rcases h with h|⟨c,h⟩
      .rcases yaa.mp h with z|z
       .cases z;exact absurd rfl hm
       .exact .inl z
      .exact .inr ⟨c,by rw[ybd,beq_eq_false_iff_ne.mpr hm];exact h⟩
    .rename_i hk;refine ih _ _ ?_
     rcases h with h|h
     .rcases yaa.mp h with z|z
      .cases z;exact absurd rfl hk
      .exact .inl z
     .exact .inr h
  exact go _ _ _ hy
 have fsub:∀b∈BM X.stack,b∈X.env.locals::X.fs:=I2.stkSub
 have fpfs:∀b∈fp,b∉BM X.stack:=λb hb z=>by
  obtain⟨_,h2,h3,_⟩:=f2 b hb
  rcases yaa.mp (fsub b z) with q|q
  .exact h2 q
  .exact h3 q
 have fpold:∀b∈fp,b<s2.heap.objs.size:=λb hb=>by
  obtain⟨o,e,_⟩:=T.obj 0 _ st2 b hb;exact ya5 e
 have cold:∀y c,cl'.lookup y=some c->c<s2.heap.objs.size\/P2.objs.size<c:=λy c e=>by
  rcases cells y c e with q|q
  .obtain⟨v,z⟩:=I2.cell y c q;exact .inl z.lt
  .exact .inr q.1
 have cneD:∀y c,cl'.lookup y=some c->c≠s2.heap.objs.size:=λy c e z=>by
  rcases cold y c e with q|q
  .rw[z]at q;exact yaw _ q
  .rw[z,hC]at q;exact absurd q (Nat.not_lt.mpr (ycs _))
 have cneF:∀b,b<s2.heap.objs.size->(∀y c,X.env.cells.lookup y=some c->c≠b)->∀y c,cl'.lookup y=some c->c≠b:=λb hb hx y c e z=>by
  rcases cells y c e with q|q
  .exact hx y c q z
  .have:=q.1;rw[z,hC]at this;exact absurd (ycg hb (Nat.lt_of_succ_lt this)) (yaw _)
 have fresh2:∀b,s2.heap.objs.size<=b->H2 b=none:=λb hb=>I2.hok.fresh hb
 have CS:s2.heap.objs.size<=P2.objs.size:=by rw[hC];exact ycs _
 obtain⟨xb,hxb⟩:∃xb,xb=notedBy (model X.prog X.w) X.A (compEnvC scope cl' P2.objs.size X.env) λe s'=>compPost (model X.prog X.w) X.A X.xe use QQ (.ref s2.heap.objs.size) P2.objs.size (.error e) s':=⟨_,rfl⟩
 have hpb:BK (Aq X scope cl' N' P2.objs.size s2 H2 fp xb) (λ_=>E σ):=by
  subst hxb;intro pins4 σ4 H4 s4 e s' I4 hcx
  have IX:Inv X pins σ H4 s4:=I2.call' (s':=s4) (ch:=fp) I4.os I4.base I4.hok I4.bare λb hb=>by
   obtain⟨g1,g2,g3,g4,g5,g6⟩:=f2 b hb;exact⟨g4,g2,g5,g6⟩
  obtain⟨m4,hm4,_⟩:=I4.loc
  exact zfy hps hst IX ⟨I4.free,(I2.fpOk (H':=H2) CS (fresh2 _ CS)).2⟩ ⟨m4,hm4⟩ (λz=>by
   obtain⟨o,ho,_⟩:=(I2.stack.mem z).2;exact absurd (ya5 ho) (Nat.not_lt.mpr CS)) rfl hcx
 have ok':(Aq X scope cl' N' P2.objs.size s2 H2 fp xb).Ok:=by
  refine⟨I2.ok.mod,hkind,I2.ok.glob,I2.ok.blt,CS,?inj,λy hy=>has' y (hhas y hy),?cab,I2.ok.hd,I2.ok.frames,.inl rfl,λb hb=>⟨(below b (fpold b hb)).1,cneF b (fpold b hb) λy c e=>(f2 b hb).2.2.2.2.1 y c e⟩,
   λb o e=>I2.bs b o e,yak I2.ok.bsz I2.sz,λb o e hb=>?_,λb hb=>fpfs b hb,I2.stack,I2.stkFree⟩
  case inj =>
   intro y z c h1 h2;have h1':(cellsFrom (P2.push { cls:=.type "dict",data:=.dict #[] }).objs.size scope.names cl).lookup y=some c:=by rw[hP3,hcl'];exact h1
   have h2':(cellsFrom (P2.push { cls:=.type "dict",data:=.dict #[] }).objs.size scope.names cl).lookup z=some c:=by rw[hP3,hcl'];exact h2
   refine Pw scope.names _ cl (λy z c g1 g2=>I2.ok.inj y z c (hcl y c g1) (hcl z c g2)) (λy c g=>?_) y z c h1' h2'
   obtain⟨v,q⟩:=I2.cell y c (hcl y c g);rw[hP3,hC];exact yc3 (yc3 q.lt)
  case cab =>
   intro y c hy e;have hy':scope.names.lookup y=some .cell:=yef hy;have e':(cellsFrom (P2.objs.size+1) scope.names cl).lookup y=some c:=by rw[hcl'];exact e
   exact yak CS (yak (ycs _) (Pr scope.names _ (P2.objs.size+1) cl y c (ya9 _) (.inl (yb6 hy')) e'))
  .obtain⟨_,_,_,q,_⟩:=f2 b hb
   rcases q with q|q
   .exact I2.ok.noex b o e q
   .exact absurd (yac (ya5 e) (yak I2.ok.bsz q)) (yaw _)
 have I':Inv (Aq X scope cl' N' P2.objs.size s2 H2 fp xb) pins (σ' σ) H2 { s2 with heap:=h₁ }:=by
  refine⟨ok',rfl,I2.bare,Un.kept old,⟨_,hns₁,λi y v h1 h2 h3=>?_⟩,λy c e=>?_,fresh2 _ CS,?fc,λp hp=>?_,I2.hok.kept old,hσ σ I2.len⟩
  case fc =>
   intro y c e
   rcases cells y c e with q|q
   .exact I2.freeC y c q
   .exact fresh2 c (yak CS (yd2 q.1))
  .obtain⟨hk,j,h4,h5,h6,h7⟩:=hvis σ i y v h1 h2;have hno:=hcap σ i y v h1 h2;obtain⟨m,hn',hl⟩:=I2.loc;obtain⟨u,r,l⟩:=hl j y v h4 h5 h6;obtain⟨c,hcc⟩:=has' y (hhas y hk);refine⟨u,r,.inr ⟨hk,c,hcc,?_⟩⟩
   rcases l with ⟨k1,_⟩|⟨_,c',e',z⟩
   .exact absurd k1 h7
   .rcases cells y c hcc with w|w
    .rw[w]at e';cases e';obtain⟨o,ho,hd⟩:=z;exact⟨o,old _ _ ho,hd⟩
    .exact absurd w.2.2 hno
  .rcases cells y c e with w|w
   .obtain⟨v,o,ho,hd⟩:=I2.cell y c w;exact⟨v,o,old _ _ ho,hd⟩
   .exact⟨none,w.2.1⟩
  .obtain⟨e1,e2,e3,e4,e5⟩:=I2.pin p hp;refine⟨old _ _ e1,e2,(below _ (ya5 e1)).1,λz=>?_,e5⟩
   rcases yaa.mp (fsub _ z) with q|q
   .exact e3 q
   .exact e4 q
 have stat:∀{H':Hp},(∀b∈fp,H' b=none)->∀b∈fp,CP (Aq X scope cl' N' P2.objs.size s2 H2 fp xb) pins H' b:=λhn' b hb =>
  ⟨hn' b hb,(below b (fpold b hb)).1,fpfs b hb,.inl hb,cneF b (fpold b hb) λy c e=>(f2 b hb).2.2.2.2.1 y c e,(f2 b hb).2.2.2.2.2⟩
 have Dok:∀{H':Hp},H' s2.heap.objs.size=none->CP (Aq X scope cl' N' P2.objs.size s2 H2 fp xb) pins H' s2.heap.objs.size:=λhn' =>
  ⟨hn',hDC,(λz=>by
   obtain⟨o,ho,_⟩:=(I2.stack.mem z).2;exact absurd (ya5 ho) (yaw _)),.inr (ya9 _),cneD,λp hp z=>absurd (ya5 (I2.pin p hp).1) (by rw[z];exact yaw _)⟩
 have loop:∀s3:Shared,s3={ s2 with heap:=h₁ } ->
   codeAny (model X.prog X.w) X.A (.compLoop (.ListComp elt [⟨tg,iter,ifs,0⟩] scope pos) 0 (.ref it) (.ref s2.heap.objs.size) (compEnvC scope cl' P2.objs.size X.env))
    (compPost (model X.prog X.w) X.A X.xe use QQ (.ref s2.heap.objs.size) P2.objs.size) s3:=by
  rintro s3 rfl
  refine zem hxb (λm s'=>∃i ys τ H',m=n - i/\Inv (Aq X scope cl' N' P2.objs.size s2 H2 fp xb) pins τ H' s'/\tn i s'.heap/\(∀b∈fp,H' b=none)/\H' s2.heap.objs.size=none/\(∃its:List Value,AZ ys its/\s'.heap.PlainList s2.heap.objs.size its.toArray)/\W i ys τ H')
   ?_ n ⟨0,[],σ' σ,H2,rfl,I',T.keep _ _ _ st2 λb _ o e=>old b o e,λb hb=>(f2 b hb).1,fresh2 _ (ya9 _),⟨[],.nil,hacc⟩,w0⟩
  rintro m s4 ⟨i,ys,τ,H4,rfl,I4,st4,fr4,hD4,⟨its,rv,hpl⟩,w4⟩;obtain⟨hly,hin,c⟩:=turn i ys τ H4 w4
  have statp:∀{H':Hp},(∀b∈fp,H' b=none)->∀b∈fp,CP (Aq X scope cl' N' P2.objs.size s2 H2 fp xb) (pins++GU [s2.heap.objs.size] s4.heap) H' b:=λ{H'} fr' b hb=>by
    obtain⟨g1,g2,g3,g4,g5,g6⟩:=stat fr' b hb;refine⟨g1,g2,g3,g4,g5,λp hp z=>?_⟩
    rcases yax.mp hp with y|y
    .exact g6 p (ybh _ y) z
    .rcases yax.mp y with y|y
     .exact g6 p (yae _ y) z
     .obtain⟨hb',_⟩:=VH y;rw[z,yab]at hb';exact absurd (fpold b hb) (by rw[hb'];exact yaw _)
  rcases c with ⟨stop,q⟩|⟨hlt,go,step⟩
  .obtain⟨k,hDo⟩:=hpl;have I4p:=I4.pinned (fp:=[s2.heap.objs.size]) (λb hb=>by rw[yab.mp hb];exact Dok hD4) (λb hb=>by rw[yab.mp hb];exact⟨_,hDo,λv z=>(by cases z)⟩)
   refine AU (T.done (Aq X scope cl' N' P2.objs.size s2 H2 fp xb) rfl rfl rfl (hc _ _ _ _ _ _ _ _ I2) i _ s4 τ H4 _ I4p (statp fr4) st4 stop) λr s5 ⟨hr,I5⟩=>?_
   subst hr;have hD5 :=(I5.pin (s2.heap.objs.size,_) (yae _ (yae _ (G0 (yab.mpr rfl) hDo)))).1;obtain⟨m5,hn5,_⟩:=I5.loc;have fC:H4 P2.objs.size=none:=I5.free
   have U5:Un (BM X.stack) fp H2 (upd H4 s2.heap.objs.size (.lst ys)) s2.heap s5.heap:=by
    have B:=I5.base;refine⟨λb o e1 e2 e3 e4=>B.keep b o e1 e2 e3 e4,λb o e1 e2 e3 e4=>B.slot b o e1 e2 e3 e4,λb o e1 e2 e4=>?_,λb o e1 e4=>B.there b o e1 e4,λb xs e1=>?_,λb o u e1=>?_,λb ps e1=>?_⟩
    .rw[Ak (below b (ya5 e1)).2];exact B.free b o e1 e2 e4
    .have q':=B.tups b xs e1;rw[Ak (Bi q' hD4)];exact q'
    .have q':=B.frzs b o u e1;rw[Ak (Bi q' hD4)];exact q'
    .obtain⟨more,q'⟩:=B.tbls b ps e1;exact⟨more,by rw[Ak (Bi q' hD4)];exact q'⟩
   have hzy:ys.length<=sizeLine:=yak hly (yak hin hn);have HK:HOk X.prog X.w (upd H4 s2.heap.objs.size (.lst ys)) s5.heap:=Zw.HOk.adopt I5.hok hD4 ⟨hzy,its,k,rv,hD5⟩;have os5:s5.os=s2.os:=I5.os
   have IX:Inv X pins σ (upd H4 s2.heap.objs.size (.lst ys)) s5:=I2.call' (s':=s5) (ch:=fp) os5 U5 HK I5.bare (λb hb=>by
    obtain⟨g1,g2,g3,g4,g5,g6⟩:=f2 b hb;exact⟨g4,g2,g5,g6⟩)
   refine hend s2.heap.objs.size P2.objs.size s5 _ IX (q _ hD4) ⟨m5,hn5⟩ ?_;have CL:s2.heap.objs.size<=P2.objs.size:=CS;have fp0:CP X pins H2 P2.objs.size:=I2.fpOk CS (fresh2 _ CS);exact⟨by rw[Ak (yao hDC)];exact fC,fp0.2⟩
  .obtain⟨k,hDo⟩:=hpl;have I4p:=I4.pinned (fp:=[s2.heap.objs.size]) (λb hb=>by rw[yab.mp hb];exact Dok hD4) (λb hb=>by rw[yab.mp hb];exact⟨_,hDo,λv z=>(by cases z)⟩)
   refine AU (T.item (Aq X scope cl' N' P2.objs.size s2 H2 fp xb) rfl rfl rfl (hc _ _ _ _ _ _ _ _ I2) i _ s4 τ H4 _ I4p (statp fr4) st4 go) λr s5 ⟨u,hr,h5⟩=>?_
   subst hr;refine AU h5 λ_ s6 ⟨x,H6,I6,r6,y6,st6,fr6⟩=>?_
   have I6':=I6.pinned (statp fr6) (T.obj _ _ st6);refine AU (hg _ _ _ _ _ _ hpb _ s6 τ H6 x u _ I6' r6 (step x H6 y6)) λ_ s7 ⟨τ7,H7,I7,q7⟩=>?_
   refine AU (ht _ _ _ _ _ _ hpb _ s7 τ7 H7 _ I7 q7) λok s7b ⟨H7b,I7b,q7b⟩=>?_
   have As:∀{H8:Hp} {s8:Shared} {τ8:L2.St},Inv (Aq X scope cl' N' P2.objs.size s2 H2 fp xb) (pins++GU [s2.heap.objs.size] s4.heap++GU fp s6.heap) τ8 H8 s8->∀h9:Heap,(∀b o,b≠s2.heap.objs.size->s8.heap.get? b=some o->h9.get? b=some o)->tn (i+1) h9/\∀b∈fp,H8 b=none:=λ{H8 s8 τ8} I8 h9 sb=>by
    refine⟨T.keep _ _ _ st6 λb hb o e=>?_,λb hb=>?_⟩
    .exact sb b o (below b (fpold b hb)).2 (I8.pin (b,o) (yae _ (yae _ (G0 hb e)))).1
    .obtain⟨o,e,d⟩:=T.obj _ _ st6 b hb;exact(I8.pin (b,o) (yae _ (yae _ (G0 hb e)))).2.1
   cases ok with
   |false =>
    rw[if_neg (by decide)]at q7b ⊢
    have hD8:=I7b.pin (s2.heap.objs.size,_) (yae _ (ybh _ (yae _ (G0 (yab.mpr rfl) hDo))));obtain⟨t9,f9⟩:=As I7b s7b.heap λb o _ e=>e
    exact⟨n - (i+1),by omega,i+1,ys,τ7,H7b,rfl,I7b.unpinned.unpinned,t9,f9,hD8.2.1,⟨its,rv,k,hD8.1⟩,q7b⟩
   |true =>
    rw[if_pos rfl]at q7b ⊢;refine AU (he _ _ _ _ _ _ hpb _ s7b τ7 H7b _ I7b q7b) λuy s8 ⟨y,H8,I8,ry,w8⟩=>?_
    have hD8:=I8.pin (s2.heap.objs.size,_) (yae _ (ybh _ (yae _ (G0 (yab.mpr rfl) hDo))));have P8:s8.heap.PlainList s2.heap.objs.size its.toArray:=⟨k,hD8.1⟩;have hlen:=rv.length;refine wpAny_list_append_plain P8 (λh' pl' sb=>?_) (by rw[yb3,<- hlen];omega)
    have I8u :=I8.unpinned.unpinned;obtain⟨d1,d2,d3,d4,d5,d6⟩:=Dok hD8.2.1;have I9 :=I8u.turned (t':=s8.toks) (λb o hb e=>(sb.2 b hb).trans e) d1 d2 d4 d5 d6
    obtain⟨t9,f9⟩:=As I8 h' λb o hb e=>(sb.2 b hb).trans e
    exact⟨n - (i+1),by omega,i+1,ys++[y],τ7,H8,rfl,I9,t9,f9,hD8.2.1,⟨its++[uy],rv.append (.cons ry .nil),by simpa using pl'⟩,w8⟩
 refine codeAny_compStart_list (loop _ rfl) (T.self _ 0 _ _ _ (T.keep _ _ _ st2 λb _ o e=>old b o e) (loop _ rfl))
theorem znw(σ' )(hclos:closureFor scope X.env=pure cl)(hkind:scope.kind=.function)(hnames:∀y∈scope.names,y.2=.local->scope.names.lookup y.1=some .local)
    (hcl:∀y c,cl.lookup y=some c->X.env.cells.lookup y=some c) (hhas:∀y,(relabel scope X.env).names.lookup y=some .cell\/(relabel scope X.env).names.lookup y=some .free->(y,NameKind.cell)∈scope.names\/∃c,cl.lookup y=some c) (hcap:∀(σ:L2.St) (i:Nat) (y:Str) (v:V),N'[i]?=some y->(σ' σ)[i]?=some (some v)->(y,NameKind.cell)∉scope.names)
    (hσ:∀σ:L2.St,σ.length=X.N.length->(σ' σ).length=N'.length)
    (hvis:∀(σ:L2.St) (i:Nat) (y:Str) (v:V),N'[i]?=some y->(σ' σ)[i]?=some (some v)->((relabel scope X.env).names.lookup y=some .cell\/(relabel scope X.env).names.lookup y=some .free)/\∃j:Nat,X.N[j]?=some y/\σ[j]?=some (some v)/\C8 X.env.scope y/\X.env.kindOf y≠some .local)
     (hc:∀pins σ H s cl C ex xb,Inv X pins σ H s->cq (Aq X scope cl N' C s H ex xb)) (hi:PJ cq X tg iter wi)  (hps:BK X E) (hst:Gv X) {σ:L2.St} (hg:∀cl C s₀ H₀ ex xb,BK (Aq X scope cl N' C s₀ H₀ ex xb) (λ_=>E σ)->PG (Aq X scope cl N' C s₀ H₀ ex xb) tg g) (ht:∀cl C s₀ H₀ ex xb,BK (Aq X scope cl N' C s₀ H₀ ex xb) (λ_=>E σ)->GB (Aq X scope cl N' C s₀ H₀ ex xb) ifs tt) (he:∀cl C s₀ H₀ ex xb,BK (Aq X scope cl N' C s₀ H₀ ex xb) (λ_=>E σ)->PE (Aq X scope cl N' C s₀ H₀ ex xb) elt te)
    (hs:∀x,foldedSetIterable iter X.env x=pure x)   {H:Hp} {Q:VK} (I:Inv X pins σ H s) (h:KL σ' wi g tt te σ H Q) :
    wpAny (model X.prog X.w) X.A (eval (.ListComp elt [⟨tg,iter,ifs,0⟩] scope pos) X.env) (EP X pins σ Q) X.xe s:=by
  refine XG σ' hclos hkind hnames hcl hhas hcap hσ hvis hc hi hps hst hg ht he hs I h λD C s5 H5 I5 q5 ⟨m,hm⟩ f=>⟨m,hm,λh' sb=>?_⟩
  exact⟨.ref D,H5,GI (ch:=[C]) I5 (λb o hb e=>(sb.2 b (λz=>hb (by simp[z]))).trans e) (λb hb=>by grind),rfl,q5⟩
theorem znx(σ' )(hclos:closureFor scope X.env=pure cl)(hkind:scope.kind=.function)(hnames:∀y∈scope.names,y.2=.local->scope.names.lookup y.1=some .local)
  (hcl:∀y c,cl.lookup y=some c->X.env.cells.lookup y=some c) (hhas:∀y,(relabel scope X.env).names.lookup y=some .cell\/(relabel scope X.env).names.lookup y=some .free->(y,NameKind.cell)∈scope.names\/∃c,cl.lookup y=some c) (hcap:∀(σ:L2.St) (i:Nat) (y:Str) (v:V),N'[i]?=some y->(σ' σ)[i]?=some (some v)->(y,NameKind.cell)∉scope.names)
  (hσ:∀σ:L2.St,σ.length=X.N.length->(σ' σ).length=N'.length)
  (hvis:∀(σ:L2.St) (i:Nat) (y:Str) (v:V),N'[i]?=some y->(σ' σ)[i]?=some (some v)->((relabel scope X.env).names.lookup y=some .cell\/(relabel scope X.env).names.lookup y=some .free)/\∃j:Nat,X.N[j]?=some y/\σ[j]?=some (some v)/\C8 X.env.scope y/\X.env.kindOf y≠some .local)
  (hc:X.calm=true) (hi:PI X tg iter wi)  (hps:BK X E) (hst:Gv X)  (hg:∀cl C s₀ H₀ ex xb,BK (Aq X scope cl N' C s₀ H₀ ex xb) (λ_=>E σ)->PG (Aq X scope cl N' C s₀ H₀ ex xb) tg g) (ht:∀cl C s₀ H₀ ex xb,BK (Aq X scope cl N' C s₀ H₀ ex xb) (λ_=>E σ)->GB (Aq X scope cl N' C s₀ H₀ ex xb) ifs tt) (he:∀cl C s₀ H₀ ex xb,BK (Aq X scope cl N' C s₀ H₀ ex xb) (λ_=>E σ)->PE (Aq X scope cl N' C s₀ H₀ ex xb) elt te)
  (hs:∀x,foldedSetIterable iter X.env x=pure x)   {H:Hp} {D:Ends} {i:Nat} {x:Str}  (hN:X.N.Nodup) (hix:X.N[i]?=some x) (hx:X.env.scope.names.lookup x=some .local)
  (hsw:swapsWith (.ListComp elt [⟨tg,iter,ifs,0⟩] scope pos) (some (.Name x pos')) pos2.line X.env=pure true)
  (I:Inv X pins σ H s) (h:KL σ' wi g tt te σ H λv H1=>D.nx (σ.set i (some v)) H1) :
  wpAny (model X.prog X.w) X.A (exec (.Assign [.Name x pos'] (.ListComp elt [⟨tg,iter,ifs,0⟩] scope pos) pos2) X.env) (SP X pins D) X.xe s:=by
 rw[exec_Assign_Name_used _ _ _ _ hsw];refine ydt (ydv (ydt ?_));refine ydt (ydq (XG σ' hclos hkind hnames hcl hhas hcap hσ hvis (λ_ _ _ _ _ _ _ _ _=>hc) (Um hi) hps hst hg ht he hs I h λA C s5 H5 I5 q5 ⟨m,hm⟩ f=>?_) (λ_ s' hq=>ydx (ydx hq)) λ_ _ e=>e)
 show wpAny _ X.A (assign (.Name x pos') X.env (.ref A)) _ _ _;refine wpAny_assign_Name (SA I5 hN hix (.inl hx) (v:=.ref A) rfl (λs6 I6 ⟨a,sb,ha⟩=>?_) (.inr hx))
 have hCa:C≠a:=by
  rcases ha with rfl|ha
  .exact f.2.1
  .exact λz=>f.2.2.2.2.1 x a ha z.symm
 refine⟨m,hm.sameBut sb hCa,λh' sb2=>⟨_,H5,GI (ch:=[C]) I6 (λb o hb e=>(sb2.2 b (λz=>hb (by simp[z]))).trans e) (λb hb=>by rw[yab.mp hb];exact f),q5⟩⟩
end
structure RpO(K:k6)(F H:Hp)(l:List T)(xs:List V)(R:Nat->Rg):Prop where
 len:l.length=xs.length
 rep:∀(i:Nat) (t:T) (x:V),l[i]?=some t->xs[i]?=some x->Rp K F H t x (R i)
 dis:∀i j a,i≠j->R i a->¬ R j a
 out:∀i a,R i a->i<l.length
section
variable {K:k6}{F H F1 H1:Hp}{l:List T}{xs:List V}{R:Nat->Rg}{B:Rg}
theorem RpO.nil:RpO K F H [] [] (λ_=>R0):=⟨rfl,λi t x h=>by simp at h,λ_ _ _ _ z=>z.elim,λ_ _ z=>z.elim⟩
theorem RpO.dom(h:RpO K F H l xs R)(z:R i a):F a=none/\∃u,H a=some u:=by
 have hi:=h.out i a z;have hx:i<xs.length:=by have:=h.len;omega
 exact(h.rep i _ _ (ya0 hi) (ya0 hx)).dom z
theorem RpO.ext(h:RpO K F H l xs R)(e:Ext F H F1 H1 B):RpO K F1 H1 l xs R:=⟨h.len,λi t x h1 h2=>(h.rep i t x h1 h2).ext e,h.dis,h.out⟩
theorem RpO.apart(h:RpO K F H l xs R)(e:Ext F H F1 H1 B)(hb:B b)(i):¬ R i b:=λz=>by
 obtain⟨f,u,q⟩:=h.dom z;rw[e.nb b hb]at q;cases q
theorem RpO.snoc(h:RpO K F H l xs R)   (r:Rp K F H t x B)(d:∀i a,R i a->¬ B a):RpO K F H (l++[t]) (xs++[x]) (λj=>if j=l.length then B else R j):=by
 have hl:=h.len;refine⟨by simp[hl],λi t' x' h1 h2=>?_,λi j a hij z1 z2=>?_,λi a z=>?_⟩
 .by_cases hi:i=l.length
  .grind
  .rw[if_neg hi]
   have hlt:i<l.length:=by
    have:=(ya3.mp h1).1;simp at this
    omega
   rw[yau hlt]at h1;rw[yau (by omega)]at h2
   exact h.rep i t' x' h1 h2
 .by_cases hi:i=l.length
  .grind
  .simp only[hi,yeg]at z1
   by_cases hj:j=l.length
   .simp only[hj,ye4]at z2;exact d i a z1 z2
   .simp only[hj,yeg]at z2;exact h.dis i j a hij z1 z2
 .by_cases hi:i=l.length
  .simp[hi]
  .simp only[hi,yeg]at z;have:=h.out i a z;simp
   omega
theorem RpO.cons(h:RpO K F H l xs R)   (r:Rp K F H t x B)(d:∀i a,R i a->¬ B a):RpO K F H (t::l) (x::xs) (λj=>match j with|0=>B|j+1=>R j):=by
 refine⟨by simp[h.len],λi t' x' h1 h2=>?_,λi j a hij z1 z2=>?_,λi a z=>?_⟩
 .cases i with
  |zero =>
   grind
  |succ i=>exact h.rep i t' x' (by grind) (by grind)
 .cases i with
  |zero =>
   cases j with
   |zero=>exact hij rfl
   |succ j=>grind
  |succ i =>
   cases j with
   |zero=>grind
   |succ j=>exact h.dis i j a (λz=>hij (by rw[z])) z1 z2
 .cases i with
  |zero=>simp
  |succ i=>have:=h.out i a z;simp;omega
theorem RpO.r0(h:RpO K F H l xs R)(s:AS l=true):Ai K F l xs:=⟨h.len,λi t x h1 h2=>(h.rep i t x h1 h2).move (ziz s h1) (.refl _)⟩
theorem RpO.list(h:RpO K F H l xs R)(s:A2 F H)  (hp:H p=none):Rp K F (upd H p (.lst xs)) (.own l) (.ref p) (λa=>a=p\/∃i,R i a)/\Ext F H F (upd H p (.lst xs)) (λa=>a=p):=by
 have e:=Ext.newO (o:=.lst xs) s hp;have h':=h.ext e;exact⟨.own (k:=.lst) trivial R (Fe s hp) Bd h.len h'.rep h.dis (λi z=>h.apart e rfl i z) h.out,e⟩
end
def Aj(ma mk:AG):AG:=λτ=>match ma τ with
 |some (.v t b)=>(match mk τ with
  |some (.v (.int i) _)=>(match t with
   |.nd _ _ l=>(match Au l i with
    |some c=>some (.v c (b && !c.sh))
    |none=>none)
   |.str z=>if z.length<=BV then (match Au z.cps.toList i with
    |some c=>some (.v (.str ⟨#[c]⟩) false)
    |none=>none) else none
   |_=>none)
  |some (.v _ _)=>none
  |r=>r)
 |r=>r
theorem zlb{c:α}(e:l.length=m.length)(h:Au l i=some c):∃(j:Nat) (d:β),l[j]?=some c/\m[j]?=some d/\Au m i=some d:=by
 unfold Au at h ⊢;rw[<- e];cases q:Bp l.length i with
 |none=>grind
 |some j =>
  rw[q]at h;have h' :=h
  have hj:j<m.length:=by
   grind
  exact⟨j,m[j],h',ya0 hj,ya0 hj⟩
section
variable {K:k6}{F H:Hp}
theorem Rp.seq      (s:A2 F H)(h:Rp K F H (.nd o k l) x A):∃p xs,x=.ref p/\(A9 K H p xs\/Bm K H p xs)/\l.length=xs.length/\∀(i:Nat) (t ) (x ),l[i]?=some t->xs[i]?=some x->∃B,(∀a,B a->A a)/\Rp K F H t x B:=by
 cases h with
 |@shr k p xs l h e c =>
  refine⟨p,xs,rfl,?_,e,λi t x h1 h2=>⟨R0,λ_ z=>z.elim,c i t x h1 h2⟩⟩
  cases k with
  |lst=>exact .inl (A9.of (s _ _ h))
  |rl=>exact .inl (s.seq h.l)
  |tup=>exact .inr (Bm.of (s _ _ h))
  |rt=>exact .inr (FX s h)
  |pin q=>exact .inl (A9.of (s _ _ h))
 |@own k0 p xs l hk R f h e c d dp o=>exact⟨p,xs,rfl,.inl (A9.of h),e,λi t x h1 h2=>⟨R i,λa z=>.inr ⟨i,z⟩,c i t x h1 h2⟩⟩
end
section
variable {X:Cx}{E:L2.St->XK}{ca:Str->Value}{σ:L2.St}{H:Hp}{m ma mb mc:AG}{ms:Av}{K:k6}{a b c e:Expr}{es:List Expr}{pos:Pos}
theorem tM_ix(h:tM K E ca (Aj ma mb) σ H Q):HF (Ug K) (tM K E ca ma) (tM K E ca mb) σ H Q:=by
 obtain⟨F,τ,R,S,q⟩:=h;refine⟨F,τ,R,S,?_⟩;unfold Aj at q;cases hm:ma τ with
 |none=>simp only[hm]at q<;>exact q.elim
 |some r =>
  simp only[hm]at q;cases r with
  |x c=>exact q
  |v t bb =>
   intro F1 H1 x B e1 g1;have S1:=S.ext e1;refine⟨F1,τ,R,S1,?_⟩;cases hk:mb τ with
   |none=>simp only[hk]at q<;>exact q.elim
   |some r =>
    simp only[hk]at q;cases r with
    |x c=>exact λF' H' e=>q F' H' ((e1.trans e).mono λ_ z=>z.elim)
    |v tk bk =>
     cases tk with
     |int i =>
      intro F2 H2 y C e2 g2
      have hy:y=.int i:=by
       cases bk with
       |true=>obtain⟨_,A,_,r⟩:=g2;exact r.int_inv
       |false=>exact(g2).int_inv
      subst hy;have e02 :=(e1.trans e2).mono λ_ z=>.inl z
      have S2:=S1.ext e2;cases t with
      |nd o k l =>
       simp only at q;cases hc:Au l i with
       |none=>simp only[hc]at q<;>exact q.elim
       |some cc =>
        simp only[hc]at q
        have node:∃A0,(bb=true->∀a,A0 a->tot R a)/\(bb=false->∀a,A0 a->B a)/\Rp K F2 H2 (.nd o k l) x A0:=by
         cases bb with
         |true =>
          obtain⟨_,A,hA,r⟩:=g1;exact⟨A,λ_=>hA,(λz=>by cases z),r.ext e2⟩
         |false=>exact⟨B,(λz=>by cases z),λ_ _ z=>z,(g1).ext e2⟩
        obtain⟨A0,hA1,hA2,rn⟩:=node;obtain⟨p,xs,rfl,hq,hl,kids⟩:=Rp.seq S2.fh rn;obtain⟨j,d,h1,h2,h3⟩:=zlb hl hc;obtain⟨A1,hA,rk⟩:=kids j cc d h1 h2
        have qq :=by
         cases bb with
         |false=>exact q F2 H2 d A1 (e02.mono λa z=>hA2 rfl a (hA a z)) rk
         |true =>
          cases hs:cc.sh with
          |true =>
           rw[hs]at q;exact q F2 H2 d R0 (e02.mono λ_ z=>z.elim) (rk.move hs (.refl _))
          |false =>
           rw[hs]at q;exact q F2 H2 d R0 (e02.mono λ_ z=>z.elim) ⟨rfl,A1,λa z=>hA1 rfl a (hA a z),rk⟩
        rcases hq with hq|hq
        .exact .inl ⟨p,xs,i,d,rfl,rfl,hq,h3,qq⟩
        .exact .inr (.inl ⟨p,xs,i,d,rfl,rfl,hq,h3,qq⟩)
      |str z =>
       by_cases hz:z.length<=BV
       .simp only[hz,ye4]at q;cases hc:Au z.cps.toList i with
        |none=>simp only[hc]at q<;>exact q.elim
        |some cc =>
         simp only[hc]at q
         have hx:x=.str z:=by
          cases bb with
          |true=>obtain⟨_,A,_,r⟩:=g1;exact r.str_inv
          |false=>exact(g1).str_inv
         subst hx;exact .inr (.inr ⟨z,i,cc,rfl,rfl,by rw[<- Eb];exact hz,hc,q F2 H2 _ R0 (e02.mono λ_ z=>z.elim) (.str _)⟩)
       .simp only[hz,yeg]at q<;>exact q.elim
      |_=>exact q.elim
     |_=>exact q.elim
theorem r_ix(ha:PE X a (tM X.K E ca ma))(hb:PE X b (tM X.K E ca mb))(hs:IC b):PE X (.Subscript a b pos) (tM X.K E ca (Aj ma mb)):=PE.weak (K9 zo8 ha hb hs) λσ H Q h=>tM_ix h
def Cj{α:Type}(l:List α)(lo hi:Option Int):List α:=(l.drop (HT.sIx l.length 0 lo)).take (HT.sIx l.length l.length hi - HT.sIx l.length 0 lo)
noncomputable def EL(m:Option (AG)):AL->Option (Option Int):=λτ=>match m with
 |none=>some none
 |some m=>match m τ with
  |some (.v (.int i) _)=>some (some i)
  |_=>none
def Fj(ma:AG)(ml mh:Option (AG)):AG:=λτ=>match ma τ with
 |some (.v t false)=>(match EL ml τ with
  |some lo=>(match EL mh τ with
   |some hi=>(match t with
    |.nd _ .lst l=>some (.v (.own (Cj (Ar l) lo hi)) false)
    |.nd _ .rl l=>some (.v (.own (Cj (Ar l) lo hi)) false)
    |_=>none)
   |none=>none)
  |none=>none)
 |some (.v _ true)=>none
 |r=>r
def GJ(K:k6)(m:Option (AG)):TO:=λσ H Q=>∃F τ R o,StR K F H σ τ R/\EL m τ=some o/\∀F' H',Ext F H F' H' R0->Q o H'
theorem r_po0:PO X none (GJ X.K none):=λpins s σ H Q I h=>by
 obtain⟨F,τ,R,o,S,e,q⟩:=h;cases e;exact zji pins s σ H Q I (q F H (Ext.refl S.fh))
theorem r_po1(ha:PE X e (tM X.K E ca m)):PO X (some e) (GJ X.K (some m)):=λpins s σ H Q I h=>by
 obtain⟨F,τ,R,o,S,e',q⟩:=h;refine zjh ha pins s σ H Q I ⟨F,τ,R,S,?_⟩;unfold EL at e';simp only at e';cases hm:m τ with
 |none=>grind
 |some r =>
  rw[hm]at e';cases r with
  |x c=>cases e'
  |v v b =>
   cases v with
   |int i =>
    cases e';intro F' H' x B e g
    have hx:x=.int i:=by
     cases b with
     |true=>obtain⟨_,A,_,r⟩:=g;exact r.int_inv
     |false=>exact(g).int_inv
    exact⟨i,hx,q F' H' (e.mono λ_ z=>z.elim)⟩
   |_=>cases e'
theorem zi1(r:Ai K F l xs)(lo hi):Ai K F (Cj l lo hi) (JU xs lo hi):=by
 have hl:=r.1;unfold Cj JU;rw[hl];refine⟨by simp[hl],λi t x h1 h2=>?_⟩
 rw[List.getElem?_take]at h1 h2;split at h1
 .rename_i hi';rw[if_pos hi',ydd]at h2;rw[ydd]at h1;exact r.2 _ t x h1 h2
 .cases h1
theorem UU{lo hi}(ha:PE X a (tM X.K E ca ma))(hl:PO X lo (GJ X.K ml))(hh:PO X hi (GJ X.K mh)):PE X (.Subscript a (.Slice lo hi none p2) pos) (tM X.K E ca (Fj ma ml mh)):=by
 refine PE.weak (Up ziv ha hl hh) λσ H Q h=>?_
 obtain⟨F,τ,R,S,q⟩:=h;refine⟨F,τ,R,S,?_⟩;unfold Fj at q;cases hm:ma τ with
 |none=>simp only[hm]at q<;>exact q.elim
 |some r =>
  simp only[hm]at q;cases r with
  |x c=>exact q
  |v t bb =>
   cases bb with
   |true=>exact q.elim
   |false =>
    intro F1 H1 x B e1 g1;obtain⟨F1',e1',_,r1⟩:=DS.frz S e1 g1;have S1:=S.ext e1';simp only at q;cases h1:EL ml τ with
    |none=>simp only[h1]at q<;>exact q.elim
    |some lo' =>
     simp only[h1]at q;refine⟨F1',τ,R,lo',S1,h1,λF2 H2 e2=>?_⟩
     have S2:=S1.ext e2;cases h2:EL mh τ with
     |none=>simp only[h2]at q<;>exact q.elim
     |some hi' =>
      simp only[h2]at q;refine⟨F2,τ,R,hi',S2,h2,λF3 H3 e3=>?_⟩
      have S3:=S2.ext e3;have e03:=e1'.trans0 (e2.trans0 e3);have r3:Rp X.K F3 F3 t.share x R0:=(r1).frame (e2.ff.trans e3.ff) λ_ z=>z.elim
      have key:∀{o } {k } {l },t=.nd o k l->(k=.lst\/k=.rl)->(∀F' H' x B,Ext F H F' H' B->Rp X.K F' H' (.own (Cj (Ar l) lo' hi')) x B->Q x H')->Ub X.K x lo' hi' H3 Q:=by
       intro o k l et hk qq;subst et;rw[T.share]at r3;obtain⟨p,xs,rfl,_,n3,k3⟩:=DV r3
       have sq:A9 X.K H3 p xs:=by
        rcases hk with rfl|rfl
        .exact A9.of (S3.fh _ _ n3)
        .exact S3.fh.seq n3.l
       refine⟨p,xs,rfl,sq,λp' hp'=>?_⟩
       have gg:CO X.K F3 H3 (.own (Cj (Ar l) lo' hi')) Q:=λF' H' z C e g=>qq F' H' z C (e03.trans0 e) g
       exact gg.list S3.fh (zi1 k3 lo' hi') hp'
      cases t with
      |nd o k l =>
       cases k with
       |lst=>exact key rfl (.inl rfl) q
       |rl=>exact key rfl (.inr rfl) q
       |tup=>exact q.elim
       |rt=>exact q.elim
       |pin _=>exact q.elim
      |_=>exact q.elim
def pMo(K:k6)(E:L2.St->XK)(ca:Str->Value)(σ:L2.St)(Q:List V->Hp->Prop)(F H:Hp):Option RsL->Prop
 |some (.v ts _)=>∀F' H' xs (Rr:Nat->Rg),Ext F H F' H' (tot Rr)->RpO K F' H' ts xs Rr->Q xs H'
 |some (.x c)=>∀F' H',Ext F H F' H' R0->XE (E σ) ca c F' H'
 |none=>False
def HG(K:k6)(E:L2.St->XK)(ca:Str->Value)(m:Av):TA:=λσ H Q=>∃F τ R,StR K F H σ τ R/\pMo K E ca σ Q F H (m τ)
noncomputable def BB(m:AG)(ms:Av):Av:=λτ=>match m τ with
 |some (.v t false)=>(match ms τ with
  |some (.v ts _)=>some (.v (t::ts) false)
  |r=>r)
 |some (.v _ true)=>none
 |some (.x c)=>some (.x c)
 |none=>none
theorem UY:PA X [] (HG X.K E ca AD):=PA.weak EJ λσ H Q h=>by
 obtain⟨F,τ,R,S,q⟩:=h;exact q F H [] (λ_=>R0) ((Ext.refl S.fh).mono λa ⟨i,z⟩=>z.elim) .nil
theorem U6(ha:PE X e (tM X.K E ca m))(hr:PA X es (HG X.K E ca ms))(hs:starEach (e::es) X.env=(false,eval e X.env)::starEach es X.env):PA X (e::es) (HG X.K E ca (BB m ms)):=by
 refine PA.weak (DH ha hr hs) λσ H Q h=>?_
 obtain⟨F,τ,R,S,q⟩:=h;refine⟨F,τ,R,S,?_⟩;unfold BB at q;cases hm:m τ with
 |none=>simp only[hm]at q<;>exact q.elim
 |some r =>
  simp only[hm]at q;cases r with
  |x c=>exact q
  |v t bb =>
   cases bb with
   |true=>exact q.elim
   |false =>
    intro F1 H1 x B e1 g1;have S1:=S.ext e1;refine⟨F1,τ,R,S1,?_⟩;cases hs:ms τ with
    |none=>simp only[hs]at q<;>exact q.elim
    |some r =>
     simp only[hs]at q;cases r with
     |x c=>exact λF' H' e=>q F' H' ((e1.trans e).mono λ_ z=>z.elim)
     |v ts b' =>
      intro F2 H2 xs Rr e2 ro;have g1' :=g1;refine q F2 H2 (x::xs) _ ((e1.trans e2).mono ?_) (ro.cons (g1'.ext e2) λi a z=>?_)
      .rintro a ⟨j,z⟩;cases j with
       |zero=>exact .inl z
       |succ j=>exact .inr ⟨j,z⟩
      .exact g1'.apart e2 ⟨i,z⟩
def BX(ms:Av):AG:=λτ=>match ms τ with
 |some (.v ts _)=>if ts.length<=BV then some (.v (.own ts) false) else none
 |some (.x c)=>some (.x c)
 |none=>none
theorem U0(h:PA X es (HG X.K E ca ms)):PE X (.List es pos) (tM X.K E ca (BX ms)):=by
 refine PE.weak (zn1 h) λσ H Q h=>?_
 obtain⟨F,τ,R,S,q⟩:=h;refine⟨F,τ,R,S,?_⟩;unfold BX at q;cases hm:ms τ with
 |none=>simp only[hm]at q<;>exact q.elim
 |some r =>
  simp only[hm]at q;cases r with
  |x c=>exact q
  |v ts b =>
   intro F1 H1 xs Rr e1 ro
   by_cases hz:ts.length<=BV
   .simp only[hz]at q;refine⟨by rw[<- ro.len];exact hz,λp hp=>?_⟩
    obtain⟨r,e2⟩:=ro.list e1.fh hp;refine q F1 _ _ _ ((e1.trans e2).mono ?_) r;rintro a (z|⟨i,z⟩)
    .exact .inr z
    .exact .inl ⟨i,z⟩
   .simp only[hz]at q<;>exact q.elim
def BP(ms:Av):AG:=λτ=>match ms τ with
 |some (.v ts false)=>if ts.length<=BV then some (.v (.tup ts) false) else none
 |some (.v _ true)=>none
 |some (.x c)=>some (.x c)
 |none=>none
theorem r_tup(h:PA X es (Bg X.K E ca ms)):PE X (.Tuple es k pos) (tM X.K E ca (BP ms)):=by
 refine PE.weak (zmx h) λσ H Q h=>?_
 obtain⟨F,τ,R,S,q⟩:=h;refine⟨F,τ,R,S,?_⟩;unfold BP at q;cases hm:ms τ with
 |none=>simp only[hm]at q<;>exact q.elim
 |some r =>
  simp only[hm]at q;cases r with
  |x c=>exact q
  |v ts b =>
   cases b with
   |true=>exact q.elim
   |false =>
    intro F1 H1 xs e1 rs
    by_cases hz:ts.length<=BV
    .simp only[hz]at q;refine⟨by rw[<- rs.1];exact hz,λp hp=>?_⟩
     have gg:CO X.K F1 H1 (.tup ts) Q:=λF' H' z C e g=>q F' H' z C (e1.trans0 e) g
     exact gg.tuple e1.fh rs hp
    .simp only[hz]at q<;>exact q.elim
theorem zmf{id}(hc:Bb X (.builtin id) (DF X.K g))(hg:Gl X x)(hm:X.mg x=none)(hv:bootBuiltins x=some (.builtin id))(ha:PA X (e::es) (Bg X.K E ca ms))(hn:x≠"__name__")(hdb:(x == "__debug__")=false)
  (he:starEach (e::es) X.env=(false,eval e X.env)::starEach es X.env) (hpl:(backTo pos (starEach es X.env)).any (·.1)=false):PE X (.Call (.Name x p) (e::es) [] pos) (tM X.K E ca (BN g ms)) :=
 PE.weak (Ih hc hg hm hv ha hn hdb he hpl) λσ H Q h=>FQ h
theorem U8(hc:Bb X (.type T') (DF X.K g))(hg:Gl X x)(hm:X.mg x=none)(hv:bootBuiltins x=some (.type T'))(ha:PA X (e::es) (Bg X.K E ca ms))(hn:x≠"__name__")(hdb:(x == "__debug__")=false)
  (he:starEach (e::es) X.env=(false,eval e X.env)::starEach es X.env) (hpl:(backTo pos (starEach es X.env)).any (·.1)=false):PE X (.Call (.Name x p) (e::es) [] pos) (tM X.K E ca (BN g ms)) :=
 PE.weak (Us hc hg hm hv ha hn hdb he hpl) λσ H Q h=>FQ h
end
def Bu:T->Option T
 |.nd _ _ l=>some (.int l.length)
 |.str z=>if z.length<=BV then some (.int z.length) else none
 |_=>none
def CI:T->Option T
 |.nd _ _ l=>some (.own l)
 |_=>none
def Hm:T->Option T
 |.int i=>some (.int (if i<0 then -i else i))
 |_=>none
def Ir:T->T->Option T
 |.int i,.int j=>some (.int (if j<i then j else i))
 |_,_=>none
def maxT:T->T->Option T
 |.int i,.int j=>some (.int (if j > i then j else i))
 |_,_=>none
noncomputable def DA:List T->Option (List Bool)
 |[]=>some []
 |.bl b::r=>(match DA r with
  |some l=>some (b::l)
  |none=>none)
 |_::_=>none
def DB:T->Option T
 |.nd _ .lst l=>(match DA l with
  |some bs=>some (.bl (bs.all id))
  |none=>none)
 |_=>none
def Hl:T->Option T
 |.nd _ .lst l=>(match DA l with
  |some bs=>some (.bl (bs.any id))
  |none=>none)
 |_=>none
def RZ:Kd->Option String
 |.lst=>some "list"
 |.tup=>some "tuple"
 |.rl=>none
 |.rt=>none
 |.pin _=>none
noncomputable def KG:T->Option String
 |.non=>some "NoneType"
 |.bl _=>some "bool"
 |.int _=>some "int"
 |.str _=>some "str"
 |.nd _ k _=>RZ k
 |.dic _ _=>some "dict"
 |.pdc _ _=>some "dict"
 |.odc _ _=>none
 |.obj _ _=>none
 |.oob _ _ _ _=>none
 |.osd _ _=>none
def HB:List String:=["int","bool","str","list","tuple"]
def KS(a c:String):Bool:=a == c || (a == "bool" && c == "int")
def Bv(c:String)(t:T):Option T:=match KG t with
 |some a=>if c∈HB then some (.bl (KS a c)) else none
 |none=>none
theorem zdg:PySem.W.kitMeta "str"=true:=by decide +kernel
theorem zcj:PySem.W.kitMeta "list"=true:=by decide +kernel
theorem XT(K)(ha:a∈["NoneType","bool","int","str","list","tuple","dict"])(hc:c∈HB):PySem.W.kitOne K (.type a) (.type c)=some (KS a c):=by
 have km:PySem.W.kitMeta c=true:=by
  simp only[HB,yaa,yar,yed]at hc
  rcases hc with rfl|rfl|rfl|rfl|rfl
  .exact zdh
  .exact zck
  .exact zdg
  .exact zcj
  .exact zc2
 by_cases h:a=c
 .subst h;rw[zhi];simp[KS]
 .refine zo0 K (l:=[]) h km ?_;simp only[HB,yaa,yar,yed]at hc ha
  rcases ha with rfl|rfl|rfl|rfl|rfl|rfl|rfl<;>rcases hc with rfl|rfl|rfl|rfl|rfl<;>first|exact absurd rfl h|decide +kernel
section
variable {X:Cx}
theorem zg9:Bb X (.builtin "len") (DF X.K (g1 Bu)):=by
 intro pins s σ H xs us Q I r h;obtain⟨F,ts,v,fh,rs,e,q⟩:=h;unfold g1 at e;split at e
 .obtain⟨x1,xs1,rfl,r1,rs1⟩:=rs.inv;cases rs1.inv0;unfold Bu at e;split at e
  .cases e;obtain⟨p,ys,rfl,hq,hl,_⟩:=Rp.seq fh (r1.any);refine ZT pins s σ H _ us Q I r ⟨_,ys.length,rfl,?_,by rw[<- hl];exact q.int fh⟩
   rcases hq with hq|hq
   .exact .inl ⟨ys,hq,rfl⟩
   .exact .inr ⟨ys,hq,rfl⟩
  .split at e
   .cases e;rename_i hz;rw[r1.str_inv]at r;exact ZT pins s σ H _ us Q I r ⟨_,_,rfl,⟨by exact hz,rfl⟩,q.int fh⟩
   .cases e
  .cases e
 .cases e
theorem zfc{K}(s:A2 F H)(h:En K F k p xs):A9 K H p xs\/Bm K H p xs:=by
 cases k with
 |lst=>exact .inl (A9.of (s _ _ h))
 |rl=>exact .inl (s.seq h.l)
 |tup=>exact .inr (Bm.of (s _ _ h))
 |rt=>exact .inr (FX s h)
 |pin q=>exact .inl (A9.of (s _ _ h))
theorem ZU:Bb X (.type "list") (DF X.K (g1 CI)):=by
 intro pins s σ H xs us Q I r h;obtain⟨F,ts,v,fh,rs,e,q⟩:=h;unfold g1 at e;split at e
 .obtain⟨x1,xs1,rfl,r1,rs1⟩:=rs.inv;cases rs1.inv0;unfold CI at e;split at e
  .cases e;obtain⟨p,ys,rfl,rfl,n1,k1⟩:=DV r1;have hq :=zfc fh n1;exact zda pins s σ H _ us Q I r ⟨p,ys,rfl,hq,λl hl=>q.list fh k1 hl⟩
  .cases e
 .cases e
theorem zgd:Bb X (.builtin "abs") (DF X.K (g1 Hm)):=by
 intro pins s σ H xs us Q I r h;obtain⟨F,ts,v,fh,rs,e,q⟩:=h;unfold g1 at e;split at e
 .obtain⟨x1,xs1,rfl,r1,rs1⟩:=rs.inv;cases rs1.inv0;unfold Hm at e;split at e
  .cases e;rw[r1.int_inv]at r;exact zie pins s σ H _ us Q I r ⟨_,rfl,q.int fh⟩
  .cases e
 .cases e
theorem zg7{gi:Int->Int->Int}(hc:Bb X (.builtin f) (λxs H Q=>∃i j,xs=[.int i,.int j]/\Q (.int (gi i j)) H))(hg:∀t u v,g t u=some v->∃i j,t=.int i/\u=.int j/\v=.int (gi i j)):Bb X (.builtin f) (DF X.K (g2 g)):=by
 intro pins s σ H xs us Q I r h;obtain⟨F,ts,v,fh,rs,e,q⟩:=h;unfold g2 at e;split at e
 .obtain⟨x1,xs1,rfl,r1,rs1⟩:=rs.inv;obtain⟨x2,xs2,rfl,r2,rs2⟩:=rs1.inv;cases rs2.inv0;obtain⟨i,j,rfl,rfl,rfl⟩:=hg _ _ _ e;rw[r1.int_inv,r2.int_inv]at r;exact hc pins s σ H _ us Q I r ⟨_,_,rfl,q.int fh⟩
 .cases e
theorem zg8(hc:X.calm=true):Bb X (.builtin "min") (DF X.K (g2 Ir)):=zg7 (zg5 hc) λt u v h=>by
 unfold Ir at h
 grind
theorem ZY:∀{l} {bs},DA l=some bs->l.length=bs.length/\∀(i:Nat) (t),l[i]?=some t->∃b,bs[i]?=some b/\t=.bl b
 |[],bs,h=>by cases h;simp
 |t::r,bs,h=>by
  unfold DA at h;cases t with
  |bl b =>
   cases hr:DA r with
   |none=>grind
   |some l =>
    obtain⟨h1,h2⟩:=ZY hr
    grind
  |_=>cases h
theorem UO{bs:List Bool}(h:∀(i:Nat) (b:Bool),bs[i]?=some b->tr i=b):(List.range bs.length).all tr=bs.all id/\(List.range bs.length).any tr=bs.any id:=by
 have e:(List.range bs.length).map tr=bs:=by
  apply List.ext_getElem?
  grind
 constructor
 .have:(List.range bs.length).all tr=((List.range bs.length).map tr).all id:=by simp
  rw[this,e]
 .have:(List.range bs.length).any tr=((List.range bs.length).map tr).any id:=by simp
  rw[this,e]
theorem RL(hc:X.calm=true)   {σ:L2.St}{H:Hp}{F:Hp}       (I:Inv X pins σ H s)(fh:A2 F H)(r1:Rp X.K F F (.nd o .lst l) (.ref p) R0)(hb:DA l=some bs)
  (hP : ∀ (I0 : Addr) (wr fp ) (St ) (PP ) (tr ) (s2 : Shared), Walks X.prog X.w X.A.in1 I0 fp wr bs.length PP St -> St 0 s2.heap -> TruthOf X.prog X.w X.A.in1 PP tr -> (∀ (i : Nat) (b : Bool), bs[i]? = some b -> tr i = b) ->
   (∀h' tk,(∀b o,b∉wr->s2.heap.get? b=some o->h'.get? b=some o)->Inv X pins σ H { s2 with heap:=h',toks:=tk })->P (.ref I0) s2):wpAny (model X.prog X.w) X.A.in1 (pyIter (.ref p)) P E' s:=by
 obtain⟨p',ys,e',rfl,n1,k1⟩:=DV r1;cases e';obtain⟨hlen,hget⟩:=ZY hb;obtain⟨its,rv,pl,hz⟩:=I.list (A9.of (fh _ _ n1));have hl:=rv.length
 have hne :=yaf (by
  obtain⟨o,n,e,_⟩:=pl;exact ya5 e)
 have hh:X.A.in1.handled=none:=I.ok.hd hc
 have val:∀(i:Nat) (v ),its[i]?=some v->∃b,bs[i]?=some b/\v=.bool b:=λi v hv=>by
  have hi:i<ys.length:=by
   have:=(ya3.mp hv).1
   omega
  have hi2:i<l.length:=by rw[k1.1];exact hi
  obtain⟨b,h1,h2⟩:=hget i _ (ya0 hi2);have rr:=k1.2 i _ _ (ya0 hi2) (ya0 hi);rw[h2]at rr;obtain⟨u,e1,ru⟩:=rv.get (ya0 hi);rw[hv]at e1;cases e1;rw[rr.bl_inv]at ru;exact⟨b,h1,ru⟩
 have hbl:its.toArray.size=bs.length:=by rw[yb3,<- hl,<- k1.1,hlen]
 refine ydy pl.isList ?_;have W:=Walks.list (prog:=X.prog) (w:=X.w) hh s.heap.objs.size p hne its.toArray;rw[hbl]at W;refine hP s.heap.objs.size _ _ _ _ (λi=>bs.getD i false) _ W ⟨⟨_,yaj _ rfl,rfl,rfl⟩,?_⟩ ?_ ?_ ?_
 .obtain⟨o,ho,hr⟩:=pl.isList;exact⟨o,ya6 _ ho,hr⟩
 .intro i v s' Q' E'' hv hq';obtain⟨b,h1,h2⟩:=val i v (by simpa using hv)
  subst h2;refine ydr ?_;have e:bs.getD i false=b:=by rw[yam,h1];rfl
  rw[<- e];exact hq'
 .intro i b hb';show bs.getD i false=b;rw[yam,hb']
  rfl
 .intro h' tk k
  exact I.kept λb o e=>k b o (λz=>by
   rw[yab]at z;exact absurd (ya5 e) (by rw[z];exact yaw _)) (ya6 _ e)
theorem zgc(hc:X.calm=true):Bb X (.builtin "all") (DF X.K (g1 DB)):=by
 intro pins s σ H xs us Q I r h;obtain⟨F,ts,v,fh,rs,e,q⟩:=h;unfold g1 at e;split at e
 .obtain⟨x1,xs1,rfl,r1,rs1⟩:=rs.inv;cases rs1.inv0;unfold DB at e;split at e
  .split at e
   .cases e;rename_i bs hbs;obtain⟨p,rfl⟩:=r1.ref_inv;obtain⟨u,rfl,ru⟩:=FN r;cases ru;refine call_all_walk (RL hc I fh r1 hbs λI0 wr fp St PP tr s2 W st0 tro htr As=>⟨I0,fp,wr,bs.length,PP,St,tr,rfl,W,st0,tro,λh' tk k=>?_⟩)
    rw[(UO htr).1];exact⟨.bl _,H,As h' tk k,rfl,q.bl fh⟩
   .cases e
  .cases e
 .cases e
theorem zgb(hc:X.calm=true):Bb X (.builtin "any") (DF X.K (g1 Hl)):=by
 intro pins s σ H xs us Q I r h;obtain⟨F,ts,v,fh,rs,e,q⟩:=h;unfold g1 at e;split at e
 .obtain⟨x1,xs1,rfl,r1,rs1⟩:=rs.inv;cases rs1.inv0;unfold Hl at e;split at e
  .split at e
   .cases e;rename_i bs hbs;obtain⟨p,rfl⟩:=r1.ref_inv;obtain⟨u,rfl,ru⟩:=FN r;cases ru;refine call_any_walk (RL hc I fh r1 hbs λI0 wr fp St PP tr s2 W st0 tro htr As=>⟨I0,fp,wr,bs.length,PP,St,tr,rfl,W,st0,tro,λh' tk k=>?_⟩)
    rw[(UO htr).2];exact⟨.bl _,H,As h' tk k,rfl,q.bl fh⟩
   .cases e
  .cases e
 .cases e
theorem X3  {σ:L2.St}           (I:Inv X pins σ H s)(ea:H p=some (.frz ob (.dK kvs)))(e:PySem.W.kitOne X.K (.type "dict") c=some b)(h:∀tk,Q (.bool b) { s with toks:=tk }) :
  wpAny (model X.prog X.w) A (call (.builtin "isinstance") [.ref p,c]) Q E s:=by
 obtain⟨_,_,_,vs,_,q⟩:=(I.hok p _ ea);obtain⟨o,es,ep,h1,h2,_⟩:=q;exact yay ydh I.kIn ⟨o,h1,h2.1⟩ e (λz=>nomatch z) h
theorem RY(fh:A2 F H)(r:Rp X.K F F t x R0)(h:KG t=some a):(TyOf X.K H x (.type a)\/a="dict"/\∃p ob kvs,x=.ref p/\H p=some (.frz ob (.dK kvs)))/\a∈["NoneType","bool","int","str","list","tuple","dict"]:=by
 cases t with
 |non=>cases h;rw[r.non_inv];exact⟨.inl .non,by simp⟩
 |bl b=>cases h;rw[r.bl_inv];exact⟨.inl (.bl b),by simp⟩
 |int i=>cases h;rw[r.int_inv];exact⟨.inl (.int i),by simp⟩
 |str y=>cases h;rw[r.str_inv];exact⟨.inl (.str y),by simp⟩
 |nd o k l =>
  obtain⟨p,xs,rfl,_,n,_⟩:=DV r;cases k with
  |lst=>cases h;exact⟨.inl (.lst (fh _ _ n)),by simp⟩
  |tup=>cases h;exact⟨.inl (.tup (fh _ _ n)),by simp⟩
  |rl=>cases h
  |rt=>cases h
  |pin _=>cases h
 |dic ks l =>
  cases h;cases r with
  |dic h e ek c=>exact⟨.inr ⟨rfl,_,_,_,rfl,fh _ _ h⟩,by simp⟩
 |pdc ks l =>
  cases h;cases r with
  |pdc h e ek c=>exact⟨.inl (.dK (fh _ _ h)),by simp⟩
 |odc ks l=>cases h
 |obj k l=>cases h
 |oob p C fs l=>cases h
 |osd ks l=>cases h
theorem zga:Bb X (.builtin "isinstance") (λxs H Q=>∃x,xs=[x,.ty c]/\DF X.K (g1 (Bv c)) [x] H Q):=by
 intro pins s σ H xs us Q I r h;obtain⟨x,rfl,F,ts,v,fh,rs,e,q⟩:=h;unfold g1 at e;split at e
 .obtain⟨x1,xs1,e1,r1,rs1⟩:=rs.inv;cases e1;unfold Bv at e;split at e
  .rename_i a ha;split at e
   .cases e;rename_i hc;obtain⟨ty,hm⟩:=RY fh r1 ha
    rcases ty with ty|⟨rfl,p,ob,kvs,rfl,hp⟩
    .exact zic pins s σ H _ us Q I r ⟨x,_,_,rfl,ty,XT X.K hm hc,q.bl fh⟩
    .obtain⟨u,w',rfl,rx,ry⟩:=GH r;cases ry;cases rx;exact X3 I hp (XT X.K hm hc) λtk=>⟨.bl _,H,I.tok _,rfl,q.bl fh⟩
   .cases e
  .cases e
 .cases e
def T.isN:T->Bool
 |.non=>true
 |_=>false
noncomputable def T.isB(b:Bool):T->Bool
 |.bl c=>c == b
 |_=>false
def BQ(neg:Bool)(t u:T):Option T:=match u with
 |.non=>some (.bl (neg ^^ t.isN))
 |.bl b=>some (.bl (neg ^^ t.isB b))
 |_=>none
theorem ZI{K}(r:Rp K F H t x A):decide (x=V.non)=t.isN:=by
 cases r<;>simp[T.isN]
theorem ZJ{K}(r:Rp K F H t x A):decide (x=V.bl b)=t.isB b:=by
 cases r<;>simp[T.isB]
 rfl
theorem zne:Ab X (compareOp .Is) (BY X.K (BQ false)):=by
 intro pins s σ H x y v u Q I rx ry h;obtain⟨F,t1,t2,r,fh,r1,r2,e,q⟩:=h;unfold BQ at e;split at e
 .cases e;rw[r2.non_inv]at ry;refine zn8 pins s σ H _ _ v u Q I rx ry ⟨rfl,?_⟩;rw[ZI r1];have:=q.bl fh
  simp_all
 .cases e;rw[r2.bl_inv]at ry;refine zn9 pins s σ H _ _ v u Q I rx ry ⟨_,rfl,?_⟩;rw[ZJ r1];have:=q.bl fh
  simp_all
 .cases e
theorem zfa:Ab X (compareOp .IsNot) (BY X.K (BQ true)):=by
 intro pins s σ H x y v u Q I rx ry h;obtain⟨F,t1,t2,r,fh,r1,r2,e,q⟩:=h;unfold BQ at e;split at e
 .cases e;rw[r2.non_inv]at ry;refine zju pins s σ H _ _ v u Q I rx ry ⟨rfl,?_⟩;rw[ZI r1];have:=q.bl fh
  simp_all
 .cases e;rw[r2.bl_inv]at ry;refine zjv pins s σ H _ _ v u Q I rx ry ⟨_,rfl,?_⟩;rw[ZJ r1];have:=q.bl fh
  simp_all
 .cases e
end
section
variable {X:Cx}{E:L2.St->XK}{ca:Str->Value}{σ:L2.St}{H:Hp}{m ma mb mc:AG}{ms:Av}{K:k6}{a b c e:Expr}{es:List Expr}{pos p p2:Pos}
theorem r_isT{c}(hv:bootBuiltins cn=some (.type c))(hg:Gl X "isinstance")(hm:X.mg "isinstance"=none)(hgc:Gl X cn)(hmc:X.mg cn=none)(hn:cn≠"__name__")(hd:(cn == "__debug__")=false)(ha:PE X e (tM X.K E ca m))(he:starEach [e,.Name cn p2] X.env=(false,eval e X.env)::starEach [.Name cn p2] X.env) :
  PE X (.Call (.Name "isinstance" p) [e,.Name cn p2] [] pos) (tM X.K E ca (BN (g1 (Bv c)) (AB m AD))):=by
 refine PE.weak (Ih (zga (c:=c)) hg hm yc6 (DH ha (DH (Ut (v:=.ty c) hgc hmc hv rfl hn hd) EJ) he) (by decide) (by decide) he rfl) λσ H Q h=>?_
 exact(FP (FQ h)).mono λx H1 h1=>⟨x,rfl,FO h1⟩
set_option genInjectivity true in
inductive Ru where
 |ok (t:T)|exc (c:Str)
def B3(K:k6)(ca:Str->Value)(g:List T->Option Ru):Sp:=λvs H Q E=>∃F ts,A2 F H/\Ai K F ts vs/\match g ts with
 |some (.ok v)=>CO K F H v Q
 |some (.exc c)=>∀F' H',Ext F H F' H' R0->XE E ca c F' H'
 |none=>False
def JS:Bool->Str->Option Rs
 |false,c=>some (.x c)
 |true,c=>(match EI c with
  |none=>some (.x c)
  |some _=>none)
def AN(g:List T->Option Ru)(ms:Av):AG:=λτ=>match ms τ with
 |some (.v ts b)=>(match g ts with
  |some (.ok v)=>As b v
  |some (.exc c)=>JS b c
  |none=>none)
 |some (.x c)=>some (.x c)
 |none=>none
theorem zl7(h:tM K E ca (AN g ms) σ H Q):Rw (B3 K ca g) [] E (Bg K E ca ms) σ H Q:=by
 obtain⟨F,τ,R,S,q⟩:=h;refine⟨F,τ,R,S,?_⟩;unfold AN at q;cases hs:ms τ with
 |none=>simp only[hs]at q<;>exact q.elim
 |some r =>
  simp only[hs]at q;cases r with
  |x c=>exact q
  |v ts b =>
   intro F1 H1 xs e1 rs;have S1:=S.ext e1;rw[yd3];refine⟨Gz b F1 H1 R,ts,PF S1,rs,?_⟩;cases hg:g ts with
   |none=>simp only[hg]at q<;>exact q.elim
   |some r =>
    simp only[hg]at q;cases r with
    |exc c =>
     cases b with
     |false=>exact λF' H' e2=>q F' H' (e1.trans0 e2)
     |true =>
      simp only[JS]at q;cases hp:EI c with
      |none=>rw[hp]at q;exact λF' H' e2=>(q F1 H' (e1.grow e2.hh)).any hp
      |some n=>rw[hp]at q;exact q.elim
    |ok v =>
     intro F2 H2 z C e2 r2;simp only at q;unfold As at q;cases b with
     |false=>exact q F2 H2 z C (e1.trans0 e2) r2
     |true =>
      cases hf:v.flat with
      |false=>rw[hf]at q;cases q
      |true=>rw[hf]at q;exact q F1 H2 z R0 (e1.grow e2.hh) (r2.flat_any hf)
theorem zme(D:DefX X.prog X.w X.K X.mg X.base k x ps (B3 X.K ca g))(hr:Room j X.A)(hx:BK X E)(ha:PA X (e::es) (Bg X.K E ca ms))(hk:k<=j)(hg:Gl X x)(hdb:(x == "__debug__")=false)
  (he:starEach (e::es) X.env=(false,eval e X.env)::starEach es X.env) (hpl:(backTo pos (starEach es X.env)).any (·.1)=false):PE X (.Call (.Name x p) (e::es) [] pos) (tM X.K E ca (AN g ms)):=PE.weak (px D hr hx ha hk hg hdb he hpl) λ_ _ _ h=>zl7 h
end
section
variable {X:Cx}{E:L2.St->XK}{ca:Str->Value}{ms:Av}{e:Expr}{es:List Expr}{p pos:Pos}
end
def FL(K:k6)(J:It)(F:Hp)(ts:List T):Prop:=∀(i:Nat) (F' H':Hp),A2 F F'->A2 F' H' ->
 (∀t,ts[i]?=some t->J.go i H'/\∀x H'',J.yld i H' x H''->∃F'',Ext F' H' F'' H'' R0/\Rp K F'' H'' t x R0)/\(i=ts.length->J.stop i H')
def pI(K:k6)(E:L2.St->XK)(ca:Str->Value)(σ:L2.St)(P:It->Hp->Prop)(F H:Hp):Option RsL->Prop
 |some (.v ts _)=>∀F' H' J,Ext F H F' H' R0->FL K J F' ts->P J H'
 |some (.x c)=>∀F' H',Ext F H F' H' R0->XE (E σ) ca c F' H'
 |none=>False
def tI(K:k6)(E:L2.St->XK)(ca:Str->Value)(m:Av):TI:=λσ H P=>∃F τ R,StR K F H σ τ R/\pI K E ca σ P F H (m τ)
noncomputable def HZ:T->Bool
 |.nd _ .lst _=>true
 |.nd _ .rl _=>true
 |.nd _ (.pin _) _=>true
 |_=>false
noncomputable def H0(m:AG):Av:=λτ=>match m τ with
 |some (.v (.nd _ k l) false)=>some (.v (Ar l) false)
 |some (.x c)=>some (.x c)
 |_=>none
def EG(lo:Int)(n:Nat):List T:=(List.range n).map λ(i:Nat)=>.int (lo+(i:Int))
def Ce(j:Int):Bool:=@decide (-(2 ^ 62)<=j/\j<2 ^ 62) (Classical.propDecidable _)
def Ll:List T->Option Int
 |[.int j]=>some j
 |_=>none
noncomputable def Lk:List T->Option (Int×Int)
 |[.int i,.int j]=>some (i,j)
 |_=>none
def DR(ms:Av):Av:=λτ=>match ms τ with
 |some (.v ts _)=>(match Ll ts with
  |some j=>if Ce j then some (.v (EG 0 j.toNat) false) else none
  |none=>none)
 |r=>r
def G6(ms:Av):Av:=λτ=>match ms τ with
 |some (.v ts _)=>(match Lk ts with
  |some (i,j)=>if Ce i && Ce j then some (.v (EG i (j - i).toNat) false) else none
  |none=>none)
 |r=>r
def DY:Nat->List T->List T
 |_,[]=>[]
 |i,t::r=>.tup [.int (i:Int),t]::DY (i+1) r
def Lj:List T->Option (List T)
 |[.nd o k l]=>if HZ (.nd o k l) then some l else none
 |_=>none
def Li:List T->Option (List T×List T)
 |[.nd o k l,.nd o' k' m]=>if HZ (.nd o k l) && HZ (.nd o' k' m) then some (l,m) else none
 |_=>none
def CM(ms:Av):Av:=λτ=>match ms τ with
 |some (.v ts false)=>(match Lj ts with
  |some l=>some (.v (DY 0 l) false)
  |none=>none)
 |some (.v _ true)=>none
 |r=>r
def GF(l m:List T):List T:=List.zipWith (λa b=>T.tup [a,b]) l m
def FI(ms:Av):Av:=λτ=>match ms τ with
 |some (.v ts false)=>(match Li ts with
  |some (l,m)=>some (.v (GF l m) false)
  |none=>none)
 |some (.v _ true)=>none
 |r=>r
theorem Yx:∀(l) (n i),(DY n l)[i]?=(l[i]?).map λt=>T.tup [.int (n+i:Nat),t]
 |[],n,i=>by rfl
 |t::r,n,i=>by
  cases i with
  |zero=>rfl
  |succ i =>
   simp only[DY,ybk];rw[Yx r (n+1) i]
   grind
theorem zcz(l):∀n,(DY n l).length=l.length:=by
 induction l with
 |nil=>intro n;rfl
 |cons t r ih=>simp[DY,ih]
section
variable {X:Cx}{E:L2.St->XK}{ca:Str->Value}{σ:L2.St}{H:Hp}{m ma mb mc:AG}{ms:Av}{K:k6}{a b c e tg:Expr}{es elts:List Expr}{pos p tpos:Pos}{kk:Nat}
theorem Ox{p}(n:∀F' H' ,A2 F F'->A2 F' H'->A9 K H' p xs)(r:Ai K F l xs):FL K (Qq K p) F l:=by
 intro i F' H' s1 s2;have sq:=n F' H' s1 s2;refine⟨λt ht=>?_,λe=>⟨xs,sq,by rw[e,r.1];simp⟩⟩
 have hi:i<xs.length:=by
  have:=(ya3.mp ht).1;have:=r.1
  omega
 refine⟨⟨xs,xs[i],sq,ya0 hi⟩,λx H'' y=>?_⟩
 obtain⟨rfl,y⟩:=y;have hx:=y xs sq;exact⟨F',Ext.refl s2,((r.same s1).2 i t x ht hx).any⟩
theorem XZ{p}(n:∀F' H' ,A2 F F'->A2 F' H'->Bm K H' p xs)(r:Ai K F l xs):FL K (Qp K p) F l:=by
 intro i F' H' s1 s2;have sq:=n F' H' s1 s2;refine⟨λt ht=>?_,λe=>⟨xs,sq,by rw[e,r.1];simp⟩⟩
 have hi:i<xs.length:=by
  have:=(ya3.mp ht).1;have:=r.1
  omega
 refine⟨⟨xs,xs[i],sq,ya0 hi⟩,λx H'' y=>?_⟩
 obtain⟨rfl,y⟩:=y;have hx:=y xs sq;exact⟨F',Ext.refl s2,((r.same s1).2 i t x ht hx).any⟩
theorem X1{lo}:FL K (Jp lo n) F (EG lo n):=by
 intro i F' H' s1 s2;refine⟨λt ht=>?_,λe=>?_⟩
 .unfold EG at ht;rw[ya8]at ht;obtain⟨j,e1,e2⟩:=yad.mp ht
  have hi:i<n:=by
   grind
  have hj:i=j:=by grind
  subst hj;subst e2;refine⟨hi,λx H'' y=>?_⟩
  obtain⟨rfl,rfl⟩:=y;exact⟨F',Ext.refl s2,.int _⟩
 .have:n<=i:=by rw[e];simp[EG]
  exact this
theorem zhj{p}(n:∀F' H' ,A2 F F'->A2 F' H'->A9 K H' p xs)(r:Ai K F l xs):FL K (Qs K k p) F (DY k l):=by
 intro i F' H' s1 s2;have sq:=n F' H' s1 s2;refine⟨λt ht=>?_,λe=>⟨xs,sq,by rw[e,zcz,r.1];simp⟩⟩
 rw[Yx]at ht;obtain⟨t0,h0,rfl⟩:=yad.mp ht
 have hi:i<xs.length:=by
  have:=(ya3.mp h0).1;have:=r.1
  omega
 refine⟨⟨xs,xs[i],sq,ya0 hi⟩,λx H'' y=>?_⟩
 obtain⟨q,y0,rfl,hq,rfl,y⟩:=y;have hx:=y xs sq;have e:=Ext.new (o:=.tup [.int (k+i),y0]) s2 hq;refine⟨_,e,Ai.of_node Bd ?_⟩;exact .cons (H:=H') (.int _) (.cons (H:=H') (((r.same (s1.trans e.ff)).2 i t0 y0 h0 hx).any) .nil)
theorem zkp{p p2}(n:∀F' H' ,A2 F F'->A2 F' H'->A9 K H' p xs)(n2:∀F' H' ,A2 F F'->A2 F' H'->A9 K H' p2 ys)(r:Ai K F l xs)(r2:Ai K F l2 ys):FL K (Qo K p p2) F (GF l l2):=by
 intro i F' H' s1 s2;have sq:=n F' H' s1 s2;have sq2:=n2 F' H' s1 s2;have l1:=r.1;have l2':=r2.1;refine⟨λt ht=>?_,λe=>⟨xs,ys,sq,sq2,?_⟩⟩
 .unfold GF at ht;rw[List.getElem?_zipWith]at ht;cases h1:l[i]? with
  |none=>rw[h1]at ht;cases ht
  |some t1 =>
   cases h2:l2[i]? with
   |none=>rw[h1,h2]at ht;cases ht
   |some t2 =>
    rw[h1,h2]at ht;cases ht;have hi:i<xs.length:=by have:=(ya3.mp h1).1;omega
    have hi2:i<ys.length:=by grind
    refine⟨⟨xs,xs[i],ys,ys[i],sq,ya0 hi,sq2,ya0 hi2⟩,λx H'' y=>?_⟩
    obtain⟨q,y0,z0,rfl,hq,rfl,y,z⟩:=y;have hx:=y xs sq;have hy:=z ys sq2;have e:=Ext.new (o:=.tup [y0,z0]) s2 hq;refine⟨_,e,Ai.of_node Bd ?_⟩;exact .cons (H:=H') (((r.same (s1.trans e.ff)).2 i t1 y0 h1 hx).any) (.cons (H:=H') (((r2.same (s1.trans e.ff)).2 i t2 z0 h2 hy).any) .nil)
 .have:i=min l.length l2.length:=by rw[e];simp[GF]
  omega
theorem PI.weak(h:PI X tg e t)(w:∀σ H P,t' σ H P->t σ H P):PI X tg e t':=λpins s σ H P I q=>h pins s σ H P I (w σ H P q)
theorem PI.or(h:PI X tg e t)(h':PI X tg e t'):PI X tg e (λσ H P=>t σ H P\/t' σ H P):=λpins s σ H P I q=>q.elim (h pins s σ H P I) (h' pins s σ H P I)
theorem U2(ha:PE X e (tM X.K E ca m)):PI X tg e (tI X.K E ca (H0 m)):=by
 refine PI.weak (PI.or (zjl ha) (zmt ha)) λσ H P h=>?_
 obtain⟨F,τ,R,S,q⟩:=h;unfold H0 at q
 have key:∀{o } {k } {l },m τ=some (.v (.nd o k l) false)->(∀F' H' J,Ext F H F' H' R0->FL X.K J F' (Ar l)->P J H')->∀F1 H1 x B,Ext F H F1 H1 B->DS X.K F1 H1 R (.nd o k l) false x B->∃(F2:Hp) (p:Addr) (xs:List V),x=.ref p/\Ext F H F2 H1 R0/\En X.K F2 k p xs/\Ai X.K F2 (Ar l) xs:=by
  intro o k l hm q F1 H1 x B e1 g1;obtain⟨F2,e2,_,r2⟩:=DS.frz S e1 g1;have r2' :=r2;rw[T.share]at r2';obtain⟨p,xs,rfl,_,n,kd⟩:=DV r2';exact⟨F2,p,xs,rfl,e2,n,kd⟩
 cases hm:m τ with
 |none=>simp only[hm]at q<;>exact q.elim
 |some r =>
  simp only[hm]at q;cases r with
  |x c=>exact .inl ⟨F,τ,R,S,by rw[hm];exact q⟩
  |v t bb =>
   cases t with
   |nd o k l =>
    cases bb with
    |true=>exact q.elim
    |false =>
     simp only at q;cases k with
     |lst =>
      refine .inl ⟨F,τ,R,S,?_⟩;rw[hm];intro F1 H1 x B e1 g1;obtain⟨F2,p,xs,rfl,e2,n,kd⟩:=key hm q F1 H1 x B e1 g1;exact⟨p,rfl,⟨xs,A9.of (e2.fh _ _ n)⟩,q F2 H1 _ e2 (Ox (λF' H' s1 s2=>A9.of (s2 _ _ (s1 _ _ n))) kd)⟩
     |pin _ =>
      refine .inl ⟨F,τ,R,S,?_⟩;rw[hm];intro F1 H1 x B e1 g1;obtain⟨F2,p,xs,rfl,e2,n,kd⟩:=key hm q F1 H1 x B e1 g1;exact⟨p,rfl,⟨xs,A9.of (e2.fh _ _ n)⟩,q F2 H1 _ e2 (Ox (λF' H' s1 s2=>A9.of (s2 _ _ (s1 _ _ n))) kd)⟩
     |rl =>
      refine .inl ⟨F,τ,R,S,?_⟩;rw[hm];intro F1 H1 x B e1 g1;obtain⟨F2,p,xs,rfl,e2,n,kd⟩:=key hm q F1 H1 x B e1 g1;exact⟨p,rfl,⟨xs,e2.fh.seq n.l⟩,q F2 H1 _ e2 (Ox (λF' H' s1 s2=>s2.seq (s1.seq n.l)) kd)⟩
     |tup =>
      refine .inr ⟨F,τ,R,S,?_⟩;rw[hm];intro F1 H1 x B e1 g1;obtain⟨F2,p,xs,rfl,e2,n,kd⟩:=key hm q F1 H1 x B e1 g1;exact⟨p,rfl,⟨xs,Bm.of (e2.fh _ _ n)⟩,q F2 H1 _ e2 (XZ (λF' H' s1 s2=>Bm.of (s2 _ _ (s1 _ _ n))) kd)⟩
     |rt =>
      refine .inr ⟨F,τ,R,S,?_⟩;rw[hm];intro F1 H1 x B e1 g1;obtain⟨F2,p,xs,rfl,e2,n,kd⟩:=key hm q F1 H1 x B e1 g1;exact⟨p,rfl,⟨xs,FX e2.fh n⟩,q F2 H1 _ e2 (XZ (λF' H' s1 s2=>FX s2 (FX s1 n)) kd)⟩
   |_=>exact q.elim
theorem KN{f:(Av)->Av}   (hx:∀τ c,ms τ=some (.x c)->f ms τ=some (.x c))(hn:∀τ,ms τ=none->f ms τ=none)
  (hv : ∀ F τ R ts b, StR K F H σ τ R -> ms τ = some (.v ts b) -> (match f ms τ with
   |some (.v us _)=>∀F' H' J,Ext F H F' H' R0->FL K J F' us->P J H'
   |some (.x c)=>∀F' H',Ext F H F' H' R0->XE (E σ) ca c F' H'
   |none=>False)->∀F' H' xs,Ext F H F' H' R0->Ai K (Gz b F' H' R) ts xs->W xs H') (h:tI K E ca (f ms) σ H P):Bg K E ca ms σ H W:=by
 obtain⟨F,τ,R,S,q⟩:=h;refine⟨F,τ,R,S,?_⟩;cases hm:ms τ with
 |none=>rw[hn τ hm]at q;exact q.elim
 |some r =>
  cases r with
  |x c=>rw[hx τ c hm]at q;exact q
  |v ts b=>exact λF' H' xs e rs=>hv F τ R ts b S hm q F' H' xs e rs
theorem NT(h:Ce j=true):-(2 ^ 62)<=j/\j<2 ^ 62:=@of_decide_eq_true _ (Classical.propDecidable _) h
theorem zgu(hg:Gl X "range")(hm:X.mg "range"=none)(ha:PA X [a] (Bg X.K E ca ms))(hs:starEach [a] X.env=[(false,eval a X.env)]):PI X tg (.Call (.Name "range" p) [a] [] pos) (tI X.K E ca (DR ms)):=by
 refine PI.weak (zf7 hg hm ha hs) λσ H P h=>?_
 refine KN (λτ c e=>by unfold DR;rw[e]) (λτ e=>by unfold DR;rw[e]) (λF τ R ts b S e q F' H' xs e1 rs=>?_) h
 unfold DR at q;rw[e]at q;simp only at q;cases h1:Ll ts with
 |none=>simp only[h1]at q<;>exact q.elim
 |some j =>
  simp only[h1]at q
  by_cases hj:Ce j=true
  .simp only[hj,ye4]at q;obtain⟨g1,g2⟩:=NT hj;unfold Ll at h1;split at h1
   .cases h1;obtain⟨x1,xs1,rfl,r1,rs1⟩:=rs.inv;cases rs1.inv0;rw[r1.int_inv];exact⟨j,rfl,g1,g2,q F' H' _ e1 X1⟩
   .cases h1
  grind
theorem zgt(hg:Gl X "range")(hm:X.mg "range"=none)(ha:PA X [a,b] (Bg X.K E ca ms))(hs:starEach [a,b] X.env=[(false,eval a X.env),(false,eval b X.env)])(hs2:starEach [b] X.env=[(false,eval b X.env)]):PI X tg (.Call (.Name "range" p) [a,b] [] pos) (tI X.K E ca (G6 ms)):=by
 refine PI.weak (zf6 hg hm ha hs hs2) λσ H P h=>?_
 refine KN (λτ c e=>by unfold G6;rw[e]) (λτ e=>by unfold G6;rw[e]) (λF τ R ts b S e q F' H' xs e1 rs=>?_) h
 unfold G6 at q;rw[e]at q;simp only at q;cases h1:Lk ts with
 |none=>simp only[h1]at q<;>exact q.elim
 |some ij =>
  obtain⟨i,j⟩:=ij;simp only[h1]at q
  by_cases hj:(Ce i && Ce j)=true
  .simp only[hj,ye4]at q;rw[ya2]at hj;obtain⟨g1,g2⟩:=NT hj.1;obtain⟨g3,g4⟩:=NT hj.2;unfold Lk at h1;split at h1
   .cases h1;obtain⟨x1,xs1,rfl,r1,rs1⟩:=rs.inv;obtain⟨x2,xs2,rfl,r2,rs2⟩:=rs1.inv;cases rs2.inv0;rw[r1.int_inv,r2.int_inv];exact⟨i,j,rfl,⟨g1,g2,g3,g4⟩,q F' H' _ e1 X1⟩
   .cases h1
  .simp only[hj]at q;exact q.elim
theorem LM(h:HZ (.nd o k l)=true)(r:Rp K F F (.nd o k l) x R0):∃p xs,x=.ref p/\(∀F' H' ,A2 F F'->A2 F' H'->A9 K H' p xs)/\Ai K F l xs:=by
 obtain⟨p,xs,rfl,_,n,kd⟩:=DV r;refine⟨p,xs,rfl,λF' H' s1 s2=>?_,kd⟩
 cases k with
 |lst=>exact A9.of (s2 _ _ (s1 _ _ n))
 |rl=>exact s2.seq (s1.seq n.l)
 |tup=>cases h
 |rt=>cases h
 |pin q=>exact A9.of (s2 _ _ (s1 _ _ n))
theorem U3(hg:Gl X "enumerate")(hm:X.mg "enumerate"=none)(ha:PA X [a] (Bg X.K E ca ms))(hs:starEach [a] X.env=[(false,eval a X.env)]):PI X (.Tuple elts kk tpos) (.Call (.Name "enumerate" p) [a] [] pos) (tI X.K E ca (CM ms)):=by
 refine PI.weak (zjm hg hm ha hs) λσ H P h=>?_
 refine KN (λτ c e=>by unfold CM;rw[e]) (λτ e=>by unfold CM;rw[e]) (λF τ R ts b S e q F' H' xs e1 rs=>?_) h
 unfold CM at q;rw[e]at q;cases b with
 |true=>exact q.elim
 |false =>
  simp only at q;cases h1:Lj ts with
  |none=>grind
  |some l =>
   simp only[h1]at q;unfold Lj at h1;split at h1
   .split at h1
    .cases h1;rename_i hL;obtain⟨x1,xs1,rfl,r1,rs1⟩:=rs.inv;cases rs1.inv0;obtain⟨p',ys,rfl,sq,kd⟩:=LM hL r1;exact⟨p',rfl,⟨ys,sq F' H' (.refl _) e1.fh⟩,q F' H' _ e1 (zhj sq kd)⟩
    .cases h1
   .cases h1
theorem r_zip(hg:Gl X "zip")(hm:X.mg "zip"=none)(ha:PA X [a,b] (Bg X.K E ca ms))(hs:starEach [a,b] X.env=[(false,eval a X.env),(false,eval b X.env)])(hs2:starEach [b] X.env=[(false,eval b X.env)]):PI X (.Tuple elts kk tpos) (.Call (.Name "zip" p) [a,b] [] pos) (tI X.K E ca (FI ms)):=by
 refine PI.weak (zms hg hm ha hs hs2) λσ H P h=>?_
 refine KN (λτ c e=>by unfold FI;rw[e]) (λτ e=>by unfold FI;rw[e]) (λF τ R ts b S e q F' H' xs e1 rs=>?_) h
 unfold FI at q;rw[e]at q;cases b with
 |true=>exact q.elim
 |false =>
  simp only at q;cases h1:Li ts with
  |none=>simp only[h1]at q<;>exact q.elim
  |some lm =>
   obtain⟨l,m'⟩:=lm;simp only[h1]at q;unfold Li at h1;split at h1
   .split at h1
    .cases h1;rename_i hL;rw[ya2]at hL;obtain⟨x1,xs1,rfl,r1,rs1⟩:=rs.inv;obtain⟨x2,xs2,rfl,r2,rs2⟩:=rs1.inv;cases rs2.inv0;obtain⟨p',ys,rfl,sq,kd⟩:=LM hL.1 r1;obtain⟨p2,zs,rfl,sq2,kd2⟩:=LM hL.2 r2;exact⟨p',p2,rfl,⟨ys,sq F' H' (.refl _) e1.fh⟩,⟨zs,sq2 F' H' (.refl _) e1.fh⟩,q F' H' _ e1 (zkp sq sq2 kd kd2)⟩
    .cases h1
   .cases h1
end
theorem StR.set{K}(S:StR K F H σ τ R)(r:Rp K F H t x A)(d:∀j a,j≠i->R j a->¬ A a)(hi:i<τ.length) :
  StR K F H (σ.set i (some x)) (τ.set i (some t)) (λj=>if j=i then A else R j):=by
 have hl:=S.len;refine⟨S.fh,by simp[hl],λj t' e=>?_,λj a z=>?_,λj k a hjk z1 z2=>?_⟩
 .by_cases hj:j=i
  .grind
  .rw[yah (yao hj)]at e ⊢;obtain⟨y,e1,r1⟩:=S.rep j t' e;exact⟨y,e1,by simpa[hj] using r1⟩
 .by_cases hj:j=i
  .subst hj;exact⟨t,yal hi⟩
  .simp only[hj,yeg]at z;obtain⟨t',e⟩:=S.out j a z;exact⟨t',by rw[yah (yao hj)];exact e⟩
 .by_cases hj:j=i
  .grind
  .simp only[hj,yeg]at z1
   by_cases hk:k=i
   .simp only[hk,ye4]at z2;exact d j a hj z1 z2
   .simp only[hk,yeg]at z2;exact S.dis j k a hjk z1 z2
def DT(K:k6)(b:T->AL->Option AL):TG:=λv σ H Q=>∃F τ R t τ',StR K F H σ τ R/\Rp K F H t v R0/\b t τ=some τ'/\∀σ' R',StR K F H σ' τ' R'->(∀i a,R' i a->R i a)->Q σ' H
def GK(K:k6)(b:List T->AL->Option AL):Hn:=λvs σ H Q=>∃F τ R ts τ',StR K F H σ τ R/\Ai K F ts vs/\b ts τ=some τ'/\∀σ' R',StR K F H σ' τ' R'->(∀i a,R' i a->R i a)->Q σ' H
def AE(i:Nat):T->AL->Option AL:=λt τ=>if i<τ.length then some (τ.set i (some t)) else none
def BG:List T->AL->Option AL
 |[],τ=>some τ
 |_::_,_=>none
def AQ(b:T->AL->Option AL)(bs:List T->AL->Option AL):List T->AL->Option AL
 |t::ts,τ=>(match b t τ with
  |some τ'=>bs ts τ'
  |none=>none)
 |[],_=>none
def BE(n:Nat)(bs:List T->AL->Option AL):T->AL->Option AL
 |.nd _ .tup l,τ=>if l.length=n then bs l τ else none
 |.nd _ .rt l,τ=>if l.length=n then bs l τ else none
 |.nd _ .lst l,τ=>if l.length=n then bs l τ else none
 |_,_=>none
theorem zmw       (hc:X.calm=true)(h:DO X es t)(hn:(assignEach es X.env).length=n)(hst:(assignEach es X.env).findIdx? (·.1)=none):PG X (.Tuple es k pos) (λv σ H Q=>PK X.K n t v σ H Q\/∃a xs,v=.ref a/\A9 X.K H a xs/\xs.length=n/\t xs σ H Q):=by
 intro pins s σ H v u Q I r hw
 rcases hw with hw|⟨a,xs,e1,hq,hl,hw⟩
 .exact zmv hc h hn hst pins s σ H v u Q I r hw
 .subst e1;cases r;obtain⟨its,rv,⟨o,m,ho,hcl,_,hd⟩,hz⟩:=I.list hq;refine ydt (ydv ?_);unfold unpack;rw[hst,hn,show n=its.toArray.size by simp[<- hl,rv.length]]
  refine ydt (ydu (PySem.W.kun_itemsOf (I.ok.hd hc) ⟨o,ho,hcl,m,hd⟩ λh' hx=>?_))
  have I1 :=I.kept (t':=s.toks) λb o e=>hx b o (yaf (ya5 e)) e
  exact h pins _ σ H xs _ Q I1 (by grind) hw
section
variable {X:Cx}{e:Expr}{es:List Expr}{pos:Pos}{b:T->AL->Option AL}{bs:List T->AL->Option AL}
theorem PG.weak(h:PG X e t)(w:∀v σ H Q,t' v σ H Q->t v σ H Q):PG X e t':=λpins s σ H v u Q I r q=>h pins s σ H v u Q I r (w v σ H Q q)
theorem DO.weak(h:DO X es t)(w:∀v σ H Q,t' v σ H Q->t v σ H Q):DO X es t':=λpins s σ H v u Q I r q=>h pins s σ H v u Q I r (w v σ H Q q)
theorem g_nm(hN:X.N.Nodup)(hi:X.N[i]?=some x)(hx:GC X.env.scope x)(hf:X.fn x=true\/X.env.scope.names.lookup x=some .local):PG X (.Name x pos) (DT X.K (AE i)):=by
 refine PG.weak (zjo hN hi hx hf) λv σ H Q h=>?_
 obtain⟨F,τ,R,t,τ',S,r,e,q⟩:=h;unfold AE at e;split at e
 .cases e;rename_i hl;refine q _ _ (S.set r (λ_ _ _ _ z=>z.elim) hl) λj a z=>?_
  by_cases hj:j=i
  .simp only[hj]at z;exact z.elim
  grind
 .cases e
theorem g_nil:DO X [] (GK X.K BG):=DO.weak zjn λv σ H Q h=>by
 obtain⟨F,τ,R,ts,τ',S,r,e,q⟩:=h;cases ts with
 |nil=>cases e;exact⟨r.inv0,q σ R S λ_ _ z=>z⟩
 |cons _ _=>cases e
theorem zoh(h1:PG X e (DT X.K b))(h2:DO X es (GK X.K bs))(hs:(assignEach (e::es) X.env).map (·.2)=assign e X.env::(assignEach es X.env).map (·.2)):DO X (e::es) (GK X.K (AQ b bs)):=by
 refine DO.weak (zh0 h1 h2 hs) λv σ H Q h=>?_
 obtain⟨F,τ,R,ts,τ',S,r,e,q⟩:=h;cases ts with
 |nil=>cases e
 |cons t ts =>
  obtain⟨x,xs,rfl,r1,rs⟩:=r.inv;unfold AQ at e;simp only at e;cases hb:b t τ with
  |none=>grind
  |some τ1 =>
   rw[hb]at e;exact⟨x,xs,rfl,F,τ,R,t,τ1,S,r1.any,hb,λσ1 R1 S1 w1=>⟨F,τ1,R1,ts,τ',S1,rs,e,λσ2 R2 S2 w2=>q σ2 R2 S2 λi a z=>w1 i a (w2 i a z)⟩⟩
theorem g_tup(hc:X.calm=true)(h:DO X es (GK X.K bs))(hn:(assignEach es X.env).length=n)(hst:(assignEach es X.env).findIdx? (·.1)=none):PG X (.Tuple es k pos) (DT X.K (BE n bs)):=by
 refine PG.weak (zmw hc h hn hst) λv σ H Q h=>?_
 obtain⟨F,τ,R,t,τ',S,r,e,q⟩:=h
 have key:∀{o } {kd } {l },t=.nd o kd l->(kd=.tup\/kd=.rt\/kd=.lst)->(if l.length=n then bs l τ else none)=some τ'->(PK X.K n (GK X.K bs) v σ H Q\/∃a xs,v=.ref a/\A9 X.K H a xs/\xs.length=n/\GK X.K bs xs σ H Q):=by
  intro o kd l et hk e';subst et;split at e'
  .rename_i hl;obtain⟨p,xs,rfl,_,nn,kid⟩:=DV (r.any (H':=F));have hx:xs.length=n:=by rw[<- kid.1];exact hl
   rcases hk with rfl|rfl|rfl
   .exact .inl ⟨p,xs,rfl,Bm.of (S.fh _ _ nn),hx,F,τ,R,l,τ',S,kid,e',q⟩
   .exact .inl ⟨p,xs,rfl,FX S.fh nn,hx,F,τ,R,l,τ',S,kid,e',q⟩
   .exact .inr ⟨p,xs,rfl,A9.of (S.fh _ _ nn),hx,F,τ,R,l,τ',S,kid,e',q⟩
  .cases e'
 unfold BE at e
 grind
end
section
end
section
variable {X:Cx}{a:Expr}{elts:List Expr}{kk ko:Nat}{tpos p pos kp vp:Pos}{E:L2.St->XK}{ca:Str->Value}{ms:Av}
end
def E00:L2.St->XK:=λ_=>E0
noncomputable def BZ(b:T->AL->Option AL)(mt me:AG):List T->AL->Option (List T)
 |[],_=>some []
 |t::ts,τ=>(match b t τ with
  |some τ1=>(match mt τ1 with
   |some (.v (.bl true) _)=>(match me τ1 with
    |some (.v v false)=>(match BZ b mt me ts τ1 with
     |some l=>some (v::l)
     |none=>none)
    |_=>none)
   |some (.v (.bl false) _)=>BZ b mt me ts τ1
   |_=>none)
  |none=>none)
noncomputable def Dt(b:T->AL->Option AL)(mt me:AG):List T->AL->Option Str
 |[],_=>none
 |t::ts,τ=>(match b t τ with
  |some τ1=>(match mt τ1 with
   |some (.v (.bl true) _)=>(match me τ1 with
    |some (.v _ false)=>Dt b mt me ts τ1
    |some (.x c)=>some c
    |_=>none)
   |some (.v (.bl false) _)=>Dt b mt me ts τ1
   |some (.x c)=>some c
   |_=>none)
  |none=>none)
noncomputable def Pz(τ:AL)(j:Nat):Option T:=match τ[j]? with
 |some (some t)=>if t.sh then some t else none
 |_=>none
def blk(n:Nat)(caps:List Nat)(τ:AL):AL:=List.replicate n none++caps.map (Pz τ)
noncomputable def Py(σ:L2.St)(j:Nat):Option V:=match σ[j]? with
 |some (some v)=>some v
 |_=>none
def EA(n:Nat)(caps:List Nat)(σ:L2.St):L2.St:=List.replicate n none++caps.map (Py σ)
def BA(n:Nat)(caps:List Nat)(mi:Av)(b:T->AL->Option AL)(mt me:AG):AG:=λτ=>match mi τ with
 |some (.v ts _)=>if ts.length<=BV then (match BZ b mt me ts (blk n caps τ) with
  |some l=>some (.v (.own l) false)
  |none=>(match Dt b mt me ts (blk n caps τ) with
   |some c=>some (.x c)
   |none=>none)) else none
 |some (.x c)=>some (.x c)
 |none=>none
theorem zoz{K}(S:StR K F H σ τ R)(n:Nat)(caps):StR K F H (EA n caps σ) (blk n caps τ) (λ_=>R0):=by
 refine⟨S.fh,by simp[EA,blk],λi t e=>?_,λ_ _ z=>z.elim,λ_ _ _ _ z=>z.elim⟩
 unfold blk at e;unfold EA
 by_cases hi:i<n
 .grind
 .rw[yaz (by simp;omega),ya8]at e ⊢
  simp only[ycx]at e ⊢;cases hc:caps[i - n]? with
  |none=>rw[hc]at e;cases e
  |some j =>
   rw[hc]at e;simp only[ycd]at e ⊢;have e' :=yap e;unfold Pz at e';split at e'
   .rename_i t' ht;split at e'
    .cases e';rename_i hs;obtain⟨x,ex,r⟩:=S.rep j _ ht;refine⟨x,?_,r.move hs (.refl _)⟩;unfold Py;rw[ex]
    .cases e'
   .cases e'
theorem SD{l:List T}(h:tot (λj=>if j=l.length then B else Rr j) a):tot Rr a\/B a:=by
 obtain⟨j,z⟩:=h
 by_cases hj:j=l.length
 .grind
 .simp only[hj]at z;exact .inl ⟨j,z⟩
section
variable {X:Cx}{E:L2.St->XK}{ca:Str->Value}{σ:L2.St}{H:Hp}{K:k6}{n:Nat}{caps:List Nat}{mi:Av}{b:T->AL->Option AL}{mt me:AG}
theorem zfg(h:BZ b mt me (t::us) τ1=some l2):∃τ2,b t τ1=some τ2/\((∃bt,mt τ2=some (.v (.bl false) bt)/\BZ b mt me us τ2=some l2)\/∃bt w l3,mt τ2=some (.v (.bl true) bt)/\me τ2=some (.v w false)/\BZ b mt me us τ2=some l3/\l2=w::l3):=by
 unfold BZ at h
 grind
theorem zhf(h:Dt b mt me (t::us) τ1=some c):∃τ2,b t τ1=some τ2/\((∃bt,mt τ2=some (.v (.bl false) bt)/\Dt b mt me us τ2=some c)\/(∃bt,mt τ2=some (.v (.bl true) bt)/\((∃w,me τ2=some (.v w false)/\Dt b mt me us τ2=some c)\/me τ2=some (.x c)))\/mt τ2=some (.x c)):=by
 unfold Dt at h
 grind
theorem Rl  (h:tM K E ca (BA n caps mi b mt me) σ H Q):KL (EA n caps) (tI K E ca mi) (DT K b) (BH K (λ_=>E σ) ca mt) (tM K (λ_=>E σ) ca me) σ H Q:=by
 obtain⟨F,τ,R,S,q⟩:=h;refine⟨F,τ,R,S,?_⟩;unfold BA at q;cases hi:mi τ with
 |none=>simp only[hi]at q<;>exact q.elim
 |some r =>
  simp only[hi]at q;cases r with
  |x c=>exact q
  |v ts bb =>
   intro F1 H1 J e1 its
   by_cases hz':¬ ts.length<=BV
   .simp only[hz',yeg]at q<;>exact q.elim
   have hz :=Decidable.not_not.mp hz';simp only[hz,ye4]at q
   obtain⟨G,g1,g0,gs⟩:∃G:List T->AL->List T->Prop,(∀t us τ1 l,G (t::us) τ1 l->∃τ2,b t τ1=some τ2/\((∃bt,mt τ2=some (.v (.bl false) bt)/\G us τ2 l)\/(∃bt,mt τ2=some (.v (.bl true) bt)/\((∃w,me τ2=some (.v w false)/\G us τ2 (l++[w]))\/∃c,me τ2=some (.x c)/\∀F' H',Ext F H F' H' R0->XE (E σ) ca c F' H'))\/∃c,mt τ2=some (.x c)/\∀F' H',Ext F H F' H' R0->XE (E σ) ca c F' H')) /\
     (∀τ1 l,G [] τ1 l->∀F' H' x B,Ext F H F' H' B->Rp K F' H' (.own l) x B->Q x H')/\G ts (blk n caps τ) []:=by
    cases hg:BZ b mt me ts (blk n caps τ) with
    |some res =>
     simp only[hg]at q;refine⟨λus τ1 l=>∃l2,BZ b mt me us τ1=some l2/\l++l2=res,λt us τ1 l z=>?_,λτ1 l z=>?_,res,hg,rfl⟩
     .obtain⟨l2,z,e⟩:=z;obtain⟨τ2,y,w|⟨bt,w,l3,y1,y2,y3,rfl⟩⟩:=zfg z
      .obtain⟨bt,w1,w2⟩:=w;exact⟨τ2,y,.inl ⟨bt,w1,l2,w2,e⟩⟩
      .exact⟨τ2,y,.inr (.inl ⟨bt,y1,.inl ⟨w,y2,l3,y3,by simpa using e⟩⟩)⟩
     .obtain⟨l2,z,e⟩:=z;cases z;rw[yd3]at e;subst e;exact q
    |none =>
     simp only[hg]at q;cases hx:Dt b mt me ts (blk n caps τ) with
     |none=>simp only[hx]at q<;>exact q.elim
     |some c =>
      simp only[hx]at q;refine⟨λus τ1 l=>Dt b mt me us τ1=some c,λt us τ1 l z=>?_,λτ1 l z=>(by cases z),hx⟩
      obtain⟨τ2,y,w|⟨bt,y1,⟨w,y2,y3⟩|y2⟩|w⟩:=zhf z
      .exact⟨τ2,y,.inl w⟩
      .exact⟨τ2,y,.inr (.inl ⟨bt,y1,.inl ⟨w,y2,y3⟩⟩)⟩
      .exact⟨τ2,y,.inr (.inl ⟨bt,y1,.inr ⟨c,y2,q⟩⟩)⟩
      .exact⟨τ2,y,.inr (.inr ⟨c,w,q⟩)⟩
   have S1:=S.ext e1;refine⟨λi ys st H'=>∃(F':Hp) (τ':AL) (l:List T) (Rr:Nat->Rg),Ext F1 H1 F' H' (tot Rr)/\RpO K F' H' l ys Rr/\StR K F' H' st τ' (λ_=>R0)/\i<=ts.length/\G (ts.drop i) τ' l/\l.length<=i,ts.length,by rw[<- Eb];exact hz,?_,?_⟩
   .exact⟨F1,blk n caps τ,[],λ_=>R0,(Ext.refl S1.fh).mono λa ⟨_,z⟩=>z.elim,.nil,zoz S1 n caps,ybg _,gs,ya9 _⟩
   .rintro i ys st H' ⟨F',τ',l,Rr,e2,ro,S2,hle,hgo,hll⟩;have hly:=ro.len;refine⟨by omega,hle,?_⟩
    obtain⟨i1,i2⟩:=its i F' H' e2.ff e2.fh
    by_cases hlt:i<ts.length
    .refine .inr ⟨hlt,?_⟩;obtain⟨go,yld⟩:=i1 _ (ya0 hlt);refine⟨go,λx H'' y=>?_⟩
     obtain⟨F'',e3,rx⟩:=yld x H'' y;have S3:=S2.ext e3;rw[ybf hlt]at hgo;obtain⟨τ1,hb,hgo⟩:=g1 _ _ _ _ hgo;refine⟨F'',τ',_,ts[i],τ1,S3,rx,hb,λst1 R1 S4 hR1=>?_⟩
     have R1e :=funext λj=>funext λa=>propext ⟨λz=>hR1 j a z,λz=>z.elim⟩
     subst R1e;refine⟨F'',τ1,_,S4,?_⟩;have eX:∀{c },(∀F' H',Ext F H F' H' R0->XE (E σ) ca c F' H')->∀F' H',Ext F'' H'' F' H' R0->XE (E σ) ca c F' H':=λz F' H' e=>z F' H' (((e1.trans0 e2).trans (e3.trans0 e)).mono λ_ z=>z.elim)
     rcases hgo with ⟨bt,ht,hgo⟩|⟨bt,ht,hgo⟩|⟨c,ht,hX⟩
     .rw[ht];intro F4 H4 e4;exact JL ⟨F4,τ1,l,Rr,(e2.trans ((e3.trans0 e4).mono λ_ z=>z)).mono λa z=>.inl z,(ro.ext e3).ext e4,S4.ext e4,hlt,hgo,by omega⟩
     .rw[ht];intro F4 H4 e4;have S5:=S4.ext e4;have e24:=e2.trans ((e3.trans0 e4).mono λ_ z=>z)
      refine JK ⟨F4,τ1,_,S5,?_⟩
      rcases hgo with ⟨ve,he,hgo⟩|⟨c,he,hX⟩
      .rw[he];intro F5 H5 y B e5 ry;have ry' :=ry;have ro4:=(ro.ext e3).ext e4;have ro5:=ro4.ext e5;refine⟨F5,τ1,l++[ve],_,(e24.trans e5).mono ?_,ro5.snoc ry' (λj a z1 z2=>ro4.apart e5 z2 j z1),S5.ext e5,hlt,hgo,by simp;omega⟩
       intro a z
       rcases SD z with z|z
       .exact .inl (.inl z)
       .exact .inr z
      .rw[he];exact λF' H' e=>eX hX F' H' (e4.trans0 e)
     .rw[ht];exact eX hX
    .have hi':i=ts.length:=by omega
     subst hi';refine .inl ⟨i2 rfl,λp hp=>?_⟩
     rw[List.drop_length]at hgo;obtain⟨rl,e3⟩:=ro.list e2.fh hp;refine g0 _ _ hgo F' _ _ _ (((e1.trans0 e2).trans e3).mono ?_) rl;rintro a (z|⟨j,z⟩)
     .exact .inr z
     .exact .inl ⟨j,z⟩
structure BlkOk(X:Cx)(scope:Scope)(N':List Str)(n:Nat)(caps:List Nat):Prop where
 kind:scope.kind=.function
 names:∀y∈scope.names,y.2=.local->scope.names.lookup y.1=some .local
 len:N'.length=n+caps.length
 cap:∀(k j:Nat),caps[k]?=some j->∃y,X.N[j]?=some y/\N'[n+k]?=some y/\scope.names.lookup y=some .free/\(y,NameKind.cell)∉scope.names
 free:∀y∈scope.names,y.2=.free->scope.names.lookup y.1=some .free/\(X.env.scope.names.lookup y.1=some .cell\/X.env.scope.names.lookup y.1=some .free)
theorem Og{env:Env}(y:Str):∀(names:List (Str×NameKind)),(names.map λ(n,k)=>if (k == NameKind.free && env.scope.kind == .function && env.kindOf n == some .cell) then (n,NameKind.cell) else (n,k)).lookup y =
  (names.lookup y).map λk=>if (k == NameKind.free && env.scope.kind == .function && env.kindOf y == some .cell) then .cell else k
 |[]=>rfl
 |(n,k)::r=>by
  rw[yaq];cases hy:y == n with
  |true =>
   grind
  |false =>
   by_cases hc:(k == .free && env.scope.kind == .function && env.kindOf n == some .cell)=true
   .simp only[hc,ye4,ybd,hy];exact Og y r
   .simp only[hc,hy];simp only[yc0,yeg,ybd,hy];exact Og y r
theorem NM(scope)(env)(y):(relabel scope env).names.lookup y=(scope.names.lookup y).map λk=>if (k == NameKind.free && env.scope.kind == .function && env.kindOf y == some .cell) then .cell else k:=Og y scope.names
theorem Oh:∀{names:List (Str×NameKind)},names.lookup y=some k->(y,k)∈names:=λh=>yb6 h
theorem Z1   (B:BlkOk X scope N' n caps)   (I:Inv X pins σ H s) :
  ∃cl,closureFor scope X.env=pure cl/\(∀y c,cl.lookup y=some c->X.env.cells.lookup y=some c)/\(∀y,(relabel scope X.env).names.lookup y=some .cell\/(relabel scope X.env).names.lookup y=some .free->(y,NameKind.cell)∈scope.names\/∃c,cl.lookup y=some c) /\
   (∀(σ:L2.St) (i:Nat) (y:Str) (v:V),N'[i]?=some y->(EA n caps σ)[i]?=some (some v)->(y,NameKind.cell)∉scope.names) /\
   (∀σ:L2.St,σ.length=X.N.length->(EA n caps σ).length=N'.length) /\
   (∀(σ ) (i:Nat) (y:Str) (v:V),N'[i]?=some y->(EA n caps σ)[i]?=some (some v)->((relabel scope X.env).names.lookup y=some .cell\/(relabel scope X.env).names.lookup y=some .free)/\∃j:Nat,X.N[j]?=some y/\σ[j]?=some (some v)/\C8 X.env.scope y/\X.env.kindOf y≠some .local):=by
 obtain⟨cl,h1,h2,h3⟩:=zdt scope X.env λy hy hf=>I.ok.has y.1 (B.free y hy hf).2
 have Fy:∀(σ ) (i:Nat) (y ) (v ),N'[i]?=some y->(EA n caps σ)[i]?=some (some v)->∃j:Nat,X.N[j]?=some y/\σ[j]?=some (some v)/\scope.names.lookup y=some .free/\(y,NameKind.cell)∉scope.names:=by
  intro σ i y v e1 e2;unfold EA at e2
  by_cases hi:i<n
  .rw[yau (by simpa using hi),List.getElem?_replicate,if_pos hi]at e2
   cases e2
  .rw[yaz (by simp;omega),ya8]at e2
   simp only[ycx]at e2;cases hc:caps[i - n]? with
   |none=>rw[hc]at e2;cases e2
   |some j =>
    rw[hc]at e2;simp only[ycd]at e2;have e' :=yap e2;obtain⟨y',g1,g2,g3,g4⟩:=B.cap (i - n) j hc;have en:n+(i - n)=i:=by omega
    rw[en,e1]at g2;cases g2
    have sv :=by
     unfold Py at e';split at e'
     .rename_i v' hv;cases e';exact hv
     .cases e'
    exact⟨j,g1,sv,g3,g4⟩
 refine⟨cl,h1,h2,λy hy=>?_,λσ i y v e1 e2=>?_,λσ hσ=>by simp[EA,B.len],λσ i y v e1 e2=>?_⟩
 .cases hk:scope.names.lookup y with
  |none =>
   rw[NM,hk]at hy
   rcases hy with hy|hy<;>cases hy
  |some k =>
   by_cases hf:k=.free
   .subst hf;exact .inr (h3 _ (Oh hk) rfl)
   .rw[NM,hk]at hy;simp only[ycd]at hy;have hf' :=beq_eq_false_iff_ne.mpr hf;simp only[hf',ycn,yc0,yeg]at hy
    rcases hy with hy|hy
    .cases hy;exact .inl (Oh hk)
    .cases hy;exact absurd rfl hf
 .exact(Fy σ i y v e1 e2).choose_spec.2.2.2
 .obtain⟨j,g1,sv,g3,g4⟩:=Fy σ i y v e1 e2;have fr:=B.free _ (Oh g3) rfl;refine⟨?_,j,g1,sv,?_,?_⟩
  .rw[NM,g3];simp only[ycd]
   by_cases hc2:(NameKind.free == NameKind.free && X.env.scope.kind == .function && X.env.kindOf y == some .cell)=true
   .exact .inl (by rw[if_pos hc2])
   .exact .inr (by rw[if_neg hc2])
  .rcases fr.2 with z|z
   .exact .inr (.inl z)
   .exact .inr (.inr z)
  .intro z;have z':X.env.scope.names.lookup y=some .local:=z
   rcases fr.2 with w|w
   .rw[z']at w;cases w
   .rw[z']at w;cases w
theorem r_lcV(B:BlkOk X scope N' n caps)(hc:∀pins σ H s cl C ex xb,Inv X pins σ H s->cq (Aq X scope cl N' C s H ex xb))(hi:PJ cq X tg iter (tI X.K E ca mi))
  (hps:BK X E) (hst:Gv X) (hg:∀cl C s₀ H₀ ex xb E',BK (Aq X scope cl N' C s₀ H₀ ex xb) E'->PG (Aq X scope cl N' C s₀ H₀ ex xb) tg (DT X.K b)) (ht:∀cl C s₀ H₀ ex xb E',BK (Aq X scope cl N' C s₀ H₀ ex xb) E'->GB (Aq X scope cl N' C s₀ H₀ ex xb) ifs (BH X.K E' ca mt)) (he:∀cl C s₀ H₀ ex xb E',BK (Aq X scope cl N' C s₀ H₀ ex xb) E'->PE (Aq X scope cl N' C s₀ H₀ ex xb) elt (tM X.K E' ca me))
  (hs:∀x,foldedSetIterable iter X.env x=pure x):PE X (.ListComp elt [⟨tg,iter,ifs,0⟩] scope pos) (tM X.K E ca (BA n caps mi b mt me)):=by
 intro pins s σ H Q I h;obtain⟨cl,h1,h2,h3,h4,h5,h6⟩:=Z1 B I;exact znw (EA n caps) h1 B.kind B.names h2 h3 h4 h5 h6 hc hi hps hst (λcl C s₀ H₀ ex xb=>hg cl C s₀ H₀ ex xb _) (λcl C s₀ H₀ ex xb=>ht cl C s₀ H₀ ex xb _) (λcl C s₀ H₀ ex xb=>he cl C s₀ H₀ ex xb _) hs I (Rl h)
theorem r_lcS      (B:BlkOk X scope N' n caps)(hc:X.calm=true)(hi:PI X tg iter (tI X.K E ca mi))
  (hps:BK X E) (hst:Gv X) (hg:∀cl C s₀ H₀ ex xb E',BK (Aq X scope cl N' C s₀ H₀ ex xb) E'->PG (Aq X scope cl N' C s₀ H₀ ex xb) tg (DT X.K b)) (ht:∀cl C s₀ H₀ ex xb E',BK (Aq X scope cl N' C s₀ H₀ ex xb) E'->GB (Aq X scope cl N' C s₀ H₀ ex xb) ifs (BH X.K E' ca mt)) (he:∀cl C s₀ H₀ ex xb E',BK (Aq X scope cl N' C s₀ H₀ ex xb) E'->PE (Aq X scope cl N' C s₀ H₀ ex xb) elt (tM X.K E' ca me))
  (hs:∀x,foldedSetIterable iter X.env x=pure x)  {x:Str} (hN:X.N.Nodup) (hix:X.N[i]?=some x) (hx:X.env.scope.names.lookup x=some .local)
  (hsw:swapsWith (.ListComp elt [⟨tg,iter,ifs,0⟩] scope pos) (some (.Name x pos')) pos2.line X.env=pure true):PS X (.Assign [.Name x pos'] (.ListComp elt [⟨tg,iter,ifs,0⟩] scope pos) pos2) (λD σ H=>tM X.K E ca (BA n caps mi b mt me) σ H λv H1=>D.nx (σ.set i (some v)) H1):=by
 intro pins s σ H D I h;obtain⟨cl,h1,h2,h3,h4,h5,h6⟩:=Z1 B I;exact znx (EA n caps) h1 B.kind B.names h2 h3 h4 h5 h6 hc hi hps hst (λcl C s₀ H₀ ex xb=>hg cl C s₀ H₀ ex xb _) (λcl C s₀ H₀ ex xb=>ht cl C s₀ H₀ ex xb _) (λcl C s₀ H₀ ex xb=>he cl C s₀ H₀ ex xb _) hs hN hix hx hsw I (Rl h)
end
section
variable {X:Cx}{E:L2.St->XK}{ca:Str->Value}{m mk mv:AG}{o k v:Expr}{pos p p2 ap cp:Pos}{K:k6}{elts:List Expr}{kk:Nat}{tpos:Pos}
end
set_option genInjectivity true in
inductive Out where
 |nx (τ:AL)|rt (t:T)|bk (τ:AL)|ct (τ:AL)|xc (c:Str) (τ:AL)
abbrev AH:=AL->Option Out
structure Stp(F H:Hp)(O:Rg)(F' H':Hp)(O':Rg):Prop where
 ff:A2 F F'
 fh:A2 F' H'
 kp:∀b u,¬ O b->H b=some u->H' b=some u
 nw:∀b,O' b->O b\/H b=none
 nf:∀b u,F' b=some u->F b=some u\/O b\/H b=none
section
variable {F H F1 H1 F2 H2:Hp}{O O1 O2 B:Rg}{R:Nat->Rg}
theorem Stp.refl(s:A2 F H):Stp F H O F H O:=⟨.refl _,s,λ_ _ _ e=>e,λ_ z=>.inl z,λ_ _ e=>.inl e⟩
theorem Stp.trans(a:Stp F H O F1 H1 O1)(b:Stp F1 H1 O1 F2 H2 O2):Stp F H O F2 H2 O2 where
 ff:=a.ff.trans b.ff
 fh:=b.fh
 kp:=λx u n e=>b.kp x u (λz=>(a.nw x z).elim n λw=>by grind) (a.kp x u n e)
 nw:=λx z=>(b.nw x z).elim (a.nw x) λw=>by
  by_cases hO:O x
  .exact .inl hO
  .cases e:H x with
   |none=>simp
   |some u=>rw[a.kp x u hO e]at w;cases w
 nf:=λx u e=>(b.nf x u e).elim (a.nf x u) λz=>.inr (z.elim (a.nw x) λw=>by
  by_cases hO:O x
  .exact .inl hO
  .cases e':H x with
   |none=>simp
   |some u'=>rw[a.kp x u' hO e']at w;cases w)
theorem Stp.mono(a:Stp F H O F1 H1 O1)(h:∀x,O2 x->O1 x):Stp F H O F1 H1 O2:=⟨a.ff,a.fh,a.kp,λx z=>a.nw x (h x z),a.nf⟩
theorem Ext.stp(e:Ext F H F1 H1 B):Stp F H O F1 H1 (λx=>O x\/B x):=⟨e.ff,e.fh,λb u _ q=>e.hh b u q,λb z=>z.elim .inl λz=>.inr (e.nb b z),λb u q=>(e.nf b u q).elim .inl λz=>.inr (.inr z)⟩
theorem Ext.stp0(e:Ext F H F1 H1 B):Stp F H O F1 H1 O:=e.stp.mono λ_ z=>.inl z
end
section
def Wr(K:k6)(mu:Bool)(F H:Hp)(t:T)(x:V)(B:Rg):Prop:=match mu with
 |false=>Rp K F H t x B
 |true=>∃v q l,t=.own [v,.nd true (.pin q) l]/\v.flat=true/\Rp K F H v x R0/\Rp K F H (.nd true (.pin q) l) (.ref q) B
def pS(K:k6)(E:L2.St->XK)(ca:Str->Value)(mu:Bool)(D:Ends)(F H:Hp)(R:Nat->Rg):Option Out->Prop
 |some (.nx τ')=>∀F' H' σ' R',Stp F H (tot R) F' H' (tot R')->StR K F' H' σ' τ' R'->D.nx σ' H'
 |some (.bk τ')=>∀F' H' σ' R',Stp F H (tot R) F' H' (tot R')->StR K F' H' σ' τ' R'->D.bk σ' H'
 |some (.ct τ')=>∀F' H' σ' R',Stp F H (tot R) F' H' (tot R')->StR K F' H' σ' τ' R'->D.ct σ' H'
 |some (.rt t)=>∀F' H' x B,Stp F H (tot R) F' H' B->Wr K mu F' H' t x B->D.rt x H'
 |some (.xc c τ')=>∀F' H' σ' R',Stp F H (tot R) F' H' (tot R')->StR K F' H' σ' τ' R'->XE (E σ') ca c F' H'
 |none=>False
def tS(K:k6)(E:L2.St->XK)(ca:Str->Value)(mu:Bool)(m:AH):TS:=λD σ H=>∃F τ R,StR K F H σ τ R/\pS K E ca mu D F H R (m τ)
end
def AF(m n:AH):AH:=λτ=>match m τ with
 |some (.nx τ')=>n τ'
 |r=>r
def A4:AH:=λτ=>some (.nx τ)
def K1:AH:=λ_=>none
def GQ(m:AG):AH:=λτ=>match m τ with
 |some (.v _ _)=>some (.nx τ)
 |some (.x c)=>some (.xc c τ)
 |none=>none
def AM(m:AG):AH:=λτ=>match m τ with
 |some (.v t _)=>some (.rt t)
 |some (.x c)=>some (.xc c τ)
 |none=>none
def ND:AH:=λ_=>some (.rt .non)
noncomputable def Ac(m:AG)(b:T->AL->Option AL):AH:=λτ=>match m τ with
 |some (.v t false)=>(match b t.share τ with
  |some τ'=>some (.nx τ')
  |none=>none)
 |some (.v _ true)=>none
 |some (.x c)=>some (.xc c τ)
 |none=>none
noncomputable def DP(i:Nat)(m:AG):AH:=λτ=>match m τ with
 |some (.v t false)=>if i<τ.length then some (.nx (τ.set i (some t))) else none
 |some (.v _ true)=>none
 |some (.x c)=>some (.xc c τ)
 |none=>none
noncomputable def GO(i:Nat):AH:=λτ=>match τ[i]? with
 |some (some t)=>some (.nx (τ.set i (some t.share)))
 |_=>some (.nx τ)
def A5(c:AG)(a b:AH):AH:=λτ=>match c τ with
 |some (.v (.bl true) _)=>a τ
 |some (.v (.bl false) _)=>b τ
 |some (.x c)=>some (.xc c τ)
 |_=>none
noncomputable def B5(b:T->AL->Option AL)(body:AH):List T->AH
 |[],τ=>some (.nx τ)
 |t::ts,τ=>(match b t τ with
  |some τ1=>(match body τ1 with
   |some (.nx τ2)=>B5 b body ts τ2
   |some (.ct τ2)=>B5 b body ts τ2
   |some (.bk τ2)=>some (.nx τ2)
   |r=>r)
  |none=>none)
def Bo(mi:Av)(b:T->AL->Option AL)(body:AH):AH:=λτ=>match mi τ with
 |some (.v ts _)=>B5 b body ts τ
 |some (.x c)=>some (.xc c τ)
 |none=>none
noncomputable def C9(c:AG)(body:AH):Nat->AH
 |0,_=>none
 |n+1,τ=>(match c τ with
  |some (.v (.bl true) _)=>(match body τ with
   |some (.nx τ2)=>C9 c body n τ2
   |some (.ct τ2)=>C9 c body n τ2
   |some (.bk τ2)=>some (.nx τ2)
   |r=>r)
  |some (.v (.bl false) _)=>some (.nx τ)
  |some (.x c)=>some (.xc c τ)
  |_=>none)
open Classical in
def Ew(c:AG)(body:AH):AH:=λτ=>if h:∃n,(C9 c body n τ).isSome=true then C9 c body h.choose τ else none
theorem zgp(h:Ew c body τ=some o):∃n,C9 c body n τ=some o:=by
 unfold Ew at h;split at h
 .grind
 .cases h
theorem MU:∀{n} {τ} {o},C9 c body n τ=some o->C9 c body (n+1) τ=some o
 |0,τ,o,h=>by cases h
 |n+1,τ,o,h=>by
  unfold C9 at h ⊢;split at h
  .split at h
   .exact MU h
   .exact MU h
   .exact h
   .exact h
  .exact h
  .exact h
  .cases h
theorem RJ(h:C9 c body n τ=some o)(hm:n<=m):C9 c body m τ=some o:=by
 induction hm with
 |refl=>exact h
 |step _ ih=>exact MU ih
theorem zm5(h:C9 c body n τ=some o):Ew c body τ=some o:=by
 unfold Ew;have hx:∃n,(C9 c body n τ).isSome=true:=⟨n,by rw[h];rfl⟩
 obtain⟨o',e⟩:=ycj.mp hx.choose_spec;have e1:=RJ e (Nat.le_max_left hx.choose n);have e2:=RJ h (Nat.le_max_right hx.choose n)
 grind
section
variable {mu:Bool}{X:Cx}{E:L2.St->XK}{ca:Str->Value}{σ:L2.St}{H:Hp}{K:k6}{m mk mc:AG}{ms mi:Av}{b:T->AL->Option AL}{u w:AH}{D:Ends}{e c tg iter:Expr}{st:Stmt}{BO body sa sb:List Stmt}{pos pos':Pos}
theorem PS.weak(h:PS X st t)(w:∀D σ H,t' D σ H->t D σ H):PS X st t':=λpins s σ H D I q=>h pins s σ H D I (w D σ H q)
theorem BI.weak(h:BI X BO t)(w:∀D σ H,t' D σ H->t D σ H):BI X BO t':=λpins s σ H D I q=>h pins s σ H D I (w D σ H q)
theorem zlm(h:tS K E ca mu (AF u w) D σ H):Rb (tS K E ca mu u) (tS K E ca mu w) D σ H:=by
 obtain⟨F,τ,R,S,q⟩:=h;refine⟨F,τ,R,S,?_⟩;unfold AF at q;cases hm:u τ with
 |none=>simp only[hm]at q<;>exact q.elim
 |some o =>
  simp only[hm]at q;cases o with
  |nx τ' =>
   intro F1 H1 σ1 R1 s1 S1;refine⟨F1,τ',R1,S1,?_⟩;cases hw:w τ' with
   |none=>simp only[hw]at q<;>exact q.elim
   |some o =>
    simp only[hw]at q;cases o with
    |nx _=>exact λF' H' σ' R' s S=>q F' H' σ' R' (s1.trans s) S
    |bk _=>exact λF' H' σ' R' s S=>q F' H' σ' R' (s1.trans s) S
    |ct _=>exact λF' H' σ' R' s S=>q F' H' σ' R' (s1.trans s) S
    |rt _=>exact λF' H' x B s r=>q F' H' x B (s1.trans s) r
    |xc _ _=>exact λF' H' σ' R' s S=>q F' H' σ' R' (s1.trans s) S
  |rt _=>exact q
  |bk _=>exact q
  |ct _=>exact q
  |xc _ _=>exact q
theorem Sf:BI X [] (tS X.K E ca mu A4):=BI.weak zje λD σ H h=>by
 obtain⟨F,τ,R,S,q⟩:=h;exact q F H σ R (Stp.refl S.fh) S
theorem NC(h1:PS X st (tS X.K E ca mu u))(h2:BI X BO (tS X.K E ca mu w)):BI X (st::BO) (tS X.K E ca mu (AF u w)):=BI.weak (zgw h1 h2) λD σ H h=>zlm h
theorem Mz(h1:PS X st (tS X.K E ca mu u)):BI X [st] (tS X.K E ca mu u):=zjd h1
theorem Se:PS X st (tS X.K E ca mu K1):=λpins s σ H D I h=>by
 obtain⟨_,_,_,_,q⟩:=h;exact q.elim
theorem zm2:PS X (.Pass pos) (tS X.K E ca mu A4):=PS.weak zjg λD σ H h=>by
 obtain⟨F,τ,R,S,q⟩:=h;exact q F H σ R (Stp.refl S.fh) S
theorem zln  (h:tS K E ca mu (AF (GO i) w) D σ H):tS K E ca mu w D σ H:=by
 obtain⟨F,τ,R,S,q⟩:=h;unfold AF GO at q;cases ht:τ[i]? with
 |none =>
  rw[ht]at q;exact⟨F,τ,R,S,q⟩
 |some ot =>
  rw[ht]at q;cases ot with
  |none=>exact⟨F,τ,R,S,q⟩
  |some t =>
   simp only at q;obtain⟨x,ex,r⟩:=S.rep i t ht;have hi :=(ya3.mp ht).1;have n:∀a,R i a->F a=none:=λa z=>(r.dom z).1
   have S0:StR K (frz F H (R i)) H σ (τ.set i (some t.share)) (λj=>if j=i then R0 else R j):=by
    refine⟨Hb S.fh,by simpa using S.len,λj t' e=>?_,λj a z=>?_,λj k a hjk z1 z2=>?_⟩
    .by_cases hj:j=i
     .subst hj;rw[yal hi]at e;cases e;exact⟨x,ex,by simpa using r.share (EO n) λa u z q=>by rw[Fv z];exact q⟩
     .rw[yah (yao hj)]at e;obtain⟨y,e1,r1⟩:=S.rep j t' e;refine⟨y,e1,?_⟩;simp only[hj,yeg]
      exact r1.frame (EO n) λa z=>⟨rfl,by
       rw[FJ (λz'=>S.dis j i a hj z z')]
       exact(r1.dom z).1⟩
    .by_cases hj:j=i
     .simp only[hj,ye4]at z;exact z.elim
     .simp only[hj,yeg]at z;obtain⟨t',e⟩:=S.out j a z;exact⟨t',by rw[yah (yao hj)];exact e⟩
    .by_cases hj:j=i
     .simp only[hj,ye4]at z1;exact z1.elim
     .by_cases hk:k=i
      .simp only[hk,ye4]at z2;exact z2.elim
      .simp only[hj,yeg]at z1;simp only[hk,yeg]at z2;exact S.dis j k a hjk z1 z2
   have st0:Stp F H (tot R) (frz F H (R i)) H (tot λj=>if j=i then R0 else R j):=by
    refine⟨EO n,Hb S.fh,λ_ _ _ e=>e,λb ⟨j,z⟩=>?_,λb u e=>?_⟩
    .by_cases hj:j=i
     .simp only[hj,ye4]at z;exact z.elim
     .simp only[hj,yeg]at z;exact .inl ⟨j,z⟩
    .by_cases hb:R i b
     .exact .inr (.inl ⟨i,hb⟩)
     .rw[FJ hb]at e;exact .inl e
   refine⟨_,_,_,S0,?_⟩;cases hw:w (τ.set i (some t.share)) with
   |none=>simp only[hw]at q<;>exact q.elim
   |some o =>
    simp only[hw]at q;cases o with
    |nx _=>exact λF' H' σ' R' s S=>q F' H' σ' R' (st0.trans s) S
    |bk _=>exact λF' H' σ' R' s S=>q F' H' σ' R' (st0.trans s) S
    |ct _=>exact λF' H' σ' R' s S=>q F' H' σ' R' (st0.trans s) S
    |rt _=>exact λF' H' x B s r=>q F' H' x B (st0.trans s) r
    |xc _ _=>exact λF' H' σ' R' s S=>q F' H' σ' R' (st0.trans s) S
theorem s_frz(h:BI X BO (tS X.K E ca mu w)):BI X BO (tS X.K E ca mu (AF (GO i) w)):=BI.weak h λD σ H h=>zln h
theorem s_exp(he:PE X e (tM X.K E ca m))(hs:swapsWith e none pos.line X.env=pure false):PS X (.Expr e pos) (tS X.K E ca mu (GQ m)):=by
 refine PS.weak (K6 he hs) λD σ H h=>?_
 obtain⟨F,τ,R,S,q⟩:=h;refine⟨F,τ,R,S,?_⟩;unfold GQ at q;cases hm:m τ with
 |none=>simp only[hm]at q<;>exact q.elim
 |some r =>
  simp only[hm]at q;cases r with
  |x c=>exact λF' H' e=>q F' H' σ R e.stp0 (S.ext e)
  |v t bb=>exact λF' H' x B e g=>q F' H' σ R e.stp0 (S.ext e)
theorem SX(he:PE X e (tM X.K E ca m)):PS X (.Return (some e) pos) (tS X.K E ca false (AM m)):=by
 refine PS.weak (zmo he) λD σ H h=>?_
 obtain⟨F,τ,R,S,q⟩:=h;refine⟨F,τ,R,S,?_⟩;unfold AM at q;cases hm:m τ with
 |none=>simp only[hm]at q<;>exact q.elim
 |some r =>
  simp only[hm]at q;cases r with
  |x c=>exact λF' H' e=>q F' H' σ R e.stp0 (S.ext e)
  |v t bb =>
   intro F' H' x B e g;cases bb with
   |false=>exact q F' H' x B (e.stp.mono λ_ z=>.inr z) g
   |true =>
    obtain⟨_,A,hA,r⟩:=g;exact q F' H' x A (e.stp.mono λa z=>.inl (hA a z)) r
theorem zm1:PS X (.Return none pos) (tS X.K E ca false ND):=PS.weak zjf λD σ H h=>by
 obtain⟨F,τ,R,S,q⟩:=h;exact q F H .non R0 ((Stp.refl S.fh).mono λ_ z=>z.elim) .non
theorem s_if(hc:PT X c (BH X.K E ca mc))(ha:BI X sa (tS X.K E ca mu u))(hb:BI X sb (tS X.K E ca mu w)):PS X (.If c sa sb pos) (tS X.K E ca mu (A5 mc u w)):=by
 refine PS.weak (ps_if hc ha hb) λD σ H h=>?_
 obtain⟨F,τ,R,S,q⟩:=h;refine⟨F,τ,R,S,?_⟩;unfold A5 at q;cases hm:mc τ with
 |none=>simp only[hm]at q<;>exact q.elim
 |some r =>
  simp only[hm]at q;cases r with
  |x c=>exact λF' H' e=>q F' H' σ R e.stp0 (S.ext e)
  |v t bb =>
   cases t with
   |bl k =>
    intro F1 H1 e1;have S1:=S.ext e1
    have key:∀{mm },(match mm τ with
      |some (.nx τ')=>∀F' H' σ' R',Stp F H (tot R) F' H' (tot R')->StR X.K F' H' σ' τ' R'->D.nx σ' H'
      |some (.bk τ')=>∀F' H' σ' R',Stp F H (tot R) F' H' (tot R')->StR X.K F' H' σ' τ' R'->D.bk σ' H'
      |some (.ct τ')=>∀F' H' σ' R',Stp F H (tot R) F' H' (tot R')->StR X.K F' H' σ' τ' R'->D.ct σ' H'
      |some (.rt t)=>∀F' H' x B,Stp F H (tot R) F' H' B->Wr X.K mu F' H' t x B->D.rt x H'
      |some (.xc c τ')=>∀F' H' σ' R',Stp F H (tot R) F' H' (tot R')->StR X.K F' H' σ' τ' R'->XE (E σ') ca c F' H'
      |none=>False)->tS X.K E ca mu mm D σ H1:=λ{mm} q=>by
     refine⟨F1,τ,R,S1,?_⟩;cases hr:mm τ with
     |none=>simp only[hr]at q<;>exact q.elim
     |some o =>
      simp only[hr]at q;cases o with
      |nx _=>exact λF' H' σ' R' s S=>q F' H' σ' R' (e1.stp0.trans s) S
      |bk _=>exact λF' H' σ' R' s S=>q F' H' σ' R' (e1.stp0.trans s) S
      |ct _=>exact λF' H' σ' R' s S=>q F' H' σ' R' (e1.stp0.trans s) S
      |rt _=>exact λF' H' x B s r=>q F' H' x B (e1.stp0.trans s) r
      |xc _ _=>exact λF' H' σ' R' s S=>q F' H' σ' R' (e1.stp0.trans s) S
    cases k with
    |true=>exact JK (key q)
    |false=>exact JL (key q)
   |_=>exact q.elim
theorem Mj  (hg:∀v σ H Q,DT K b v σ H Q->g v σ H Q)(h:tS K E ca mu (Ac m b) D σ H):KO (tM K E ca m) g D σ H:=by
 obtain⟨F,τ,R,S,q⟩:=h;refine⟨F,τ,R,S,?_⟩;unfold Ac at q;cases hm:m τ with
 |none=>simp only[hm]at q<;>exact q.elim
 |some r =>
  simp only[hm]at q;cases r with
  |x c=>exact λF' H' e=>q F' H' σ R e.stp0 (S.ext e)
  |v t bb =>
   cases bb with
   |true=>exact q.elim
   |false =>
    intro F1 H1 x B e1 g1;obtain⟨F2,e2,_,r2⟩:=DS.frz S e1 g1;cases hb:b t.share τ with
    |none=>simp only[hb]at q<;>exact q.elim
    |some τ' =>
     simp only[hb]at q;refine hg _ _ _ _ ⟨F2,τ,R,t.share,τ',S.ext e2,(r2).any,hb,λσ' R' S' hR=>?_⟩
     exact q F2 H1 σ' R' (e2.stp0.mono λa ⟨i,z⟩=>⟨i,hR i a z⟩) S'
theorem Xk(h:DT K (AE i) v σ H Q):JQ i v σ H Q:=by
 obtain⟨F,τ,R,t,τ',S,r,e,q⟩:=h;unfold AE at e;split at e
 .cases e;rename_i hl;refine q _ _ (S.set r (λ_ _ _ _ z=>z.elim) hl) λj a z=>?_
  by_cases hj:j=i
  .simp only[hj]at z;exact z.elim
  grind
 .cases e
theorem SV(hN:X.N.Nodup)(hi:X.N[i]?=some x)(hx:GC X.env.scope x)(he:PE X e (tM X.K E ca m))(hs:swapsWith e (some (.Name x pos')) pos.line X.env=pure false)(hf:X.fn x=true\/X.env.scope.names.lookup x=some .local) :
  PS X (.Assign [.Name x pos'] e pos) (tS X.K E ca mu (Ac m (AE i))):=PS.weak (Uj hN hi hx he hs hf) λD σ H h=>Mj (λ_ _ _ _ z=>Xk z) h
theorem zm0(he:PE X e (tM X.K E ca m))(hg:PG X tg (DT X.K b))(hs:swapsWithSole [tg] e pos.line X.env=pure false)(hw:swappedStores [tg] e X.env=pure none)(h1:(assignEach [tg] X.env).map (·.2)=[assign tg X.env]) :
  PS X (.Assign [tg] e pos) (tS X.K E ca mu (Ac m b)):=PS.weak (Ie he hg hs hw h1) λD σ H h=>Mj (λ_ _ _ _ z=>z) h
theorem Rc  (h:tS K E ca mu (DP i m) D σ H):KO (tM K E ca m) (JQ i) D σ H:=by
 obtain⟨F,τ,R,S,q⟩:=h;refine⟨F,τ,R,S,?_⟩;unfold DP at q;cases hm:m τ with
 |none=>simp only[hm]at q<;>exact q.elim
 |some r =>
  simp only[hm]at q;cases r with
  |x c=>exact λF' H' e=>q F' H' σ R e.stp0 (S.ext e)
  |v t bb =>
   cases bb with
   |true=>exact q.elim
   |false =>
    intro F1 H1 x B e1 g1;have g1' :=g1;have S1:=S.ext e1
    by_cases hl:i<τ.length
    .simp only[hl]at q;refine q F1 H1 _ _ (e1.stp.mono ?_) (S1.set g1' (λj a _ z1 z2=>S.apart e1 z2 j z1) hl)
     rintro a ⟨j,z⟩
     by_cases hj:j=i
     .grind
     .simp only[hj]at z;exact .inl ⟨j,z⟩
    .simp only[hl]at q<;>exact q.elim
theorem zm3(hN:X.N.Nodup)(hi:X.N[i]?=some x)(hx:GC X.env.scope x)(he:PE X e (tM X.K E ca m))(hs:swapsWith e (some (.Name x pos')) pos.line X.env=pure false)(hf:X.fn x=true\/X.env.scope.names.lookup x=some .local) :
  PS X (.Assign [.Name x pos'] e pos) (tS X.K E ca mu (DP i m)):=PS.weak (Uj hN hi hx he hs hf) λD σ H h=>Rc h
theorem s_for(hp:PassesOwn (model X.prog X.w) X.A X.env X.xe)(hc:X.calm=true)(hi:PI X tg iter (tI X.K E ca mi))(hg:PG X tg (DT X.K b))(hb:BI X body (tS X.K E ca mu u))(hs:∀x,foldedSetIterable iter X.env x=pure x) :
  PS X (.For tg iter body [] pos) (tS X.K E ca mu (Bo mi b u)):=by
 refine PS.weak (zmp hp hc hi hg hb hs) λD σ H h=>?_
 obtain⟨F,τ,R,S,q⟩:=h;refine⟨F,τ,R,S,?_⟩;unfold Bo at q;cases hm:mi τ with
 |none=>simp only[hm]at q<;>exact q.elim
 |some r =>
  simp only[hm]at q;cases r with
  |x c=>exact λF' H' e=>q F' H' σ R e.stp0 (S.ext e)
  |v ts bb =>
   intro F1 H1 J e1 its;simp only at q;have S1:=S.ext e1;cases hg:B5 b u ts τ with
   |none=>simp only[hg]at q<;>exact q.elim
   |some out =>
    simp only[hg]at q;refine⟨λi mm σ' H'=>mm=ts.length - i/\i<=ts.length/\∃F' τ' R',Stp F H (tot R) F' H' (tot R')/\A2 F1 F'/\StR X.K F' H' σ' τ' R'/\B5 b u (ts.drop i) τ'=some out,⟨ts.length,by simp,ybg _,F1,τ,R,e1.stp0,.refl _,S1,by simpa using hg⟩,?_⟩
    rintro i mm σ' H' ⟨rfl,hle,F',τ',R',st,sf,S',hgo⟩;obtain⟨i1,i2⟩:=its i F' H' sf S'.fh
    by_cases hlt:i<ts.length
    .refine .inr ⟨(i1 _ (ya0 hlt)).1,λσ2 H2=>i+1<=ts.length/\∃F2 τ2 R2,Stp F H (tot R) F2 H2 (tot R2)/\A2 F1 F2/\StR X.K F2 H2 σ2 τ2 R2/\B5 b u (ts.drop (i+1)) τ2=some out,λσ2 H2 n2=>⟨ts.length - (i+1),by omega,rfl,n2⟩,λx H'' y=>?_⟩
     obtain⟨F'',e3,rx⟩:=(i1 _ (ya0 hlt)).2 x H'' y;have S3:=S'.ext e3;rw[ybf hlt]at hgo;unfold B5 at hgo;cases hb2:b ts[i] τ' with
     |none=>simp only[hb2]at hgo;cases hgo
     |some τ1 =>
      simp only[hb2]at hgo;refine⟨F'',τ',R',ts[i],τ1,S3,rx,hb2,λσ3 R3 S4 hR3=>?_⟩
      have st3:Stp F H (tot R) F'' H'' (tot R3):=(st.trans e3.stp0).mono λa ⟨j,z⟩=>⟨j,hR3 j a z⟩
      refine⟨F'',τ1,R3,S4,?_⟩;cases hu:u τ1 with
      |none=>simp only[hu]at hgo;cases hgo
      |some o =>
       simp only[hu]at hgo;cases o with
       |nx τ2=>exact λF4 H4 σ4 R4 s4 S5=>⟨hlt,F4,τ2,R4,st3.trans s4,(sf.trans e3.ff).trans s4.ff,S5,hgo⟩
       |ct τ2=>exact λF4 H4 σ4 R4 s4 S5=>⟨hlt,F4,τ2,R4,st3.trans s4,(sf.trans e3.ff).trans s4.ff,S5,hgo⟩
       |bk τ2 =>
        cases hgo;exact λF4 H4 σ4 R4 s4 S5=>q F4 H4 σ4 R4 (st3.trans s4) S5
       |rt v =>
        cases hgo;exact λF4 H4 x B s4 r=>q F4 H4 x B (st3.trans s4) r
       |xc cc τ2 =>
        cases hgo;exact λF4 H4 σ4 R4 s4 S5=>q F4 H4 σ4 R4 (st3.trans s4) S5
    .have hi':i=ts.length:=by omega
     subst hi';refine .inl ⟨i2 rfl,?_⟩;rw[List.drop_length]at hgo;unfold B5 at hgo;cases hgo;exact q F' H' σ' R' st S'
theorem s_wh(hp:PassesOwn (model X.prog X.w) X.A X.env X.xe)(hc:PT X c (BH X.K E ca mc))(hb:BI X body (tS X.K E ca mu u)):PS X (.While c body [] pos) (tS X.K E ca mu (Ew mc u)):=by
 refine PS.weak (zgx hp hc hb) λD σ H h=>?_
 obtain⟨F,τ,R,S,q⟩:=h;cases hw:Ew mc u τ with
 |none=>simp only[hw]at q<;>exact q.elim
 |some out =>
  simp only[hw]at q;obtain⟨n,hn⟩:=zgp hw;refine⟨λmm σ' H'=>∃F' τ' R',Stp F H (tot R) F' H' (tot R')/\StR X.K F' H' σ' τ' R'/\C9 mc u mm τ'=some out,⟨n,F,τ,R,Stp.refl S.fh,S,hn⟩,?_⟩
  rintro mm σ' H' ⟨F',τ',R',st,S',hgo⟩;cases mm with
  |zero=>cases hgo
  |succ mm =>
   refine⟨F',τ',R',S',?_⟩;unfold C9 at hgo;cases hm:mc τ' with
   |none=>simp only[hm]at hgo;cases hgo
   |some r =>
    simp only[hm]at hgo;cases r with
    |x cc =>
     cases hgo;exact λF2 H2 e2=>q F2 H2 σ' R' (st.trans e2.stp0) (S'.ext e2)
    |v t bb =>
     cases t with
     |bl k =>
      intro F2 H2 e2;have S2:=S'.ext e2;have st2 :=st.trans e2.stp0;cases k with
      |false =>
       cases hgo;exact JL (q F2 H2 σ' R' st2 S2)
      |true =>
       simp only at hgo;refine JK ⟨λσ2 H2=>∃F2 τ2 R2,Stp F H (tot R) F2 H2 (tot R2)/\StR X.K F2 H2 σ2 τ2 R2/\C9 mc u mm τ2=some out,λσ3 H3 n3=>⟨mm,ybr _,n3⟩,F2,τ',R',S2,?_⟩
       cases hu:u τ' with
       |none=>simp only[hu]at hgo;cases hgo
       |some o =>
        simp only[hu]at hgo;cases o with
        |nx τ2=>exact λF4 H4 σ4 R4 s4 S5=>⟨F4,τ2,R4,st2.trans s4,S5,hgo⟩
        |ct τ2=>exact λF4 H4 σ4 R4 s4 S5=>⟨F4,τ2,R4,st2.trans s4,S5,hgo⟩
        |bk τ2 =>
         cases hgo;exact λF4 H4 σ4 R4 s4 S5=>q F4 H4 σ4 R4 (st2.trans s4) S5
        |rt v =>
         cases hgo;exact λF4 H4 x B s4 r=>q F4 H4 x B (st2.trans s4) r
        |xc cc τ2 =>
         cases hgo;exact λF4 H4 σ4 R4 s4 S5=>q F4 H4 σ4 R4 (st2.trans s4) S5
     |_=>cases hgo
end
section
variable {K:k6}{F H:Hp}{l:List T}{xs:List V}{Rr:Nat->Rg}{p:Addr}{o:HO}
theorem Rp.own_inv(h:Rp K F H (.nd true k l) x A):∃p xs Rr,x=.ref p/\A=(λa=>a=p\/∃j,Rr j a)/\F p=none/\H p=some (.lst xs)/\RpO K F H l xs Rr/\(∀j,¬ Rr j p)/\ID k p:=by
 cases h with
 |own hk R f h e c d dp o=>exact⟨_,_,R,rfl,rfl,f,h,⟨e,c,d,o⟩,dp,hk⟩
theorem GX(hk:ID k p)(r:RpO K F H l xs Rr)(f:F p=none)(h:H p=some (.lst xs))(dp:∀j,¬ Rr j p):Rp K F H (.nd true k l) (.ref p) (λa=>a=p\/∃j,Rr j a):=.own hk Rr f h r.len r.rep r.dis dp r.out
theorem RpO.upd(r:RpO K F H l xs Rr)(dp:∀j,¬ Rr j p):RpO K F (L2.upd H p o) l xs Rr:=⟨r.len,λi t x h1 h2=>(r.rep i t x h1 h2).frame (.refl _) λa z=>⟨Ak (λe=>dp i (e▸z)),(r.dom z).1⟩,r.dis,r.out⟩
theorem Rp.upd(r:Rp K F H t x A)(dp:¬ A p):Rp K F (L2.upd H p o) t x A:=r.frame (.refl _) λa z=>⟨Ak (λe=>dp (e▸z)),(r.dom z).1⟩
theorem RpO.set(r:RpO K F H l xs Rr)(hj:j0<l.length)(rt:Rp K F H t y B)(d:∀j a,j≠j0->Rr j a->¬ B a):RpO K F H (l.set j0 t) (xs.set j0 y) (λj=>if j=j0 then B else Rr j):=by
 have hl:=r.len;refine⟨by simp[hl],λi t' x' h1 h2=>?_,λi k a hik z1 z2=>?_,λi a z=>?_⟩
 .by_cases hi:i=j0
  .grind
  .rw[yah (yao hi)]at h1 h2
   simpa[hi] using r.rep i t' x' h1 h2
 .by_cases hi:i=j0
  .grind
  .simp only[hi,yeg]at z1
   by_cases hk:k=j0
   .simp only[hk,ye4]at z2;exact d i a hi z1 z2
   .simp only[hk,yeg]at z2;exact r.dis i k a hik z1 z2
 .by_cases hi:i=j0
  .simp[hi];omega
  .simp only[hi,yeg]at z
   simpa using r.out i a z
variable {σ:L2.St}{τ:AL}{R:Nat->Rg}
theorem StR.upd(S:StR K F H σ τ R){A' B:Rg}(ht:τ[i]?=some (some t))(hx:σ[i]?=some (some x))(hp:R i p)(r':Rp K F (L2.upd H p o) t' x A')(hA:∀a,A' a->R i a\/B a)(hB:∀j a,R j a->¬ B a) :
  StR K F (L2.upd H p o) σ (τ.set i (some t')) (λj=>if j=i then A' else R j)/\Stp F H (λa=>Pu.tot R a\/B a) F (L2.upd H p o) (Pu.tot λj=>if j=i then A' else R j):=by
 have fp :=(S.dom hp).1;have hi :=(ya3.mp ht).1
 have fh':A2 F (L2.upd H p o):=λb u e=>by
  rw[Ak (λz=>by rw[z,fp]at e;cases e)]
  exact S.fh b u e
 refine⟨⟨fh',by simpa using S.len,λj t1 e=>?_,λj a z=>?_,λj k a hjk z1 z2=>?_⟩,⟨.refl _,fh',λb u n e=>?_,λb ⟨j,z⟩=>?_,λb u e=>.inl e⟩⟩
 .by_cases hj:j=i
  .subst hj;rw[yal hi]at e;cases e;exact⟨x,hx,by simpa using r'⟩
  .rw[yah (yao hj)]at e;obtain⟨y,e1,r1⟩:=S.rep j t1 e;exact⟨y,e1,by simpa[hj] using r1.upd (λz=>S.dis j i p hj z hp)⟩
 .by_cases hj:j=i
  .subst hj;exact⟨t',yal hi⟩
  .simp only[hj,yeg]at z;obtain⟨t1,e⟩:=S.out j a z;exact⟨t1,by rw[yah (yao hj)];exact e⟩
 .by_cases hj:j=i
  .simp only[hj,ye4]at z1;have hk:¬ k=i:=λz=>hjk (hj.trans z.symm)
   simp only[hk,yeg]at z2
   rcases hA a z1 with w|w
   .exact S.dis i k a (yao hk) w z2
   .exact hB k a z2 w
  .simp only[hj,yeg]at z1
   by_cases hk:k=i
   .simp only[hk,ye4]at z2
    rcases hA a z2 with w|w
    .exact S.dis i j a (yao hj) w z1
    .exact hB j a z1 w
   .simp only[hk,yeg]at z2;exact S.dis j k a hjk z1 z2
 .rw[Ak (λz=>n (.inl (by rw[z];exact⟨i,hp⟩)))]
  exact e
 .by_cases hj:j=i
  .simp only[hj,ye4]at z
   rcases hA b z with w|w
   .exact .inl (.inl ⟨i,w⟩)
   .exact .inl (.inr w)
  .simp only[hj,yeg]at z;exact .inl (.inl ⟨j,z⟩)
end
def Dn(τ:AL)(i:Nat):Option (Kd×List T):=match τ[i]? with
 |some (some (.nd true k l))=>some (k,l)
 |_=>none
theorem Ke(h:Dn τ i=some (k,l)):τ[i]?=some (some (.nd true k l)):=by
 unfold Dn at h
 grind
def ED(i:Nat)(m:AG):AH:=λτ=>match Dn τ i with
 |some (kd,l)=>(match m τ with
  |some (.v t false)=>if l.length<BV then some (.nx (τ.set i (some (.nd true kd (l++[t]))))) else none
  |some (.v _ true)=>none
  |some (.x c)=>some (.xc c τ)
  |none=>none)
 |none=>none
def FY(i:Nat)(mk m:AG):AH:=λτ=>match m τ with
 |some (.v t false)=>(match Dn τ i with
  |some (kd,l)=>(match mk τ with
   |some (.v (.int k) _)=>(match Bp l.length k with
    |some j=>some (.nx (τ.set i (some (.nd true kd (l.set j t)))))
    |none=>none)
   |some (.v _ _)=>none
   |some (.x c)=>some (.xc c τ)
   |none=>none)
  |none=>none)
 |some (.v _ true)=>none
 |some (.x c)=>some (.xc c τ)
 |none=>none
def Kc:Option T->Option (List T)
 |some (.nd true .lst l)=>some l
 |_=>none
def IY(i:Nat)(mk mn m:AG):AH:=λτ=>match m τ with
 |some (.v t false)=>(match Dn τ i with
  |some (kd,l)=>(match mk τ with
   |some (.v (.int k) _)=>(match Bp l.length k with
    |some j=>(match Kc l[j]? with
     |some r=>(match mn τ with
      |some (.v (.int n) _)=>(match Bp r.length n with
       |some j2=>some (.nx (τ.set i (some (.nd true kd (l.set j (.own (r.set j2 t)))))))
       |none=>none)
      |some (.v _ _)=>none
      |some (.x c)=>some (.xc c τ)
      |none=>none)
     |none=>none)
    |none=>none)
   |some (.v _ _)=>none
   |some (.x c)=>some (.xc c τ)
   |none=>none)
  |none=>none)
 |some (.v _ true)=>none
 |some (.x c)=>some (.xc c τ)
 |none=>none
section
variable {mu:Bool}{X:Cx}{E:L2.St->XK}{ca:Str->Value}{σ:L2.St}{H:Hp}{K:k6}{m mk mn:AG}{D:Ends}{e k n:Expr}{pos apos cpos p1 pos2 pos3:Pos}{i:Nat}{x:Str}
theorem LP(g:DS K F H R (.int j) b y B):y=.int j:=by
 cases b with
 |true=>obtain⟨_,A,_,r⟩:=g;exact r.int_inv
 |false=>exact(g).int_inv
theorem Mw{l:List T}{Rr:Nat->Rg}(h:∃j,(λj=>if j=l.length then B else Rr j) j a):(∃j,Rr j a)\/B a:=SD h
theorem KY{Rr:Nat->Rg}(h:∃j,(λj=>if j=j0 then B else Rr j) j a):(∃j,Rr j a)\/B a:=by
 grind
theorem s_app(hN:X.N[i]?=some x)(hv:C8 X.env.scope x)(hd:(x == "__debug__")=false)(hcd:(x == "__classdict__")=false)(he:PE X e (tM X.K E ca m))(hs:starEach [e] X.env=[(false,eval e X.env)])(hline:(apos.endLine == cpos.line)=true) :
  PS X (.Expr (.Call (.Attribute (.Name x p1) "append" apos) [e] [] cpos) pos) (tS X.K E ca mu (ED i m)):=by
 refine PS.weak (K6 (Ka ybv PySem.F.slot_list_append PySem.F.type_list_append Wg (E5 hN hv hd hcd) (DH he EJ hs) rfl (by rw[hs];rfl) hline hs rfl) rfl) λD σ H h=>?_
 obtain⟨F,τ,R,S,q⟩:=h;unfold ED at q;cases ho:Dn τ i with
 |none=>simp only[ho]at q<;>exact q.elim
 |some kl =>
  obtain⟨kd,l⟩:=kl;simp only[ho]at q;have ht:=Ke ho;obtain⟨y,ey,ry⟩:=S.rep i _ ht;obtain⟨p,xs,Rr,rfl,hA,fp,hp,ro,dp,hOw⟩:=ry.own_inv;refine⟨_,ey,.inl ⟨rfl,xs,A9.of hp⟩,F,τ,R,S,?_⟩;cases hm:m τ with
  |none=>simp only[hm]at q<;>exact q.elim
  |some r =>
   simp only[hm]at q;cases r with
   |x c=>exact λF' H' e=>q F' H' σ R e.stp0 (S.ext e)
   |v t bb =>
    cases bb with
    |true=>exact q.elim
    |false =>
     intro F1 H1 y B e1 g1;have g1' :=g1
     by_cases hz:l.length<BV
     .simp only[hz,ye4]at q;have S1:=S.ext e1;have ro1:=ro.ext e1;have hp1:=e1.hh _ _ hp;have pB:¬ B p:=λz=>by rw[e1.nb p z]at hp;cases hp
      have fp1 :=(ry.ext e1 |>.dom (by rw[hA];exact .inl rfl)).1
      refine⟨p,xs,y,rfl,rfl,hp1,by rw[<- ro.len,<- Eb];exact hz,?_⟩
      have ro2:RpO X.K F1 (upd H1 p (.lst (xs++[y]))) (l++[t]) (xs++[y]) _:=(ro1.upd dp).snoc (g1'.upd pB) λj a z1 z2=>ro.apart e1 z2 j z1
      have dp2:∀j,¬ (if j=l.length then B else Rr j) p:=λj z=>by
       by_cases hj:j=l.length
       .simp only[hj,ye4]at z;exact pB z
       .simp only[hj,yeg]at z;exact dp j z
      have r2:=GX hOw ro2 fp1 Bd dp2
      obtain⟨S3,st3⟩:=S1.upd ht ey (by rw[hA];exact .inl rfl) r2 (λa z=>by
       rw[hA]
       rcases z with z|z
       .exact .inl (.inl z)
       .rcases Mw z with w|w
        .exact .inl (.inr w)
        .exact .inr w) (λj a z1 z2=>S.apart e1 z2 j z1)
      exact q F1 _ σ _ (e1.stp.trans st3) S3
     .simp only[hz,yeg]at q<;>exact q.elim
theorem s_sto(hN:X.N[i]?=some x)(hv:C8 X.env.scope x)(hd:(x == "__debug__")=false)(hcd:(x == "__classdict__")=false)(he:PE X e (tM X.K E ca m))(hk:PE X k (tM X.K E ca mk))(hs:swapsWithSole [.Subscript (.Name x p1) k pos2] e pos.line X.env=pure false)(hw:swappedStores [.Subscript (.Name x p1) k pos2] e X.env=pure none)
  (ha : ∀ v, assign (.Subscript (.Name x p1) k pos2) X.env v = (do
   let ov <- holding [v] (eval (.Name x p1) X.env);let iv <- holding [v,ov] (eval k X.env)
   standAt pos2
   holding [v,ov,iv] (setItem ov iv v)
   release [v,ov,iv] [])) :
  PS X (.Assign [.Subscript (.Name x p1) k pos2] e pos) (tS X.K E ca mu (FY i mk m)):=by
 refine PS.weak (Ie he (K8 (E5 hN hv hd hcd) hk SJ ha) hs hw rfl) λD σ H h=>?_
 obtain⟨F,τ,R,S,q⟩:=h;refine⟨F,τ,R,S,?_⟩;unfold FY at q;cases hm:m τ with
 |none=>simp only[hm]at q<;>exact q.elim
 |some r =>
  simp only[hm]at q;cases r with
  |x c=>exact λF' H' e=>q F' H' σ R e.stp0 (S.ext e)
  |v t bb =>
   cases bb with
   |true=>exact q.elim
   |false =>
    intro F1 H1 y B e1 g1;have g1' :=g1;simp only at q;cases ho:Dn τ i with
    |none=>simp only[ho]at q<;>exact q.elim
    |some kl =>
     obtain⟨kd,l⟩:=kl;simp only[ho]at q;have S1:=S.ext e1;have ht:=Ke ho;obtain⟨y2,ey,ry⟩:=S1.rep i _ ht;refine⟨y2,ey,F1,τ,R,S1,?_⟩;cases hkk:mk τ with
     |none=>simp only[hkk]at q<;>exact q.elim
     |some r =>
      simp only[hkk]at q;cases r with
      |x c=>exact λF' H' e=>q F' H' σ R ((e1.stp0).trans e.stp0) (S1.ext e)
      |v tk bk =>
       cases tk with
       |int kk =>
        simp only at q;cases hj:Bp l.length kk with
        |none=>simp only[hj]at q<;>exact q.elim
        |some j =>
         simp only[hj]at q;intro F2 H2 z C e2 g2;have hz:=LP g2;subst hz;have S2:=S1.ext e2;have ry2:=ry.ext e2;obtain⟨p,xs,Rr,rfl,hA,fp,hp,ro,dp,hOw⟩:=ry2.own_inv;have hjl:=(JJ hj).2.1;have g2':=g1'.ext e2
         have pB :=λz=>by
          have:R i p:=by rw[hA];exact .inl rfl
          exact S.apart e1 z i this
         refine⟨p,xs,kk,j,rfl,rfl,hp,by rw[<- ro.len];exact hj,?_⟩
         have ro2:RpO X.K F2 (upd H2 p (.lst (xs.set j y))) (l.set j t) (xs.set j y) _:=(ro.upd dp).set hjl (g2'.upd pB) λj' a _ z1 z2=>S.apart e1 z2 i (by rw[hA];exact .inr ⟨j',z1⟩)
         have dp2:∀j',¬ (if j'=j then B else Rr j') p:=λj' z=>by
          by_cases hj':j'=j
          .simp only[hj',ye4]at z;exact pB z
          .simp only[hj',yeg]at z;exact dp j' z
         have r3:=GX hOw ro2 fp Bd dp2
         obtain⟨S3,st3⟩:=S2.upd ht ey (by rw[hA];exact .inl rfl) r3 (λa z=>by
          rw[hA]
          rcases z with z|z
          .exact .inl (.inl z)
          .rcases KY z with w|w
           .exact .inl (.inr w)
           .exact .inr w) (λj a z1 z2=>S.apart e1 z2 j z1)
         exact q F2 _ σ _ ((e1.stp.trans e2.stp0).trans st3) S3
       |_=>exact q.elim
theorem zlz(hN:X.N[i]?=some x)(hv:C8 X.env.scope x)(hd:(x == ("__debug__":Str))=false)(hcd:(x == ("__classdict__":Str))=false)(he:PE X e (tM X.K E ca m))(hk:PE X k (tM X.K E ca mk))(hn:PE X n (tM X.K E ca mn))(hpl:IC k)(hs:swapsWithSole [.Subscript (.Subscript (.Name x p1) k pos2) n pos3] e pos.line X.env=pure false)(hw:swappedStores [.Subscript (.Subscript (.Name x p1) k pos2) n pos3] e X.env=pure none)
  (ha : ∀ v, assign (.Subscript (.Subscript (.Name x p1) k pos2) n pos3) X.env v = (do
   let ov <- holding [v] (eval (.Subscript (.Name x p1) k pos2) X.env);let iv <- holding [v,ov] (eval n X.env)
   standAt pos3
   holding [v,ov,iv] (setItem ov iv v)
   release [v,ov,iv] [])) :
  PS X (.Assign [.Subscript (.Subscript (.Name x p1) k pos2) n pos3] e pos) (tS X.K E ca mu (IY i mk mn m)):=by
 refine PS.weak (Ie he (K8 (K9 XX (E5 hN hv hd hcd) hk hpl) hn SJ ha) hs hw rfl) λD σ H h=>?_
 obtain⟨F,τ,R,S,q⟩:=h;refine⟨F,τ,R,S,?_⟩;unfold IY at q;cases hm:m τ with
 |none=>simp only[hm]at q<;>exact q.elim
 |some r =>
  simp only[hm]at q;cases r with
  |x c=>exact λF' H' e=>q F' H' σ R e.stp0 (S.ext e)
  |v t bb =>
   cases bb with
   |true=>exact q.elim
   |false =>
    intro F1 H1 y B e1 g1;have g1' :=g1;simp only at q;cases ho:Dn τ i with
    |none=>simp only[ho]at q<;>exact q.elim
    |some kl =>
     obtain⟨kd,l⟩:=kl;simp only[ho]at q;have S1:=S.ext e1;have ht:=Ke ho;obtain⟨y2,ey,ry⟩:=S1.rep i _ ht;refine⟨y2,ey,F1,τ,R,S1,?_⟩;cases hkk:mk τ with
     |none=>simp only[hkk]at q<;>exact q.elim
     |some r =>
      simp only[hkk]at q;cases r with
      |x c=>exact λF' H' e=>q F' H' σ R ((e1.stp0).trans e.stp0) (S1.ext e)
      |v tk bk =>
       cases tk with
       |int kk =>
        simp only at q;cases hj:Bp l.length kk with
        |none=>simp only[hj]at q<;>exact q.elim
        |some j =>
         simp only[hj]at q;cases hr:Kc l[j]? with
         |none=>simp only[hr]at q<;>exact q.elim
         |some r =>
          simp only[hr]at q;intro F2 H2 z C e2 g2;have hz:=LP g2;subst hz;have S2:=S1.ext e2;have ry2:=ry.ext e2;obtain⟨p,xs,Rr,rfl,hA,fp,hp,ro,dp,hOw⟩:=ry2.own_inv;have hjl:=(JJ hj).2.1;have hjx:j<xs.length:=by have:=ro.len;omega
          have hlj :=by
           unfold Kc at hr;split at hr
           .rename_i e;cases hr;exact e
           .cases hr
          have rk:=ro.rep j _ _ hlj (ya0 hjx)
          have Fy:Au xs kk=some xs[j]:=by
           unfold Au;rw[<- ro.len,hj];exact ya0 hjx
          refine⟨p,xs,kk,xs[j],rfl,rfl,A9.of hp,Fy,F2,τ,R,S2,?_⟩;cases hnn:mn τ with
          |none=>simp only[hnn]at q<;>exact q.elim
          |some r' =>
           simp only[hnn]at q;cases r' with
           |x c=>exact λF' H' e=>q F' H' σ R ((e1.stp0.trans e2.stp0).trans e.stp0) (S2.ext e)
           |v tn bn =>
            cases tn with
            |int nn =>
             simp only at q;cases hj2:Bp r.length nn with
             |none=>simp only[hj2]at q<;>exact q.elim
             |some j2 =>
              simp only[hj2]at q;intro F3 H3 z C e3 g3;have hz:=LP g3;subst hz;have S3:=S2.ext e3;have ro3:=ro.ext e3;have hp3:=e3.hh _ _ hp;have fp3 :=(ry2.ext e3 |>.dom (by rw[hA];exact .inl rfl)).1
              have rk3:=rk.ext e3;obtain⟨p2,ys,Rq,ep,hA2,fp2,hp2,rq,dq,_⟩:=rk3.own_inv;have g3':=(g1'.ext e2).ext e3;have inR:∀a,Rr j a->R i a:=λa z=>by rw[hA];exact .inr ⟨j,z⟩
              have p2j:Rr j p2:=by rw[hA2];exact .inl rfl
              have p2B :=λz=>S.apart e1 z i (inR _ p2j)
              have pp2:p≠p2:=λz=>dp j (z▸p2j)
              have hj2l:=(JJ hj2).2.1;rw[ep];refine⟨p2,ys,nn,j2,rfl,rfl,hp2,by rw[<- rq.len];exact hj2,?_⟩
              have rq2:RpO X.K F3 (upd H3 p2 (.lst (ys.set j2 y))) (r.set j2 t) (ys.set j2 y) _:=(rq.upd dq).set hj2l (g3'.upd p2B) λj' a _ z1 z2=>S.apart e1 z2 i (inR _ (by rw[hA2];exact .inr ⟨j',z1⟩))
              have dq2:∀j',¬ (if j'=j2 then B else Rq j') p2:=λj' z=>by
               by_cases hj':j'=j2
               .simp only[hj',ye4]at z;exact p2B z
               .simp only[hj',yeg]at z;exact dq j' z
              have rrow:=GX (k:=.lst) trivial rq2 fp2 Bd dq2;have others :=λj' hne z=>ro.dis j' j p2 hne z p2j
              have xsj:xs.set j (.ref p2)=xs:=by
               have :=ep;rw[<- this];exact List.set_getElem_self hjx
              have ro4:RpO X.K F3 (upd H3 p2 (.lst (ys.set j2 y))) (l.set j (.own (r.set j2 t))) xs (λj'=>if j'=j then (λa=>a=p2\/∃j',(if j'=j2 then B else Rq j') a) else Rr j'):=by
               refine⟨by simpa using ro3.len,λi' t' x' h1 h2=>?_,λi' k' a hik z1 z2=>?_,λi' a z=>?_⟩
               .by_cases hi:i'=j
                .subst hi;rw[yal hjl]at h1;cases h1;rw[ya0 hjx]at h2;cases h2;rw[ep]
                 simpa using rrow
                .rw[yah (yao hi)]at h1;have:=(ro3.rep i' t' x' h1 h2).upd (o:=.lst (ys.set j2 y)) (others i' hi)
                 simpa[hi] using this
               .have sub:∀a,(a=p2\/∃j',(if j'=j2 then B else Rq j') a)->Rr j a\/B a:=λa z=>by
                 rcases z with z|z
                 .exact .inl (by rw[z];exact p2j)
                 .rcases KY z with w|w
                  .exact .inl (by rw[hA2];exact .inr w)
                  .exact .inr w
                by_cases hi:i'=j
                .simp only[hi,ye4]at z1;have hk':¬ k'=j:=λz=>hik (hi.trans z.symm)
                 simp only[hk',yeg]at z2
                 rcases sub a z1 with w|w
                 .exact ro3.dis j k' a (yao hk') w z2
                 .exact S.apart e1 w i (by rw[hA];exact .inr ⟨k',z2⟩)
                .simp only[hi,yeg]at z1
                 by_cases hk':k'=j
                 .simp only[hk',ye4]at z2
                  rcases sub a z2 with w|w
                  .exact ro3.dis i' j a hi z1 w
                  .exact S.apart e1 w i (by rw[hA];exact .inr ⟨i',z1⟩)
                 .simp only[hk',yeg]at z2;exact ro3.dis i' k' a hik z1 z2
               .by_cases hi:i'=j
                .simpa[hi] using hjl
                .simp only[hi,yeg]at z
                 simpa using ro3.out i' a z
              have dp3:∀j',¬ (if j'=j then (λa=>a=p2\/∃j',(if j'=j2 then B else Rq j') a) else Rr j') p:=λj' z=>by
               by_cases hj':j'=j
               .simp only[hj',ye4]at z
                rcases z with z|z
                .exact pp2 z
                .rcases KY z with w|w
                 .exact dp j (by rw[hA2];exact .inr w)
                 .exact S.apart e1 w i (by rw[hA];exact .inl rfl)
               .simp only[hj',yeg]at z;exact dp j' z
              have rall:=GX hOw ro4 fp3 (by rw[Ak pp2];exact hp3) dp3
              obtain⟨S4,st4⟩:=S3.upd ht ey (inR _ p2j) rall (λa z=>by
               rw[hA]
               rcases z with z|⟨j',z⟩
               .exact .inl (.inl z)
               .by_cases hj':j'=j
                .simp only[hj',ye4]at z
                 rcases z with z|z
                 .exact .inl (.inr ⟨j,by rw[z];exact p2j⟩)
                 .rcases KY z with w|w
                  .exact .inl (.inr ⟨j,by rw[hA2];exact .inr w⟩)
                  .exact .inr w
                .simp only[hj',yeg]at z;exact .inl (.inr ⟨j',z⟩)) (λj a z1 z2=>S.apart e1 z2 j z1)
              exact q F3 _ σ _ (((e1.stp.trans e2.stp0).trans e3.stp0).trans st4) S4
            |_=>exact q.elim
       |_=>exact q.elim
end
section
variable {X:Cx}{E:L2.St->XK}{ca:Str->Value}{σ:L2.St}{H F:Hp}{K:k6}{m mk:AG}{ms:Av}{D:Ends}{e:Expr}{es:List Expr}{pos apos cpos p1 p2:Pos}{i j:Nat}{x y:Str}{τ:AL}{R:Nat->Rg}{mu:Bool}
theorem Rp.kind(h:Rp K F H (.nd true k l) (.ref p) A)(o:ID k' p):Rp K F H (.nd true k' l) (.ref p) A:=by
 obtain⟨p',xs,Rr,e,rfl,fp,hp,ro,dp,_⟩:=h.own_inv;cases e;exact GX o ro fp hp dp
def UI(t:T)(τ:AL):Option Out:=match τ[(0:Nat)]? with
 |some (some (.nd true (.pin q) l))=>some (.rt (.own [t,.nd true (.pin q) l]))
 |_=>none
set_option genInjectivity true in
inductive Mo where
 |ok (v:T) (τ:AL)|exc (c:Str) (τ:AL)
def gAll(g:List T->Option Ru)(l ts:List T)(r:T×List T):Prop:=∀p,g (.nd true (.pin p) l::ts)=some (.ok (.own [r.1,.nd true (.pin p) r.2]))
open Classical in
def gMu(g:List T->Option Ru)(l ts:List T):Option (T×List T):=if h:∃r,gAll g l ts r then some h.choose else none
def mMut(i:Nat)(g:List T->Option Ru)(ms:Av):AL->Option Mo:=λτ=>match Dn τ i with
 |some (kd,l)=>(match ms τ with
  |some (.v ts false)=>(match gMu g l ts with
   |some (v,l')=>if v.flat then some (.ok v (τ.set i (some (.nd true kd l')))) else none
   |none=>none)
  |some (.v _ true)=>none
  |some (.x c)=>some (.exc c τ)
  |none=>none)
 |none=>none
def Es(K:k6)(ca:Str->Value)(g:List T->Option Ru):Sp:=λvs H Q E=>∃F p l ts A vs',A2 F H/\vs=.ref p::vs'/\Rp K F H (.nd true (.pin p) l) (.ref p) A/\Ai K F ts vs'/\match g (.nd true (.pin p) l::ts) with
 |some (.ok t)=>∀F' H' x B,Stp F H A F' H' B->Wr K true F' H' t x B->Q x H'
 |some (.exc c)=>∀F' H',Stp F H A F' H' R0->XE E ca c F' H'
 |none=>False
variable {mm:AL->Option Mo}
end
abbrev VF(A:Around):Around:={ A with handled:=none }
structure FnS(P:Program)(w:World)(K:k6)(mg:Str->Option Value)(base:Heap)(k:Nat)(f:Addr)(fd:FuncData)(p:Str)(sp:Sp):Prop where
 run:∀(A:Around) (outer:List Env) (s:Shared) (H:Hp) (args:Args) (a:Addr) (Q:VK),A.handled=some (.ref a)->(∃C,Gu H a C)->Room k (VF A)->Env0 P w K mg base A outer s H->BindsTo s fd args [(p,.ref a)]->sp [.ref a] H Q E0 ->
  codeAny (model P w) A (.call (.ref f) args) (CR EZ outer P w H s Q E0) s
structure DefS(P:Program)(w:World)(K:k6)(mg:Str->Option Value)(base:Heap)(k:Nat)(x p:Str)(sp:Sp) where
 f:Addr
 fd:FuncData
 ok:FnS P w K mg base k f fd p sp
 m:mg x=some (.ref f)
 kp:PySem.W.keepIn K (.ref f)=true
 b:Bx K fd [p] []
section
variable {X:Cx}{pins:List (Addr×Obj)}{σ:L2.St}{H:Hp}{s:Shared}{a:Addr}{kvs:List (Key×V)}
end
section
variable {X:Cx}
def tDicO:TE:=λ_ H Q=>∀p,H p=none->Q (.ref p) (upd H p (.dK []))
theorem zjp:PE X (.Dict [] [] pos) tDicO:=λpins s σ H Q I h=>by
 refine wpAny_Dict_empty ⟨.ref s.heap.objs.size,_,I.laid (λ_ _ q=>ya6 _ q) (ya9 _) (zi0 s.heap I.big),rfl,h _ (I.hok.fresh (ya9 _))⟩
end
section
variable {X:Cx}{E:L2.St->XK}{ca:Str->Value}{m mk mv:AG}{e k:Expr}{pos p1 pos2:Pos}{mu:Bool}
end
section
variable {X:Cx}{E:L2.St->XK}{ca:Str->Value}{m mk:AG}{e k:Expr}{pos p1 pos2:Pos}{mu:Bool}{i:Nat}{x:Str}
end
theorem znd(hu:X.A.units+64<cLine):Ab X (compareOp .NotEq) (BY X.K Cp):=by
 intro pins s σ H x y v u Q I rx ry h;obtain⟨F,t1,t2,r,fh,r1,r2,e,q⟩:=h;unfold Cp at e;split at e
 .cases e;rename_i hc;unfold Gc C7 at hc;rw[ya2,ya2,ya2,ya2,yec]at hc;obtain⟨a1,q1⟩:=F7 I fh (r1.any) hc.1.1.1 rx;obtain⟨a2,q2⟩:=F7 I fh (r2.any) hc.1.2.1 ry;exact SeqAt.compareNe_reads q1 q2 hc.1.1.2 hc.1.2.2 (ZH hu hc.2) ⟨.bl _,H,I,rfl,q.bl fh⟩
 .cases e
theorem StR.frz{K }       (S:StR K F H σ τ R)(ht:τ[i]?=some (some t)):StR K (Pu.frz F H (R i)) H σ (τ.set i (some t.share)) (λj=>if j=i then R0 else R j):=by
 obtain⟨x,ex,r⟩:=S.rep i t ht;have hi :=(ya3.mp ht).1;have n:∀a,R i a->F a=none:=λa z=>(r.dom z).1
 refine⟨Hb S.fh,by simpa using S.len,λj t' e=>?_,λj a z=>?_,λj k a hjk z1 z2=>?_⟩
 .by_cases hj:j=i
  .subst hj;rw[yal hi]at e;cases e;exact⟨x,ex,by simpa using r.share (EO n) λa u z q=>by rw[Fv z];exact q⟩
  .rw[yah (yao hj)]at e;obtain⟨y,e1,r1⟩:=S.rep j t' e;refine⟨y,e1,?_⟩;simp only[hj,yeg]
   exact r1.frame (EO n) λa z=>⟨rfl,by
    rw[FJ (λz'=>S.dis j i a hj z z')]
    exact(r1.dom z).1⟩
 .by_cases hj:j=i
  .simp only[hj,ye4]at z;exact z.elim
  .simp only[hj,yeg]at z;obtain⟨t',e⟩:=S.out j a z
   grind
 .by_cases hj:j=i
  .simp only[hj,ye4]at z1;exact z1.elim
  .by_cases hk:k=i
   .simp only[hk,ye4]at z2;exact z2.elim
   .simp only[hj,yeg]at z1;simp only[hk,yeg]at z2;exact S.dis j k a hjk z1 z2
section
variable {X:Cx}{E:L2.St->XK}{ca:Str->Value}{σ:L2.St}{H:Hp}{K:k6}{u w:AH}{D:Ends}
end
theorem Wv{fs:List Str}{xs}{f}:∀{j} {x:V},fs.findIdx? (· == f)=some j->xs[j]?=some x->(fs.zip xs).lookup f=some x:=by
 induction fs generalizing xs with
 |nil=>simp
 |cons g r ih =>
  intro j x h hx;rw[yde]at h;cases xs with
  |nil=>simp at hx
  |cons y ys =>
   rw[ycl]
   by_cases hg:g=f
   .grind
   .have h1 :=beq_eq_false_iff_ne.mpr hg;rw[h1]at h;simp only[yc0,yeg,yad]at h
    grind
theorem zb8{fs:List Str}{xs:List V}(h:fs.contains f=false):(fs.zip xs).lookup f=none:=by
 induction fs generalizing xs with
 |nil=>rfl
 |cons g r ih =>
  cases xs with
  |nil=>rfl
  |cons y ys =>
   rw[ydc,yb0]at h;rw[ycl,ybd,h.1];exact ih h.2
theorem Rp.obj_inv{K}(h:Rp K F H (.obj k l) x A):∃p xs,x=.ref p/\A=R0/\Jm F k p xs/\l.length=xs.length/\∀(i:Nat) (t) (x),l[i]?=some t->xs[i]?=some x->Rp K F H t x R0:=by
 cases h with
 |obj h e c=>grind
noncomputable def BF(C:Addr)(fs:List Str):T->Option (List T)
 |.obj (.ins C' fs') l=>if C'=C/\fs'=fs then some l else none
 |_=>none
theorem X6(h:BF C fs t=some l):t=.obj (.ins C fs) l:=by
 unfold BF at h
 grind
def Al(C:Addr)(fs:List Str)(j:Nat)(m:AG):AG:=λτ=>match m τ with
 |some (.v t b)=>(match BF C fs t with
  |some l=>(match l[j]? with
   |some u=>some (.v u (b && !u.sh))
   |none=>none)
  |none=>none)
 |some (.x c)=>some (.x c)
 |none=>none
def Bf(C:Addr)(fs:List Str)(g:List T->Option Ru)(m:AG)(ms:Av):AG:=λτ=>match m τ with
 |some (.v t _)=>(match BF C fs t with
  |some _=>(match ms τ with
   |some (.v ts b)=>(match g (t.share::ts) with
    |some (.ok v)=>As b v
    |some (.exc c)=>JS true c
    |none=>none)
   |some (.x c)=>some (.x c)
   |none=>none)
  |none=>none)
 |some (.x c)=>some (.x c)
 |none=>none
def Bt(m n:AG):AG:=λτ=>match m τ with
 |some r=>some r
 |none=>n τ
section
variable {X:Cx}{E:L2.St->XK}{ca:Str->Value}{m n:AG}{ms:Av}{e o:Expr}{es:List Expr}{pos p apos:Pos}{C:Addr}{fs:List Str}{f:Str}{j:Nat}
theorem NO(h1:PE X e (tM X.K E ca m))(h2:PE X e (tM X.K E ca n)):PE X e (tM X.K E ca (Bt m n)):=λpins s σ H Q I h=>by
 obtain⟨F,τ,R,S,q⟩:=h;unfold Bt at q;cases hm:m τ with
 |none =>
  rw[hm]at q;exact h2 pins s σ H Q I ⟨F,τ,R,S,q⟩
 |some r =>
  rw[hm]at q;exact h1 pins s σ H Q I ⟨F,τ,R,S,by grind⟩
theorem LO{K}(g:DS K F H R (.obj k l) b x B):Rp K F H (.obj k l) x R0/\B=R0:=by
 cases b with
 |true =>
  obtain⟨hB,A,_,r⟩:=g;obtain⟨p,xs,rfl,hA,_⟩:=r.obj_inv
  grind
 |false =>
  have r:Rp K F H (.obj k l) x B:=g;obtain⟨p,xs,rfl,hA,_⟩:=r.obj_inv
  grind
theorem r_fld(c:Cls X.K C)(hn:Ba X.K C f)(hj:fs.findIdx? (· == f)=some j)(ho:PE X o (tM X.K E ca m))(hb:attributeBase o f X.env (eval o X.env)=eval o X.env):PE X (.Attribute o f pos) (tM X.K E ca (Al C fs j m)):=by
 refine PE.weak (Ur ho hb) λσ H Q h=>?_
 obtain⟨F,τ,R,S,q⟩:=h;refine⟨F,τ,R,S,?_⟩;unfold Al at q;cases hm:m τ with
 |none=>simp only[hm]at q<;>exact q.elim
 |some r =>
  simp only[hm]at q;cases r with
  |x c=>exact q
  |v t b =>
   intro F1 H1 x B e1 g1;cases hi:BF C fs t with
   |none=>simp only[hi]at q<;>exact q.elim
   |some l =>
    simp only[hi]at q;have ht:=X6 hi;subst ht;cases hu:l[j]? with
    |none=>simp only[hu]at q<;>exact q.elim
    |some u =>
     simp only[hu]at q;obtain⟨r1,hB⟩:=LO g1;subst hB;obtain⟨a,xs,rfl,_,⟨dx,hF⟩,el,cc⟩:=r1.obj_inv;have hjl:=(ya3.mp hu).1;have hx:xs[j]?=some xs[j]:=ya0 (by omega)
     have hc:=cc j u _ hu hx;refine⟨a,_,dx,_,xs[j],rfl,e1.fh _ _ hF,c,hn,Wv hj hx,?_⟩;refine q F1 H1 _ R0 e1 ?_;cases b with
     |false=>exact hc
     |true =>
      cases hs:u.sh with
      |true=>exact hc
      |false=>exact⟨rfl,R0,λ_ z=>z.elim,hc⟩
structure MetX(P:Program)(w:World)(K:k6)(mg:Str->Option Value)(base:Heap)(C:Addr)(m:Str)(k:Nat)(ps:List Str)(sp:Sp) where
 f:Addr
 fd:FuncData
 c:Cls K C
 me:Meth K C m f
 ok:FnOk P w K mg base (Cb P w) k f fd ps sp
 b:Bx K fd ps []
def Ml(C:Addr)(m:Str)(sp:Sp)(E:L2.St->XK)(ta:TE)(t:TA):TE:=λσ H Q=>ta σ H λx H1=>∃a dx fs,x=.ref a/\H1 a=some (.ins C dx fs)/\fs.lookup m=none /\
 t σ H1 λvs H2=>sp (x::vs) H2 Q (E σ)
theorem pmx(D:MetX X.prog X.w X.K X.mg X.base C f k ps sp)(hr:Room j X.A)(hx:BK X E)(he:PE X o ta)(ha:PA X (e::es) t)(hk:k<=j)
  (hst:starEach (e::es) X.env=(false,eval e X.env)::starEach es X.env) (hpl:(backTo pos (starEach es X.env)).any (·.1)=false)
  (ht : eval (.Call (.Attribute o f apos) (e :: es) [] pos) X.env = (do
   let ov <- eval o X.env
   standAt apos.atName
   let (f,first) <- holding [ov] (getMethod ov f pl)
   callWith pos f first (backTo pos (starEach (e::es) X.env)) (backToKw pos (keywordEach [] X.env)))):PE X (.Call (.Attribute o f apos) (e::es) [] pos) (Ml C f sp E ta t):=by
 intro pins s σ H Q I h;refine PySem.W.methodCall_KW (AU (he pins s σ H _ I h) λu s1 ⟨x,H1,I1,rx,a,dx,fs,ex,ea,l,q⟩=>?_) ht
 subst ex;obtain rfl:u=Value.ref a:=rx;refine Xg I1 ea D.c D.me l ?_;refine yci I.ok.mod.kin D.me.kp (AU (ha pos pins s1 σ H1 _ I1 q) λus s2 ⟨vs,H2,I2,r,q2⟩=>⟨I2.kIn,?_⟩) hst hpl
 exact NI (vs:=.ref a::vs) D.ok (hr.mono hk) D.b .nil hx I2 (.cons rfl r) (by grind)
theorem pmx0(D:MetX X.prog X.w X.K X.mg X.base C f k ps sp)(hr:Room j X.A)(hx:BK X E)(he:PE X o ta)(hk:k<=j)
  (ht : eval (.Call (.Attribute o f apos) [] [] pos) X.env = (do
   let ov <- eval o X.env
   standAt apos.atName
   let (f,first) <- holding [ov] (getMethod ov f pl)
   callWith pos f first (backTo pos (starEach [] X.env)) (backToKw pos (keywordEach [] X.env)))):PE X (.Call (.Attribute o f apos) [] [] pos) (Ml C f sp E ta Ri):=by
 intro pins s σ H Q I h;refine PySem.W.methodCall_KW (AU (he pins s σ H _ I h) λu s1 ⟨x,H1,I1,rx,a,dx,fs,ex,ea,l,q⟩=>?_) ht
 subst ex;obtain rfl:u=Value.ref a:=rx;refine Xg I1 ea D.c D.me l ?_;exact PySem.W.callWith_K0 I1.kIn D.me.kp (NI (vs:=[.ref a]) D.ok (hr.mono hk) D.b .nil hx I1 (.cons rfl .nil) q)
theorem Rk(hf:fs.contains f=false)(h:tM X.K E ca (Bf C fs g m ms) σ H Q):Ml C f (B3 X.K ca g) E (tM X.K E ca m) (Bg X.K E ca ms) σ H Q:=by
 obtain⟨F,τ,R,S,q⟩:=h;refine⟨F,τ,R,S,?_⟩;unfold Bf at q;cases hm:m τ with
 |none=>simp only[hm]at q<;>exact q.elim
 |some r =>
  simp only[hm]at q;cases r with
  |x c=>exact q
  |v t b =>
   intro F1 H1 x B e1 g1;cases hi:BF C fs t with
   |none=>simp only[hi]at q<;>exact q.elim
   |some l =>
    simp only[hi]at q;have ht:=X6 hi;subst ht;obtain⟨r1,hB⟩:=LO g1;subst hB;have S1:=S.ext e1;obtain⟨a,xs,rfl,_,⟨dx,hF⟩,el,cc⟩:=r1.obj_inv;refine⟨a,dx,_,rfl,e1.fh _ _ hF,zb8 hf,F1,τ,R,S1,?_⟩;cases hs:ms τ with
    |none=>simp only[hs]at q<;>exact q.elim
    |some r =>
     simp only[hs]at q;cases r with
     |x c=>exact λF' H' e=>q F' H' (e1.trans0 e)
     |v ts b' =>
      intro F2 H2 vs e2 rs;have S2:=S1.ext e2;simp only at q;have r2:Rp X.K (Gz b' F2 H2 R) H2 (T.obj (.ins C fs) l).share (.ref a) R0:=(r1.ext e2).share (LN S2) λ_ _ z=>z.elim
      refine⟨Gz b' F2 H2 R,_,PF S2,.cons r2 rs,?_⟩;have e12:=e1.trans0 e2;cases hg:g ((T.obj (.ins C fs) l).share::ts) with
      |none=>simp only[hg]at q<;>exact q.elim
      |some r =>
       simp only[hg]at q;cases r with
       |exc c =>
        simp only[JS]at q;cases hp:EI c with
        |none=>rw[hp]at q;exact λF' H' e3=>(q F2 H' (e12.grow e3.hh)).any hp
        |some n=>rw[hp]at q;exact q.elim
       |ok v =>
        intro F3 H3 z C3 e3 r3;simp only at q;unfold As at q;cases b' with
        |false=>exact q F3 H3 z C3 (e12.trans0 e3) r3
        |true =>
         cases hf:v.flat with
         |false=>rw[hf]at q;cases q
         |true=>rw[hf]at q;exact q F2 H3 z R0 (e12.grow e3.hh) (r3.flat_any hf)
theorem zmc(D:MetX X.prog X.w X.K X.mg X.base C f k ps (B3 X.K ca g))(hf:fs.contains f=false)(hr:Room j X.A)(hx:BK X E)(he:PE X o (tM X.K E ca m))(ha:PA X (e::es) (Bg X.K E ca ms))(hk:k<=j)
  (hst:starEach (e::es) X.env=(false,eval e X.env)::starEach es X.env) (hpl:(backTo pos (starEach es X.env)).any (·.1)=false)
  (ht : eval (.Call (.Attribute o f apos) (e :: es) [] pos) X.env = (do
   let ov <- eval o X.env
   standAt apos.atName
   let (f,first) <- holding [ov] (getMethod ov f pl)
   callWith pos f first (backTo pos (starEach (e::es) X.env)) (backToKw pos (keywordEach [] X.env)))):PE X (.Call (.Attribute o f apos) (e::es) [] pos) (tM X.K E ca (Bf C fs g m ms)) :=
 PE.weak (pmx D hr hx he ha hk hst hpl ht) λσ H Q h=>Rk hf h
structure NewX(P:Program)(w:World)(K:k6)(mg:Str->Option Value)(base:Heap)(x:Str)(C:Addr)(k:Nat)(ps:List Str)(sp:Sp) where
 f:Addr
 fd:FuncData
 m:mg x=some (.ref C)
 ma:Mk K C f
 ok:FnOk P w K mg base (Cb P w) k f fd ps sp
def zlp(C:Addr)(sp:Sp)(dvs:List V)(E:L2.St->XK)(t:TA):TE:=λσ H Q=>t σ H λvs H1=>∀x dx,H1 x=none->H1 dx=none->dx≠x ->
 sp (.ref x::(vs++dvs)) (upd (upd H1 dx (.own x)) x (.ins C dx [])) (λv H2=>v=.non/\Q (.ref x) H2) (E σ)
theorem pnx{x:Str}{t:TA}(D:NewX X.prog X.w X.K X.mg X.base x C k ps sp)(hb:Bx X.K D.fd ps ds)(hd:AZ dvs ds)(hr:Room j X.A)(hx:BK X E)(ha:PA X (e::es) t)(hk:k+1<=j)(hg:Gl X x)(hdb:(x == ("__debug__":Str))=false)
  (he:starEach (e::es) X.env=(false,eval e X.env)::starEach es X.env) (hpl:(backTo pos (starEach es X.env)).any (·.1)=false):PE X (.Call (.Name x p) (e::es) [] pos) (zlp C sp dvs E t):=by
 intro pins s σ H Q I h;refine ye2 (HX I hg D.m ?_ hdb);refine yci I.ok.mod.kin D.ma.kp (AU (ha pos pins s σ H _ I h) λus s1 ⟨vs,H1,I1,r,q⟩=>⟨I1.kIn,?_⟩) he hpl
 have hq:=q (s1.heap.objs.size+1) s1.heap.objs.size (I1.hok.fresh (ycs _)) (I1.hok.fresh (ya9 _)) (yaf (ybr _));have I2:=Inv.made (C:=C) I1;have r2:AZ (V.ref (s1.heap.objs.size+1)::(vs++dvs)) (Value.ref (s1.heap.objs.size+1)::(us++ds)):=.cons rfl (r.append hd)
 have hl :=by
  have e:=r2.length;rw[D.ok.len _ _ _ _ hq]at e;exact e.symm
 refine ye0 (zhd I1.kIn D.ma.makes D.ma.init (beq_iff_eq.mp D.ma.fn) (ye1 (D.ok.run _ X.stack _ _ ⟨Value.ref (s1.heap.objs.size+1)::us,[]⟩ (Value.ref (s1.heap.objs.size+1)::(us++ds)) _ _ (E σ) ((hr.mono hk).make C us [])
  (I2.env0.make C us []) (hb _ (Value.ref (s1.heap.objs.size+1)::us) I2.kIn hl) r2 hq) λr s' hq'=>?_))
 cases r with
 |error v=>exact hx pins σ _ _ v s' I2 hq'
 |ok fl =>
  cases fl with
  |ret u =>
   obtain⟨v,H',I3,rv,ev,q3⟩:=I2.after hq';subst ev;exact⟨rv,⟨V.ref (s1.heap.objs.size+1),H',I3,rfl,q3⟩⟩
  |next=>exact False.elim hq'
  |brk=>exact False.elim hq'
  |cont=>exact False.elim hq'
def IT(K:k6)(ca:Str->Value)(C:Addr)(g:List T->Option Ru):Sp:=λvs H Q E=>∃F p dx ts vs',A2 F H/\vs=.ref p::vs'/\F p=none/\H p=some (.ins C dx [])/\Ai K F ts vs'/\match g ts with
 |some (.ok t)=>∀F' H',Stp F H (λa=>a=p) F' H' R0->Rp K F' H' t (.ref p) R0->Q .non H'
 |some (.exc c)=>∀F' H',Stp F H (λa=>a=p) F' H' R0->XE E ca c F' H'
 |none=>False
noncomputable def G4(g:List T->Option Ru)(ds:List T)(ms:Av):AG:=λτ=>match ms τ with
 |some (.v ts false)=>(match g (ts++ds) with
  |some (.ok t)=>some (.v t false)
  |some (.exc c)=>some (.x c)
  |none=>none)
 |some (.v _ true)=>none
 |some (.x c)=>some (.x c)
 |none=>none
theorem r_new{k j:Nat}{x:Str}(D:NewX X.prog X.w X.K X.mg X.base x C k ps (IT X.K ca C g))(hb:Bx X.K D.fd ps ds)(hd:AZ dvs ds)(hdt:∀F:Hp,Ai X.K F dts dvs)(hr:Room j X.A)(hx:BK X E)(ha:PA X (e::es) (Bg X.K E ca ms))(hk:k+1<=j)(hg:Gl X x)(hdb:(x == ("__debug__":Str))=false)
  (he:starEach (e::es) X.env=(false,eval e X.env)::starEach es X.env) (hpl:(backTo pos (starEach es X.env)).any (·.1)=false):PE X (.Call (.Name x p) (e::es) [] pos) (tM X.K E ca (G4 g dts ms)):=by
 refine PE.weak (pnx D hb hd hr hx ha hk hg hdb he hpl) λσ H Q h=>?_
 obtain⟨F,τ,R,S,q⟩:=h;refine⟨F,τ,R,S,?_⟩;unfold G4 at q;cases hs:ms τ with
 |none=>simp only[hs]at q<;>exact q.elim
 |some r =>
  simp only[hs]at q;cases r with
  |x c=>exact q
  |v ts b =>
   cases b with
   |true=>exact λF1 H1 xs e1 rs=>q.elim
   |false =>
    intro F1 H1 xs e1 rs a dx ha hdx hne;simp only at q;have rs' :=rs
    have key:∀F' H',Stp F1 (upd (upd H1 dx (.own a)) a (.ins C dx [])) (λb=>b=a) F' H' R0->Ext F H F' H' R0:=λF' H' st=>by
     refine e1.trans0 ⟨λb u z=>?_,st.ff,st.fh,λ_ z=>z.elim,λb u z=>?_⟩
     .have h1 :=Bi z ha;have h2 :=Bi z hdx;exact st.kp b u h1 (by rw[Ak h1,Ak h2];exact z)
     .rcases st.nf b u z with w|w|w
      .exact .inl w
      .rw[w];exact .inr ha
      .by_cases h1:b=a
       .rw[h1];exact .inr ha
       .by_cases h2:b=dx
        .rw[h2];exact .inr hdx
        .rw[Ak h1,Ak h2]at w;exact .inr w
    have fh2:A2 F1 (upd (upd H1 dx (.own a)) a (.ins C dx [])):=λb u z=>by
     have z':=e1.fh b u z;rw[Ak (Bi z' ha),Ak (Bi z' hdx)];exact z'
    refine⟨F1,a,dx,ts++dts,xs++dvs,fh2,rfl,Fe e1.fh ha,Bd,K2 rs' (hdt F1),?_⟩;cases hg:g (ts++dts) with
    |none=>simp only[hg]at q<;>exact q.elim
    |some r =>
     simp only[hg]at q;cases r with
     |exc c=>exact λF' H' st=>q F' H' (key F' H' st)
     |ok t=>exact λF' H' st r=>⟨rfl,q F' H' _ R0 (key F' H' st) r⟩
end
noncomputable def Ez(τ:AL)(i:Nat)(C:Addr)(fs:List Str):Option (Addr×List T):=match τ[i]? with
 |some (some (.oob p C' fs' l))=>if C'=C/\fs'=fs then some (p,l) else none
 |_=>none
theorem NS(h:Ez τ i C fs=some (p,l)):τ[i]?=some (some (.oob p C fs l)):=by
 unfold Ez at h
 grind
def CW(C:Addr)(fs:List Str)(j i:Nat)(m:AG):AH:=λτ=>match m τ with
 |some (.v t false)=>(match Ez τ i C fs with
  |some (p,l)=>if l.length=j then some (.nx (τ.set i (some (.oob p C fs (l++[t]))))) else none
  |none=>none)
 |some (.v _ true)=>none
 |some (.x c)=>some (.xc c τ)
 |none=>none
def E6:Option T->Option (List Str×List T)
 |some (.osd ks l)=>some (ks,l)
 |_=>none
theorem Uy(h:E6 o=some (ks,l)):o=some (.osd ks l):=by
 unfold E6 at h
 grind
open Classical in
def HL(C:Addr)(fs:List Str)(j i:Nat)(mk m:AG):AH:=λτ=>match m τ with
 |some (.v t false)=>(match Ez τ i C fs with
  |some (p,l)=>(match E6 l[j]? with
   |some (ks,lv)=>(match mk τ with
    |some (.v (.str k) _)=>if k∉ks/\ks.length<100000 then some (.nx (τ.set i (some (.oob p C fs (l.set j (.osd (ks++[k]) (lv++[t.share]))))))) else none
    |some (.v _ _)=>none
    |some (.x c)=>some (.xc c τ)
    |none=>none)
   |none=>none)
  |none=>none)
 |some (.v _ true)=>none
 |some (.x c)=>some (.xc c τ)
 |none=>none
def Fl:AG:=λ_=>some (.v (.osd [] []) false)
theorem Ui{y:V}:∀{fs:List Str} {xs:List V},fs[xs.length]?=some f->(fs.take xs.length).contains f=false->Cd f y (fs.zip xs)=fs.zip (xs++[y])
 |[],xs,h,_=>by simp at h
 |g::r,[],h,_=>by
  simp at h;subst h;simp[Cd]
 |g::r,x::xs,h,hn=>by
  rw[yb9,List.take_succ_cons,ydc,yb0]at hn
  have hg:¬ g=f:=λz=>by
   grind
  have ih:=Ui (y:=y) (by simpa using h) hn.2
  rw[ycl,ydk,ycl];show(if g=f then _ else _)=_
  grind
section
variable {K:k6}{F H:Hp}{C:Addr}{fs:List Str}{l:List T}
theorem Rp.oob_inv(h:Rp K F H (.oob p C fs l) x A):∃dx xs Rr,x=.ref p/\A=(λa=>a=p\/∃j,Rr j a)/\F p=none/\H p=some (.ins C dx (fs.zip xs))/\RpO K F H l xs Rr/\∀j,¬ Rr j p:=by
 cases h with
 |oob R f h e c d dp o=>exact⟨_,_,R,rfl,rfl,f,h,⟨e,c,d,o⟩,dp⟩
theorem VD(r:RpO K F H l xs Rr)(f:F p=none)(h:H p=some (.ins C dx (fs.zip xs)))(dp:∀j,¬ Rr j p):Rp K F H (.oob p C fs l) (.ref p) (λa=>a=p\/∃j,Rr j a):=.oob Rr f h r.len r.rep r.dis dp r.out
theorem Rp.osd_inv(h:Rp K F H (.osd ks l) x A):∃p xs Rs,x=.ref p/\A=(λa=>a=p\/∃j,Rs j a)/\F p=none/\H p=some (.dK (CJ ks xs))/\RpO K F H l xs Rs/\ks.length=xs.length/\∀j,¬ Rs j p:=by
 cases h with
 |osd R f h e ek c d dp o=>exact⟨_,_,R,rfl,rfl,f,h,⟨e,c,d,o⟩,ek,dp⟩
theorem Uw(r:RpO K F H l xs Rr)(ek:ks.length=xs.length)(f:F p=none)(h:H p=some (.dK (CJ ks xs)))(dp:∀j,¬ Rr j p):Rp K F H (.osd ks l) (.ref p) (λa=>a=p\/∃j,Rr j a):=.osd Rr f h r.len ek r.rep r.dis dp r.out
theorem Uv(r:RpO K F H l xs Rr)(ek:ks.length=xs.length)(f:F p=none)(dp:∀j,¬ Rr j p)(rt:Rp K F H t y B)(dB:∀j a,Rr j a->¬ B a)(pB:¬ B p):Rp K F (upd H p (.dK (CJ (ks++[k]) (xs++[y])))) (.osd (ks++[k]) (l++[t])) (.ref p) (λa=>a=p\/∃j,(if j=l.length then B else Rr j) a) :=
 Uw ((r.upd dp).snoc (rt.upd pB) dB) (by simp[ek]) f Bd λj z=>by
  by_cases hj:j=l.length
  .simp only[hj,ye4]at z;exact pB z
  .simp only[hj,yeg]at z;exact dp j z
end
theorem XN(h:ks.length=xs.length):(CJ ks xs).length=xs.length:=by
 unfold CJ
 grind
theorem zkn(h:kv∈CJ ks xs):∃k∈ks,kv.1=Sum.inr k:=by
 induction ks generalizing xs with
 |nil=>cases xs<;>cases h
 |cons a r ih =>
  cases xs with
  |nil=>cases h
  |cons b s =>
   rcases yaa.mp h with e|e
   .grind
   .obtain⟨k,hk,e⟩:=ih e
    grind
theorem Uh(h:ks.length=xs.length)(hk:k∉ks):DG (CJ ks xs) (Sum.inr k) y=CJ (ks++[k]) (xs++[y]):=by
 unfold DG;rw[if_neg]
 .unfold CJ;rw[List.zipWith_append h]
  rfl
 .intro c;obtain⟨kv,h1,h2⟩:=List.any_eq_true.mp c;obtain⟨k',h3,h4⟩:=zkn h1
  grind
section
variable {X:Cx}{E:L2.St->XK}{ca:Str->Value}{m mk:AG}{e k:Expr}{pos p1 pos2 pos3:Pos}{mu:Bool}{i j:Nat}{x f:Str}{C:Addr}{fs:List Str}
theorem U4:PE X (.Dict [] [] pos) (tM X.K E ca Fl):=PE.weak zjp λσ H Q h p hp=>by
 obtain⟨F,τ,R,S,q⟩:=h;exact q F (upd H p (.dK [])) (.ref p) _ (Ext.newO S.fh hp) (Rp.osd0 (xs:=[]) (Fe S.fh hp) Bd rfl rfl λi t x h=>by simp at h)
theorem zm4(c:Cls X.K C)(hn:Ba X.K C f)(hj:fs[j]?=some f)(hnf:(fs.take j).contains f=false)(hjl:j<900)(hN:X.N[i]?=some x)(hv:C8 X.env.scope x)(hd:(x == "__debug__")=false)(hcd:(x == "__classdict__")=false)(he:PE X e (tM X.K E ca m))
  (hs:swapsWith e (some (.Attribute (.Name x p1) f pos2)) pos.line X.env=pure false):PS X (.Assign [.Attribute (.Name x p1) f pos2] e pos) (tS X.K E ca mu (CW C fs j i m)):=by
 refine PS.weak (zmq (E5 hN hv hd hcd) he hs) λD σ H h=>?_
 obtain⟨F,τ,R,S,q⟩:=h;refine⟨F,τ,R,S,?_⟩;unfold CW at q;cases hm:m τ with
 |none=>simp only[hm]at q<;>exact q.elim
 |some r =>
  simp only[hm]at q;cases r with
  |x c=>exact λF' H' e=>q F' H' σ R e.stp0 (S.ext e)
  |v t bb =>
   cases bb with
   |true=>exact λF1 H1 y B e1 g1=>q.elim
   |false =>
    intro F1 H1 y B e1 g1;have g1' :=g1;simp only at q;cases ho:Ez τ i C fs with
    |none=>simp only[ho]at q<;>exact q.elim
    |some pl =>
     obtain⟨p,l⟩:=pl;simp only[ho]at q
     by_cases hl:l.length=j
     .rw[if_pos hl]at q;have S1:=S.ext e1;have ht:=NS ho;obtain⟨y2,ey,ry⟩:=S.rep i _ ht;obtain⟨dx,xs,Rr,rfl,hA,fp,hp,ro,dp⟩:=ry.oob_inv;have hxs:xs.length=j:=by rw[<- ro.len];exact hl
      have hp1:=e1.hh _ _ hp;have pB:¬ B p:=λz=>by rw[e1.nb p z]at hp;cases hp
      have fp1 :=(ry.ext e1 |>.dom (by rw[hA];exact .inl rfl)).1
      refine⟨_,ey,p,C,dx,fs.zip xs,rfl,hp1,c,hn,?_,?_⟩
      .rw[List.length_zip]
       omega
      .rw[Ui (by rw[hxs];exact hj) (by rw[hxs];exact hnf)]
       have ro1:=ro.ext e1;have ro2:RpO X.K F1 (upd H1 p (.ins C dx (fs.zip (xs++[y])))) (l++[t]) (xs++[y]) _:=(ro1.upd dp).snoc (g1'.upd pB) λj a z1 z2=>ro.apart e1 z2 j z1
       have dp2:∀j,¬ (if j=l.length then B else Rr j) p:=λj z=>by
        by_cases hj:j=l.length
        .simp only[hj,ye4]at z;exact pB z
        .simp only[hj,yeg]at z;exact dp j z
       have r2:=VD ro2 fp1 Bd dp2
       obtain⟨S3,st3⟩:=S1.upd ht ey (by rw[hA];exact .inl rfl) r2 (λa z=>by
        rw[hA]
        rcases z with z|z
        .exact .inl (.inl z)
        .rcases Mw z with w|w
         .exact .inl (.inr w)
         .exact .inr w) (λj a z1 z2=>S.apart e1 z2 j z1)
       exact q F1 _ σ _ (e1.stp.trans st3) S3
     .rw[if_neg hl]at q;exact q.elim
def rSetS:Qd:=λo i v H Q=>∃p kvs k,o=.ref p/\i=.str k/\H p=some (.dK kvs)/\kvs.length<sizeLine/\Q (upd H p (.dK (DG kvs (Sum.inr k) v)))
theorem SK(hu:X.A.units+1<cLine):Qk X rSetS:=by
 intro pins s σ H o i v ov iv u Q I ro ri rv h;obtain⟨p,kvs,k,rfl,rfl,hp,hl,q⟩:=h;cases ro;exact zfw hu I (IG.k (k:=Sum.inr k) hp hl) (ri) rv λs' I'=>⟨_,I',q⟩
theorem G7{K}(g:DS K F H R (.str z) b y B):y=.str z:=by
 cases b with
 |true=>obtain⟨_,A,_,r⟩:=g;exact r.str_inv
 |false=>exact(g).str_inv
theorem s_dpf(hu:X.A.units+1<cLine)(c:Cls X.K C)(hn:Ba X.K C f)(hj:fs.findIdx? (· == f)=some j)(hN:X.N[i]?=some x)(hv:C8 X.env.scope x)(hd:(x == ("__debug__":Str))=false)(hcd:(x == "__classdict__")=false)(he:PE X e (tM X.K E ca m))(hk:PE X k (tM X.K E ca mk))
  (hs:swapsWithSole [.Subscript (.Attribute (.Name x p1) f pos3) k pos2] e pos.line X.env=pure false) (hw:swappedStores [.Subscript (.Attribute (.Name x p1) f pos3) k pos2] e X.env=pure none)
  (ha : ∀ v, assign (.Subscript (.Attribute (.Name x p1) f pos3) k pos2) X.env v = (do
   let ov <- holding [v] (eval (.Attribute (.Name x p1) f pos3) X.env);let iv <- holding [v,ov] (eval k X.env)
   standAt pos2
   holding [v,ov,iv] (setItem ov iv v)
   release [v,ov,iv] [])) :
  PS X (.Assign [.Subscript (.Attribute (.Name x p1) f pos3) k pos2] e pos) (tS X.K E ca mu (HL C fs j i mk m)):=by
 refine PS.weak (Ie he (K8 (Ur (E5 hN hv hd hcd) rfl) hk (SK hu) ha) hs hw rfl) λD σ H h=>?_
 obtain⟨F,τ,R,S,q⟩:=h;refine⟨F,τ,R,S,?_⟩;unfold HL at q;cases hm:m τ with
 |none=>simp only[hm]at q<;>exact q.elim
 |some r =>
  simp only[hm]at q;cases r with
  |x c=>exact λF' H' e=>q F' H' σ R e.stp0 (S.ext e)
  |v t bb =>
   cases bb with
   |true=>exact λF1 H1 y B e1 g1=>q.elim
   |false =>
    intro F0 H1 y B e0 g0;simp only at q;obtain⟨F1,e1,_,g1⟩:=DS.frz S e0 g0;have g1':Rp X.K F1 H1 t.share y R0:=(g1).any;cases ho:Ez τ i C fs with
    |none=>simp only[ho]at q<;>exact q.elim
    |some pl =>
     obtain⟨p,l⟩:=pl;simp only[ho]at q;cases hos:E6 l[j]? with
     |none=>simp only[hos]at q<;>exact q.elim
     |some kl =>
      obtain⟨ks,lv⟩:=kl;simp only[hos]at q;have hlj:=Uy hos;have S1:=S.ext e1;have ht:=NS ho;obtain⟨y2,ey,ry⟩:=S1.rep i _ ht;obtain⟨dx,xs,Rr,rfl,hA,fp,hp,ro,dp⟩:=ry.oob_inv;have hjl:=(ya3.mp hlj).1;have hjx:j<xs.length:=by rw[<- ro.len];exact hjl
      have hx :=ya0 hjx;refine⟨_,ey,p,C,dx,_,xs[j],rfl,hp,c,hn,Wv hj hx,F1,τ,R,S1,?_⟩;cases hkk:mk τ with
      |none=>simp only[hkk]at q<;>exact q.elim
      |some r =>
       simp only[hkk]at q;cases r with
       |x c=>exact λF' H' e=>q F' H' σ R ((e1.stp0).trans e.stp0) (S1.ext e)
       |v tk bk =>
        cases tk with
        |str kk =>
         simp only at q
         by_cases hc:kk∉ks/\ks.length<100000
         .rw[if_pos hc]at q;intro F2 H2 z CC e2 g2;have hz:=G7 g2;subst hz;have e2':Ext F1 H1 F2 H2 R0:=e2.mono λ_ z=>z.elim
          have S2:=S1.ext e2;have ry2:=ry.ext e2;have ro2:=ro.ext e2;have fp2 :=(ry2.dom (by rw[hA];exact .inl rfl)).1
          have hp2:=e2.hh _ _ hp;have rk:=ro2.rep j _ _ hlj hx;obtain⟨pd,ys,Rs,exj,hAd,fpd,hpd,rs,ek,ds⟩:=rk.osd_inv;have g2' :=g1'.ext e2;have pdj:Rr j pd:=by rw[hAd];exact .inl rfl
          have pne:pd≠p:=λz=>dp j (z▸pdj)
          refine⟨pd,CJ ks ys,kk,exj,rfl,hpd,?_,?_⟩
          .rw[XN ek,<- ek,ydz];exact ycg hc.2 (by decide)
          .rw[Uh ek hc.1];have r3:=Uv (k:=kk) rs ek fpd ds (g2'.any (H':=H2)) (λ_ _ _ z=>z.elim) (λz=>z.elim)
           have hE:(λa=>a=pd\/∃j,(if j=lv.length then R0 else Rs j) a)=Rr j:=by
            rw[hAd]
            funext a
            apply propext;constructor
            .rintro(z|⟨j,z⟩)
             .exact .inl z
             .split at z
              .exact z.elim
              .exact .inr ⟨j,z⟩
            .rintro(z|⟨j,z⟩)
             .exact .inl z
             .exact .inr ⟨j,by rw[if_neg (yaf (rs.out j a z))];exact z⟩
           rw[hE]at r3;have oth :=λk hk z=>ro2.dis k j pd hk z pdj
           have ro3:RpO X.K F2 (upd H2 pd (.dK (CJ (ks++[kk]) (ys++[y])))) (l.set j (.osd (ks++[kk]) (lv++[t.share]))) xs Rr:=by
            refine⟨by rw[ybn];exact ro2.len,λk t' x' h1 h2=>?_,ro2.dis,λk a z=>by rw[ybn];exact ro2.out k a z⟩
            by_cases hk:k=j
            .subst hk;rw[yal hjl]at h1;rw[hx]at h2;cases h1;cases h2;rw[exj];exact r3
            .rw[yah (yao hk)]at h1;exact(ro2.rep k t' x' h1 h2).upd (oth k hk)
           have r4:=VD ro3 fp2 (by rw[Ak (yao pne)];exact hp2) dp
           obtain⟨S3,st3⟩:=S2.upd ht ey (by rw[hA];exact .inr ⟨j,pdj⟩) r4 (λa z=>.inl (by rw[hA];exact z)) (λj a z1 z2=>z2)
           exact q F2 _ σ _ ((e1.stp.trans e2.stp0).trans st3) S3
         .rw[if_neg hc]at q;exact q.elim
        |_=>exact λF' H' z CC e2 g2=>q.elim
end
section
variable {X:Cx}{E:L2.St->XK}{ca:Str->Value}{ma mb mc:AG}{a b c:Expr}{pos:Pos}{x:Str}{t:T}
theorem r_con(hg:Gl X x)(hm:X.mg x=some u)(rv:A3 v u)(hd:(x == "__debug__")=false)(r:∀F ,Rp X.K F F t v R0):PE X (.Name x pos) (tM X.K E ca (mC t)) :=
 PE.weak (NR hg hm rv hd) λσ H Q h=>by
  obtain⟨F,τ,R,S,q⟩:=h;exact q F H v R0 (Ext.refl S.fh) (r F).any
def FG(g g':T->T->Option T)(ma mb mc:AG):AG:=λτ=>match ma τ,mb τ with
 |some (.v t _),some (.v u _)=>if t.flat && u.flat then (match g t u with
  |some (.bl true)=>(match mc τ with
   |some (.v w _)=>if w.flat then (match g' u w with
    |some (.bl k)=>some (.v (.bl k) false)
    |_=>none) else none
   |_=>none)
  |some (.bl false)=>some (.v (.bl false) false)
  |_=>none) else none
 |_,_=>none
theorem H9{K}{b}{x}(g:DS K F H R v b x B)(h:v.flat=true):Rp K F' H' v x R0:=by
 cases b with
 |true=>obtain⟨_,A,_,r⟩:=g;exact r.flat_any h
 |false=>exact(g).flat_any h
theorem Ro(h:tM X.K E ca (FG g g' ma mb mc) σ H Q):Mp (BY X.K g) (BY X.K g') (tM X.K E ca ma) (tM X.K E ca mb) (tM X.K E ca mc) σ H Q:=by
 obtain⟨F,τ,R,S,q⟩:=h;refine⟨F,τ,R,S,?_⟩;unfold FG at q;cases h1:ma τ with
 |none=>simp only[h1]at q<;>exact q.elim
 |some r1 =>
  cases r1 with
  |x c=>simp only[h1]at q<;>exact q.elim
  |v t b1 =>
   cases h2:mb τ with
   |none=>simp only[h1,h2]at q<;>exact q.elim
   |some r2 =>
    cases r2 with
    |x c=>simp only[h1,h2]at q<;>exact q.elim
    |v u b2 =>
     simp only[h1,h2]at q
     by_cases hf:(t.flat && u.flat)=true
     .rw[if_pos hf]at q;rw[ya2]at hf;intro F1 H1 x B1 e1 g1;have S1:=S.ext e1;refine⟨F1,τ,R,S1,?_⟩;rw[h2];intro F2 H2 y B2 e2 g2;have S2:=S1.ext e2;have e12:Ext F H F2 H2 R0:=(e1.trans e2).mono λ_ z=>z.elim
      cases hg:g t u with
      |none=>simp only[hg]at q<;>exact q.elim
      |some k =>
       cases k with
       |bl k =>
        cases k with
        |false =>
         simp only[hg]at q;refine⟨F2,t,u,_,S2.fh,H9 g1 hf.1,H9 g2 hf.2,hg,λF3 H3 z C3 e3 r3=>⟨false,r3.bl_inv,?_⟩⟩
         rw[if_neg yb8];exact q F3 H3 _ R0 (e12.trans0 (e3.mono λ_ z=>z.elim)) (.bl false)
        |true =>
         simp only[hg]at q;refine⟨F2,t,u,_,S2.fh,H9 g1 hf.1,H9 g2 hf.2,hg,λF3 H3 z C3 e3 r3=>⟨true,r3.bl_inv,?_⟩⟩
         rw[if_pos rfl];have S3:=S2.ext e3;refine⟨F3,τ,R,S3,?_⟩;cases h3:mc τ with
         |none=>simp only[h3]at q<;>exact q.elim
         |some r3 =>
          cases r3 with
          |x c=>simp only[h3]at q<;>exact q.elim
          |v w b3 =>
           simp only[h3]at q
           by_cases hw:w.flat=true
           .rw[if_pos hw]at q;intro F4 H4 z4 B4 e4 g4;have S4:=S3.ext e4;cases hg':g' u w with
            |none=>simp only[hg']at q<;>exact q.elim
            |some k =>
             cases k with
             |bl k =>
              simp only[hg']at q;refine⟨F4,u,w,_,S4.fh,H9 g2 hf.2,H9 g4 hw,hg',λF5 H5 z5 C5 e5 r5=>?_⟩
              rw[r5.bl_inv];exact q F5 H5 _ R0 (e12.trans0 (((e3.trans e4).trans e5).mono λ_ z=>z.elim)) (.bl k)
             |_=>simp only[hg']at q<;>exact q.elim
           .rw[if_neg hw]at q;exact q.elim
       |_=>simp only[hg]at q<;>exact q.elim
     .rw[if_neg hf]at q;exact q.elim
theorem r_chn(ho:Ab X (compareOp op) (BY X.K g))(ho':Ab X (compareOp op') (BY X.K g'))(ha:PE X a (tM X.K E ca ma))(hb:PE X b (tM X.K E ca mb))(hc:PE X c (tM X.K E ca mc))(hm:lastMarks [op,op'] [b,c]=false) :
  PE X (.Compare a [op,op'] [b,c] pos) (tM X.K E ca (FG g g' ma mb mc)):=PE.weak (zh2 ho ho' ha hb hc hm) λσ H Q h=>Ro h
theorem zmb(ho:Ab X (compareOp op) (BY X.K g))(ho':Ab X (compareOp op') (BY X.K g'))(ha:PE X a (tM X.K E ca ma))(hb:PE X b (tM X.K E ca mb))(hc:PE X c (tM X.K E ca mc))(hm:lastMarks [op,op'] [b,c]=false) :
  PT X (.Compare a [op,op'] [b,c] pos) (BH X.K E ca (FG g g' ma mb mc)):=PT.weak (zgv ho ho' ha hb hc hm) λσ H Q h=>Ro (KJ h)
end
def MR(x:Str):It:=⟨λi _=>i<x.cps.size,λi H y H'=>H'=H/\∃c,x.cps[i]?=some c/\y=.str ⟨#[c]⟩,λi _=>x.cps.size<=i⟩
theorem zgl{K}(x)(t)(it):Turn P w K tg (MR x) [it] it (λi h=>h.IsStrIter it (strIterType x) x t i) where
 mem:=by simp
 obj:=λi h st b hb=>by
  have e :=by simpa using hb
  subst e;obtain⟨o,e,c,d⟩:=st;exact⟨o,e,λv z=>by rw[d]at z;cases z⟩
 keep:=λi h h' st k=>by
  obtain⟨o,e,c,d⟩:=st;exact⟨o,k it (by simp) o e,c,d⟩
 item:=by
  intro X hP hw hK hc i pins s σ H E I hf st hg;subst hP hw hK;have hi :=hg;obtain⟨f0,f1,f2,f3,f4,f5⟩:=hf it (by simp)
  have As:∀(h' ),h'.IsStrIter it (strIterType x) x t (i+1)->Heap.SameBut it s.heap h'->∃u,some (Value.str ⟨#[x.cps[i]]⟩ s.toks)=some u /\
   wpAny (model X.prog X.w) X.A (letOwnedTupleGo tg (.ref it) u) (λ_ s2=>∃y H',Inv X pins σ H' s2/\A3 y u/\(MR x).yld i H y H'/\s2.heap.IsStrIter it (strIterType x) x t (i+1)/\∀b∈[it],H' b=none) E { s with heap:=h',toks:=s.toks+1 }:=λh' st' sb=>by
   have I1 :=I.turned (t':=s.toks+1) (λb o hb e=>(sb.2 b hb).trans e) f0 f1 f3 f4 f5
   obtain⟨o,e,c,d⟩:=id st';refine⟨_,rfl,LQ e c d ?_ ⟨.str ⟨#[x.cps[i]]⟩,H,I1,⟨_,rfl⟩,⟨rfl,_,yb7 hi,rfl⟩,st',λb hb=>(hf b hb).1⟩⟩
   unfold strIterType;split<;>decide
  cases ha:(x.cps.all λx=>decide (x<128)) with
  |true =>
   have e:strIterType x="str_ascii_iterator":=by unfold strIterType;rw[ha];rfl
   rw[e]at st As ⊢;exact wpAny_pyNext_ascii_item st (yb7 hi) As
  |false =>
   have e:strIterType x="str_iterator":=by unfold strIterType;rw[ha];rfl
   rw[e]at st As ⊢;exact wpAny_pyNext_wide_item st (yb7 hi) As
 done:=by
  intro X hP hw hK hc i pins s σ H E I hf st hg;subst hP hw hK;have hi :=hg;obtain⟨f0,f1,f2,f3,f4,f5⟩:=hf it (by simp)
  have n :=Array.getElem?_eq_none hi;cases ha:(x.cps.all λx=>decide (x<128)) with
  |true =>
   have e:strIterType x="str_ascii_iterator":=by unfold strIterType;rw[ha];rfl
   rw[e]at st;exact wpAny_pyNext_ascii_end (I.ok.hd hc) st n λh' eb=>⟨rfl,I.turned (λb o hb e=>eb b o hb e) f0 f1 f3 f4 f5⟩
  |false =>
   have e:strIterType x="str_iterator":=by unfold strIterType;rw[ha];rfl
   rw[e]at st;exact wpAny_pyNext_wide_end (I.ok.hd hc) st n λh' eb=>⟨rfl,I.turned (λb o hb e=>eb b o hb e) f0 f1 f3 f4 f5⟩
 self:=λ_ i s Q E st h=>by
  cases ha:(x.cps.all λx=>decide (x<128)) with
  |true =>
   have e:strIterType x="str_ascii_iterator":=by unfold strIterType;rw[ha];rfl
   rw[e]at st;exact wpAny_pyIter_striter_ascii st h
  |false =>
   have e:strIterType x="str_iterator":=by unfold strIterType;rw[ha];rfl
   rw[e]at st;exact wpAny_pyIter_striter_wide st h
def iStrT(tl:TE):TI:=λσ H P=>tl σ H λx H1=>∃y,x=.str y/\P (MR y) H1
section
variable {X:Cx}{tg l e:Expr}{tl:TE}{E:L2.St->XK}{ca:Str->Value}{m:AG}
theorem zmu(hl:PE X l tl):PI X tg l (iStrT tl):=by
 intro pins s σ H R I h;refine AU (hl pins s σ H _ I h) λv s1 ⟨x,H1,I1,r1,q1⟩=>?_
 obtain⟨y,rfl,q⟩:=q1;obtain⟨t,rfl⟩:=(r1);refine wpAny_pyIter_strU ?_;refine⟨s1.heap.objs.size,[s1.heap.objs.size],_,_,H1,rfl,I1.kept λb o e=>ya6 _ e,zgl y t _,⟨_,yaj _ rfl,rfl,rfl⟩,λb hb=>?_,q⟩
 have e :=by simpa using hb
 subst e;exact I1.fpOk (ya9 _) (I1.hok.fresh (ya9 _))
def FW(x:Str):List T:=x.cps.toList.map λc=>.str ⟨#[c]⟩
theorem zkq{K}:FL K (MR x) F (FW x):=by
 intro i F' H' s1 s2;refine⟨λt ht=>?_,λe=>?_⟩
 .unfold FW at ht;rw[ya8]at ht;obtain⟨c,e1,rfl⟩:=yad.mp ht;have hi:i<x.cps.size:=by grind
  refine⟨hi,λy H'' z=>?_⟩
  obtain⟨rfl,c',hc,rfl⟩:=z;rw[Array.getElem?_toList,hc]at e1;cases e1;exact⟨F',Ext.refl s2,.str _⟩
 .show x.cps.size<=i;rw[e];simp[FW]
def Ay(m:AG):Av:=λτ=>match m τ with
 |some (.v (.str x) _)=>some (.v (FW x) false)
 |_=>H0 m τ
theorem zmd(ha:PE X e (tM X.K E ca m)):PI X tg e (tI X.K E ca (Ay m)):=by
 refine PI.weak (PI.or (U2 ha) (zmu ha)) λσ H P h=>?_
 obtain⟨F,τ,R,S,q⟩:=h
 by_cases hs:∃x b,m τ=some (.v (.str x) b)
 .obtain⟨x,b,hm⟩:=hs;have e:Ay m τ=some (.v (FW x) false):=by unfold Ay;rw[hm]
  rw[e]at q;refine .inr ⟨F,τ,R,S,?_⟩;rw[hm];intro F1 H1 y B e1 g1;exact⟨x,G7 g1,q F1 H1 _ (e1.mono λ_ z=>z.elim) zkq⟩
 .have e:Ay m τ=H0 m τ:=by
   unfold Ay
   grind
  rw[e]at q;exact .inl ⟨F,τ,R,S,q⟩
end
open Classical in
def met(val:Nat->Key):Nat->List Key
 |0=>[]
 |i+1=>if val i∈met val i then met val i else met val i++[val i]
open Classical in
theorem Wn(val:Nat->Key):∀i,(met val i).length<=i
 |0=>ya9 0
 |i+1=>by
  have:=Wn val i;unfold met;split
  .omega
  .rw[ybe,ycz]
   omega
section
variable {prog:Program}{w:World}{A:Around}{E:Value->Shared->Prop}
open Classical in
theorem Wu{knd:PySem.KeyKind prog w Key}{R:Result->Shared->Prop}{I:Addr}{fp wr:List Addr}{G:Array GenState->Array GenState->Prop}{n:Nat}{P:Nat->Value->Prop}{St:Nat->Shared->Prop}(W:WalksS prog w A.in1 I fp wr G n P St)(S:Addr)(hS:S∉fp)(val:Nat->Key)
  (hP:∀i v,P i v->knd.is (val i) v=true/\v.scannable=true) (hn:n+1<scanBound):∀(k i:Nat) (s:Shared),n - i=k->i<=n->St i s->Heap.SetOf knd s.heap S (λk'=>decide (k'∈met val i)) (met val i).length ->
   (∀s':Shared,Moved (S::wr) G s s'->Heap.SetOf knd s'.heap S (λk'=>decide (k'∈met val n)) (met val n).length->R (Except.ok (Flow.ret Value.none)) s') ->
   codeAny (model prog w) A (Code.builtin "set.update.loop" { pos:=[Value.ref S,Value.ref I] }) R s
 |0,i,s,hk,hi,st,hset,h=>by
  have e:i=n:=by omega
  subst e;refine yea F.entry_set_update_loop ?_;rw[Around.under_plainId yco];unfold Builtin.«set.update.loop»;refine ydt (W.done s _ _ st λs' mv=>?_)
  refine ydx ?_;refine h s' (mv.mono λb hb=>ya4 _ hb) ?_
  obtain⟨o,es,ep,t,h1,h2⟩:=hset;exact⟨o,es,ep,t,mv.heap S o (λz=>hS (W.sub S z)) h1,h2⟩
 |k+1,i,s,hk,hi,st,hset,h=>by
  have hi':i<n:=by omega
  refine yea F.entry_set_update_loop ?_;rw[Around.under_plainId yco];unfold Builtin.«set.update.loop»;refine ydt (W.item i s _ _ hi' st λv s' pv st' mv=>?_)
  obtain⟨hk1,hk2⟩:=hP i v pv
  have hset':Heap.SetOf knd s'.heap S (λk'=>decide (k'∈met val i)) (met val i).length:=by
   obtain⟨o,es,ep,t,h1,h2⟩:=hset;exact⟨o,es,ep,t,mv.heap S o (λz=>hS (W.sub S z)) h1,h2⟩
  refine ydt (ydu ?_);unfold setAdd;refine ydu (ydt (knd.pyHash hk1 ?_));have hl:=Wn val i;refine wpAny_setAddHashed_of (s:={ s' with toks:=s'.toks+1 }) hk1 hk2 hset' (by omega) λh' sb hset2=>?_
  refine ydx ⟨plainId_quiet yco _,?_⟩;have st2:=W.frame (i+1) s' h' (s'.toks+1) st' (ycs _) λb hb o e=>(sb.2 b (λz=>hS (z▸hb))).trans e
  have mv2:Moved (S::wr) G s { s' with heap:=h',toks:=s'.toks+1 }:=(mv.mono λb hb=>ya4 _ hb).then_heap (ycs _) λb o hb e=>(sb.2 b (λz=>hb (by rw[z];exact ya7 ..))).trans e
  refine Wu W S hS val hP hn k (i+1) _ (by omega) (by omega) st2 ?_ λs'' mv3 hs3=>h s'' (mv2.trans W.gtrans mv3) hs3
  have hS:(λk'=>(decide (k'∈met val i) || decide (k'=val i)))=λk'=>decide (k'∈met val (i+1)):=funext λk'=>by
   conv=>rhs;unfold met
   by_cases hm:val i∈met val i
   .rw[if_pos hm]
    by_cases e:k'=val i
    .rw[e,ye6 hm];rfl
    .rw[ydp e,Bool.or_false]
   .rw[if_neg hm,Bool.eq_iff_iff];simp only[ybz,yec,yax,yab]
  have hN:(if decide (val i∈met val i)=true then (met val i).length else (met val i).length+1)=(met val (i+1)).length:=by
   conv=>rhs;unfold met
   by_cases hm:val i∈met val i
   .rw[if_pos hm,if_pos (ye6 hm)]
   .rw[if_neg hm,if_neg (λz=>hm (yef z)),ybe,ycz]
  obtain⟨o,es,ep,t,h1,h2,h3,h4,h5,h6,h7,h8⟩:=hset2;refine⟨o,es,ep,t,h1,h2,h3,h4,λk'=>?_,h6,h7,h8.trans hN⟩
  rw[<- h5 k'];have e:=congrFun hS k';show decide (k'∈met val (i+1))=true ↔ _;rw[<- e]
end
open Classical in
theorem zcf{prog:Program}{w:World}{A:Around}{E:Value->Shared->Prop}{s:Shared}{l:Addr}{items:Array Value}{knd:PySem.KeyKind prog w Key}{val:Nat->Key}{Q:Value->Shared->Prop}(hh:A.handled=none)(hl:s.heap.IsList l items)
  (hP:∀(i:Nat) (v:Value),items[i]?=some v->knd.is (val i) v=true/\v.scannable=true) (hb:items.size+1<scanBound)
  (h:∀(h':Heap) (tk:Nat),Heap.SetOf knd h' s.heap.objs.size (λk'=>decide (k'∈met val items.size)) (met val items.size).length->(∀(b:Nat) (o:Obj),b<s.heap.objs.size->s.heap.get? b=some o->h'.get? b=some o)->Q (.ref s.heap.objs.size) { s with heap:=h',toks:=tk }) :
  wpAny (model prog w) A (call (Value.type "set") [Value.ref l]) Q E s:=by
 obtain⟨c,tl,hmro⟩:=ycm.mro;have hmade:=ycm.made;have hsub:=ycm.sub;refine ye0 (codeAny_of_tree ?_);refine ydx ⟨Code.quiet_builtin _ (by decide +kernel),yea F.entry_type_call ?_⟩
 have hu:=Around.under_plain (A:=A) (weight_type_call_type "set" [Value.ref l] []) rfl;have h1:=ycm.notType;have h2:=ycm.canCreate;have hct:=F.typeCall_set_1 (Value.ref l);show wpAny (model prog w) (A.under (Code.builtin "type.__call__" { pos:=[Value.type "set",Value.ref l] })) _ _ _ s;rw[hu];unfold Builtin.«type.__call__»;refine yeh (by rw[h1];rfl) (yeh (by rw[h2];rfl) ?_)
 refine ydt (yeb hct (ydt (yeb hmro (yeh rfl (ydt (yeb hmade (ydt (ydx (ydt (ydu (ye0 (ye1 (code_set_new_1 (E:=λ_ _=>False) (Value.ref l) (Q₁:=λv s'=>∃led:Bool,v=.ref s.heap.objs.size/\s'={ s with heap:=s.heap.push { cls:=.type "set",data:=.set #[] 0 (SetTable.fresh 0 0 led) } }) λled=>⟨led,rfl,rfl⟩) λr s₁ hr=>?_))))))))))))
 cases r with
 |error e=>exact False.elim hr
 |ok fl =>
  cases fl with
  |next=>exact False.elim hr
  |brk=>exact False.elim hr
  |cont=>exact False.elim hr
  |ret v =>
   obtain⟨led,rfl,rfl⟩:=(show ∃led:Bool,v=.ref s.heap.objs.size/\s₁={ s with heap:=s.heap.push { cls:=.type "set",data:=.set #[] 0 (SetTable.fresh 0 0 led) } } from hr)
   have ho:(s.heap.push { cls:=.type "set",data:=.set #[] 0 (SetTable.fresh 0 0 led) }).get? s.heap.objs.size=some { cls:=.type "set",data:=.set #[] 0 (SetTable.fresh 0 0 led) }:=yaj _ rfl;have hT:Shared.TypeIs { s with heap:=s.heap.push { cls:=.type "set",data:=.set #[] 0 (SetTable.fresh 0 0 led) } } (.ref s.heap.objs.size) "set":=⟨_,ho,rfl⟩
   have hin:=ycm.init;refine ydt (yei hT hsub (yeh rfl (ydt (ydu ?_))));unfold callSpecial?;refine ydt (wpAny_specialOf hT hin.lookup (ydu (ydt (yeb (hin.bind _) (ydt (ye0 (ye1 (R:=wants (λv s'=>v=.none/\∃tk h',s'={ s with heap:=h',toks:=tk }/\Heap.SetOf knd h' s.heap.objs.size (λk'=>decide (k'∈met val items.size)) (met val items.size).length/\∀(b:Nat) (o:Obj),b<s.heap.objs.size->s.heap.get? b=some o->h'.get? b=some o) λ_ _=>False) (ye9 hin.plain F.entry_set_init (check_set_init_1 hT ?_)) λr s₂ hr₂=>?_)))))))
   .unfold Builtin.«set.__init__» noKeywords;refine ydt (wpAny_ite_true rfl (ydx ?_));unfold typeNameOfCut shownTypeOf;refine ydt (ydt (ydt (wpAny_typeOf hT (yeh (by decide +kernel) (ydx ?_)))))
    refine yeb (rfl:typeNameCut 200 (Value.type "set")=pure _) ?_;refine ydt (yeb (rfl:checkCount _ 0 1 1=pure ()) ?_);refine ydt (ydx ?_);unfold setUsed setState;refine ydt (ydt (ydt (wpAny_load ho (yeh rfl (ydx (ydx (yeh rfl ?_)))))));obtain⟨ol,hol,hcl,nl,hdl⟩:=id hl;have hol2:(s.heap.push { cls:=.type "set",data:=.set #[] 0 (SetTable.fresh 0 0 led) }).get? l=some ol:=ya6 _ hol;have hTl:Shared.TypeIs { s with heap:=s.heap.push { cls:=.type "set",data:=.set #[] 0 (SetTable.fresh 0 0 led) } } (.ref l) "list":=⟨_,hol2,hcl⟩
    unfold Builtin.Frozenset.updateFrom Builtin.Frozenset.isAnySet;refine ydt (ydt (ydt (yei hTl F.sub_list_set ?_)));have hl2:(s.heap.push { cls:=.type "set",data:=.set #[] 0 (SetTable.fresh 0 0 led) }).IsList l items:=⟨ol,hol2,hcl,nl,hdl⟩;refine yei hTl F.sub_list_frozenset (yeh rfl (ydt (wpAny_typeOf hTl (yeh (by decide +kernel) (ydt (ydy hl2 ?_))))))
    have lt:l<s.heap.objs.size:=ya5 hol;have hsz:(s.heap.push { cls:=.type "set",data:=.set #[] 0 (SetTable.fresh 0 0 led) }).objs.size=s.heap.objs.size+1:=ybp _ _;generalize hhp:s.heap.push { cls:=.type "set",data:=.set #[] 0 (SetTable.fresh 0 0 led) }=hp at *
    have hS:s.heap.objs.size∉[hp.objs.size,l]:=by
     rw[hsz];intro z
     rcases yaa.mp z with e|e
     .exact absurd e (yaf (ybr _))
     .exact absurd (yab.mp e) (Nat.ne_of_gt lt)
    refine ydt (wpAny_runValue ?_);refine Wu (knd:=knd) (A:=A.in1.in1) (Walks.list (A:=A.in1.in1.in1) hh hp.objs.size l (by rw[hsz];exact yaf (yc3 lt)) items).toS s.heap.objs.size hS val (λi v e=>hP i v e) hb items.size 0 _ (by omega) (ybg _) ⟨?_,?_⟩ ?_ λs' mv hs'=>?_
    .exact⟨_,yaj _ rfl,rfl,rfl⟩
    .exact⟨ol,ya6 _ hol2,hcl,nl,hdl⟩
    .letI:BEq Key:=⟨λa b=>decide (a=b)⟩
     haveI:LawfulBEq Key:={ eq_of_beq:=λh=>yef h,rfl:=ye6 rfl }
     have e0:=(setObjOf_fresh (prog:=prog) (w:=w) (knd:=knd) led).setOf (h:=hp.push { cls:=.type "list_iterator",data:=.fields #[.ref l,.int 0 0] }) (a:=s.heap.objs.size) (ya6 _ ho) (by decide)
     obtain⟨o,es,ep,t,g1,g2,g3,g4,g5,g6,g7,g8⟩:=e0;refine⟨o,es,ep,t,g1,g2,g3,g4,λk'=>?_,g6,g7,g8⟩
     rw[<- g5 k'];simp[met]
    .refine ydx (ydx ?_)
     have b2:∀(b:Nat) (o:Obj),b<s.heap.objs.size->s.heap.get? b=some o->s'.heap.get? b=some o:=λb o hb e=>by
      refine mv.heap b o (λz=>?_) (ya6 _ (by rw[<- hhp];exact ya6 _ e))
      rcases yaa.mp z with e|e
      .exact absurd e (yaf hb)
      .have e:=yab.mp e;rw[hsz]at e;exact absurd e (yaf (yc3 hb))
     have m1:=mv.gens;have m2:=mv.drawn;have m3:=mv.os;obtain⟨hh',g',d',t',os'⟩:=s';refine⟨rfl,t',hh',?_,hs',b2⟩;simp only at m1 m2 m3;rw[m1,m2,m3]
   .cases r with
    |error e=>exact False.elim hr₂
    |ok fl =>
     cases fl with
     |next=>exact False.elim hr₂
     |brk=>exact False.elim hr₂
     |cont=>exact False.elim hr₂
     |ret v =>
      obtain⟨rfl,tk,h',rfl,hs,hk⟩:=(show v=.none/\∃tk h',s₂={ s with heap:=h',toks:=tk }/\Heap.SetOf knd h' s.heap.objs.size (λk'=>decide (k'∈met val items.size)) (met val items.size).length/\∀(b:Nat) (o:Obj),b<s.heap.objs.size->s.heap.get? b=some o->h'.get? b=some o from hr₂)
      refine ydx (yeh rfl (ydx ?_));exact h h' tk hs hk
def Qf(P:Program)(w:World)(a:Addr)(ks:List Key):HO:=.ext λh=>Heap.SetOf (Ci P w) h a (λk=>@decide (k∈ks) (Classical.propDecidable _)) ks.length
section
variable {X:Cx}
theorem zg4(hc:X.calm=true):Bb X (.type "set") (λxs H Q=>∃(p:Addr) (ys:List Str),xs=[.ref p]/\A9 X.K H p (ys.map V.str)/\ys.length<1000/\∀a,H a=none->Q (.ref a) (upd H a (Qf X.prog X.w a (met (λi=>Sum.inr (ys.getD i Str.empty)) ys.length)))):=by
 intro pins s σ H xs us Q I r h;obtain⟨p,ys,rfl,hq,hz,q⟩:=h;obtain⟨u,rfl,rx⟩:=FN r;cases rx;obtain⟨its,r',pl,_⟩:=I.list hq;have hlen:=r'.length;rw[ya1]at hlen;have hsz:its.toArray.size=ys.length:=by rw[yb3];exact hlen.symm
 refine zcf (knd:=Ci X.prog X.w) (val:=λi=>Sum.inr (ys.getD i Str.empty)) (I.ok.hd hc) pl.isList (λi v e=>?_) (by rw[hsz];exact yac (Nat.succ_lt_succ hz) (by decide)) λh' tk hs kp=>?_
 .have e' :=by simpa using e
  have hi:i<ys.length:=by rw[hlen];exact(ya3.mp e').1
  have hx:(ys.map V.str)[i]?=some (.str ys[i]):=by rw[ya8,ya0 hi];rfl
  obtain⟨u,e2,ru⟩:=r'.get hx;rw[e']at e2;cases e2;obtain⟨t,rfl⟩:=(ru);refine⟨?_,rfl⟩;show Fo (Sum.inr (ys.getD i Str.empty)) (Value.str ys[i] t)=true;rw[yam,ya0 hi];show(ys[i] == ys[i])=true;exact yej _
 .rw[hsz]at hs;refine⟨.ref s.heap.objs.size,_,I.laid (o:=Qf X.prog X.w s.heap.objs.size (met (λi=>Sum.inr (ys.getD i Str.empty)) ys.length)) (λb o e=>kp b o (ya5 e) e) (ya9 _) ⟨?_,?_,?_⟩,rfl,q _ (I.hok.fresh (ya9 _))⟩
  .exact hs
  .obtain⟨o,es,ep,t,g1,_⟩:=hs;exact⟨o,g1⟩
  .intro h1 h2 p1 k;obtain⟨o,es,ep,t,g1,g2⟩:=p1;exact⟨o,es,ep,t,k o g1,g2⟩
theorem zg6:Bb X (.builtin "len") (λxs H Q=>∃a ks,xs=[.ref a]/\H a=some (Qf X.prog X.w a ks)/\Q (.int ks.length) H):=by
 intro pins s σ H xs us Q I r h;obtain⟨a,ks,rfl,ha,q⟩:=h;obtain⟨u,rfl,rx⟩:=FN r;cases rx;obtain⟨⟨o,es,ep,t,g1,g2,g3,g4,g5,g6,g7,g8⟩,_⟩:=(I.hok a _ ha)
 have hb:(es.size:Int)<2 ^ 63:=by
  have:scanBound<=2 ^ 40:=by decide
  omega
 refine call_len_set g1 g2 g3 g7 hb ⟨.int es.size,H,I.tok _,⟨_,rfl⟩,?_⟩
 grind
end
def FR:List T->Option (List Str)
 |[]=>some []
 |.str x::r=>(match FR r with
  |some l=>some (x::l)
  |none=>none)
 |_::_=>none
theorem Mq{K}{F}:∀{l} {ys} {xs},FR l=some ys->Ai K F l xs->xs=ys.map V.str
 |[],ys,xs,h,r=>by
  cases h;exact r.inv0
 |t::l,ys,xs,h,r=>by
  obtain⟨x,xs',rfl,r1,r2⟩:=r.inv;unfold FR at h;split at h
  .grind
  .rename_i y r e;cases e;split at h
   .rename_i l' hl;cases h;rw[r1.str_inv,Mq hl r2]
    rfl
   .cases h
  .cases h
def RU(ys:List Str):Nat:=(met (λi=>Sum.inr (ys.getD i Str.empty)) ys.length).length
def IQ:T->Option T
 |.nd _ .lst l=>(match FR l with
  |some ys=>if ys.length<1000 then some (.int (RU ys)) else none
  |none=>none)
 |_=>none
section
variable {X:Cx}{E:L2.St->XK}{ca:Str->Value}{m:AG}{e:Expr}{pos p p2 p3:Pos}
theorem r_unq(hc:X.calm=true)(hg:Gl X "len")(hm:X.mg "len"=none)(hg2:Gl X "set")(hm2:X.mg "set"=none)(ha:PE X e (tM X.K E ca m))(he:starEach [e] X.env=[(false,eval e X.env)]) :
  PE X (.Call (.Name "len" p) [.Call (.Name "set" p2) [e] [] p3] [] pos) (tM X.K E ca (BN (g1 IQ) (AB m AD))):=by
 have hset:=Us (pos:=p3) (p:=p2) (zg4 hc) hg2 hm2 (rfl) (DH ha EJ he) (by decide) (by decide) he rfl
 refine PE.weak (Ih (zg6) hg hm PySem.boot_len (DH hset EJ rfl) (by decide) (by decide) rfl rfl) λσ H Q h=>?_
 refine(FP (FQ h)).mono λx H1 h1=>?_
 obtain⟨F,ts,v,fh,rs,e,q⟩:=FO h1;unfold g1 at e;split at e
 .obtain⟨x1,xs1,e1,r1,rs1⟩:=rs.inv;cases e1;unfold IQ at e;split at e
  .split at e
   .rename_i o l ys hy;split at e
    .rename_i hz;cases e;obtain⟨pp,zs,rfl,_,n,kd⟩:=DV r1;have hF :=n;refine⟨pp,ys,rfl,A9.of (by rw[<- Mq hy kd];exact fh _ _ hF),hz,λa ha=>⟨a,_,rfl,Bd,?_⟩⟩
     exact q F _ _ R0 ((Ext.newO fh ha).mono λ_ z=>z.elim) (Rp.int _)
    .cases e
   .cases e
  .cases e
 .cases e
end
def Ec:T->T->Option T
 |.int i,.int j=>some (.bl (decide (i<=j)))
 |.str x,.str y=>some (.bl (!(@decide (y.cps.toList<x.cps.toList) (Classical.propDecidable _))))
 |_,_=>none
section
variable {X:Cx}{E:L2.St->XK}{ca:Str->Value}{m mk:AG}{o k:Expr}{pos apos cpos:Pos}
theorem zk2:Ab X (compareOp .LtE) (BY X.K Ec):=by
 intro pins s σ H x y v u Q I rx ry h;obtain⟨F,t1,t2,r,fh,r1,r2,e,q⟩:=h;unfold Ec at e;split at e
 .cases e;rw[r1.int_inv]at rx;rw[r2.int_inv]at ry;exact VA pins s σ H _ _ v u Q I rx ry ⟨_,_,rfl,rfl,q.bl fh⟩
 .rename_i a b;cases e;rw[r1.str_inv]at rx;rw[r2.str_inv]at ry;obtain⟨t,rfl⟩:=(rx);obtain⟨t',rfl⟩:=(ry);refine PySem.P.le_str ⟨.bl _,H,I,rfl,?_⟩;have q1:=q.bl fh
  grind
 .cases e
end
def CK(ys:List Str)(y:Str):Option Nat:=ys.findIdx? λx=>@decide (x=y) (Classical.propDecidable _)
theorem zfk{ys:List Str}{y:Str}{j:Nat}(h:CK ys y=some j):∃hj:j<ys.length,ys[j]=y/\∀(m:Nat) (hm:m<ys.length),m<j->ys[m]≠y:=by
 obtain⟨h1,h2,h3⟩:=yav.mp h
 grind
theorem ZM{x y:Str}:(x.cps.toList == y.cps.toList)=true ↔ x=y:=by
 constructor
 .cases x
  simp_all
 grind
def zmh(K:k6):V->List V->Hp->VK->Prop:=λx vs H Q=>∃(l:Addr) (ys:List Str) (y:Str) (j:Nat),x=.ref l/\vs=[.str y]/\A9 K H l (ys.map V.str)/\CK ys y=some j/\ys.length<1000000/\Q (.int j) H
section
variable {X:Cx}{E:L2.St->XK}{ca:Str->Value}{m mk:AG}{o k:Expr}{pos apos cpos:Pos}
theorem zha:Qm X "list.index" (zmh X.K):=by
 intro pins s σ H x vs v us Q I rx rv h;obtain⟨l,ys,y,j,rfl,rfl,hH,hj,hz,q⟩:=h;cases rx;obtain⟨u,rfl,ru⟩:=rv.one;obtain⟨its,r,⟨ob,n,e,c1,c2,c3⟩,hz0⟩:=I.list hH;have hl:=r.length;obtain⟨cc,dd,da,sl⟩:=ob;simp only at c1 c2 c3;subst c1 c2 c3;obtain⟨t,rfl⟩:=(ru);obtain⟨hj1,hj2,hj3⟩:=zfk hj;rw[ya1]at hl
 have at_:∀(i ) (hi ),∃(t':Tok) (hi':i<ys.length),its.toArray[i]=Value.str ys[i] t':=λi hi=>by
  have hi0 :=by simpa using hi
  have hi':i<ys.length:=by omega
  have hx:(ys.map V.str)[i]?=some (.str ys[i]):=by rw[ya8,ya0 hi'];rfl
  obtain⟨u,e2,ru⟩:=r.get hx;obtain⟨t',rfl⟩:=(ru);rw[ya0 hi0]at e2;refine⟨t',hi',?_⟩
  simpa using e2
 let ev:Value->Bool:=λv=>match v with
  |.str x _=>x.cps.toList == y.cps.toList
  |_=>false
 have evs:∀(x ) (t' ),ev (.str x t')=(x.cps.toList == y.cps.toList):=λ_ _=>rfl
 have hjs:j<its.toArray.size:=by rw[yb3];omega
 refine ye5 F.slot_list_index ⟨_,e,rfl⟩ F.entry_list_index (F.args_list_index_2 _ _) (SeqAt.list_indexAt l its.toArray n none sl (.str y t) ev j hjs (by omega) ?_ λm hm hmj=>?_) ⟨e,λy' hy'=>?_,.int j,H,I.tok _,⟨_,rfl⟩,q⟩
 rotate_left 2
 .obtain⟨i,hi,rfl⟩:=Array.mem_iff_getElem.mp hy';obtain⟨t',hi',e1⟩:=at_ i hi;rw[e1,evs _ t'];exact(SeqRoads2.EqGives.str _ _ _ _).at _ _
 .obtain⟨t',hi',e1⟩:=at_ j hjs;rw[e1,evs _ t'];exact ZM.mpr hj2
 .obtain⟨t',hi',e1⟩:=at_ m hm;rw[e1,evs _ t',Bool.eq_false_iff];exact λz=>hj3 m hi' hmj (ZM.mp z)
def JA:T->Option (List T)
 |.nd false .lst l=>some l
 |.nd false .rl l=>some l
 |_=>none
theorem zkg{t:T}{l:List T}(h:JA t=some l):∃k,t=.nd false k l/\HZ t=true:=by
 unfold JA at h;split at h
 .cases h;exact⟨_,rfl,rfl⟩
 .cases h;exact⟨_,rfl,rfl⟩
 .cases h
def Iz(m mk:AG):AG:=λτ=>match m τ with
  |some (.v t false)=>(match JA t with
   |some l=>(match FR l with
    |some ys=>(match mk τ with
      |some (.v (.str y) _)=>(match CK ys y with
        |some j=>if ys.length<1000000 then some (.v (.int j) false) else none
        |none=>none)
      |_=>none)
    |none=>none)
   |none=>none)
  |_=>none
theorem zj7(ho:PE X o (tM X.K E ca m))(hk:PE X k (tM X.K E ca mk))(hbase:attributeBase o "index" X.env (eval o X.env)=eval o X.env)(hs:starEach [k] X.env=[(false,eval k X.env)])(hline:(apos.endLine == cpos.line)=true) :
    PE X (.Call (.Attribute o "index" apos) [k] [] cpos) (tM X.K E ca (Iz m mk)):=by
  refine PE.weak (Ka ybv PySem.F.slot_list_index PySem.F.type_list_index zha ho (DH hk EJ hs) hbase (by rw[hs];rfl) hline hs rfl) λσ H Q h=>?_
  obtain⟨F,τ,R,S,q⟩:=h;refine⟨F,τ,R,S,?_⟩;unfold Iz at q;cases hm:m τ with
  |none=>simp only[hm]at q<;>exact q.elim
  |some r =>
    cases r with
    |x c=>simp only[hm]at q<;>exact q.elim
    |v t b =>
      cases b with
      |true=>simp only[hm]at q<;>exact q.elim
      |false =>
       simp only[hm]at q;cases hls:JA t with
       |none=>simp only[hls]at q<;>exact q.elim
       |some l =>
        simp only[hls]at q;obtain⟨kk,rfl,hL⟩:=zkg hls;intro F1 H1 x B e1 g1;have g0:Rp X.K F1 H1 (.nd false kk l) x B:=g1;obtain⟨p,rfl⟩:=g0.ref_inv;obtain⟨xs0,hN,hr0⟩:=Ai.node g0;obtain⟨p1,xs,e0,sqq,hr⟩:=LM hL (Ai.of_node (H:=F1) hN hr0);injection e0 with e0
        subst e0;cases hy:FR l with
        |none=>simp only[hy]at q<;>exact q.elim
        |some ys =>
          simp only[hy]at q;have hxs:=Mq hy hr;refine⟨.inl ⟨rfl,xs,sqq F1 H1 (A2.refl _) e1.fh⟩,F1,τ,R,S.ext e1,?_⟩;cases hk2:mk τ with
          |none=>simp only[hk2]at q<;>exact q.elim
          |some r =>
            cases r with
            |x c=>simp only[hk2]at q<;>exact q.elim
            |v t2 b2 =>
              cases t2 with
              |str y =>
                simp only[hk2]at q;intro F2 H2 z B2 e2 g2;have hz:=G7 g2;subst hz;cases hj:CK ys y with
                |none=>simp only[hj]at q<;>exact q.elim
                |some j =>
                  simp only[hj]at q
                  by_cases hl:ys.length<1000000
                  . rw[if_pos hl]at q
                    refine⟨p,ys,y,j,rfl,rfl,by rw[<- hxs];exact sqq F2 H2 e2.ff e2.fh,hj,hl,?_⟩
                    exact q F2 H2 _ R0 ((e1.trans e2).mono λ_ z=>z.elim) (.int _)
                  . rw[if_neg hl]at q
                    exact q.elim
              |_=>simp only[hk2]at q<;>exact q.elim
end
noncomputable def HI(i:Nat)(cs:List (Str×Addr))(u h:AH):AH:=λτ=>match u τ with
 |some (.xc c τ')=>(match cs.lookup (GW c) with
  |some C=>if i<τ'.length then (match h (τ'.set i (some (.obj (.exn C) (GV c)))) with
   |some (.nx τ2)=>some (.nx (τ2.set i none))
   |some (.rt t)=>some (.rt t)
   |_=>none) else none
  |none=>none)
 |r=>r
section
variable {X:Cx}{E:L2.St->XK}{ca:Str->Value}{mu:Bool}{i:Nat}{x n:Str}{np pos hpos:Pos}{body suite:List Stmt}{b₀:Stmt}{u h:AH}{cs:List (Str×Addr)}
theorem StR.put{K}{t:T}(S:StR K F H σ τ R)(hi:i<τ.length)(r:Rp K F H t v R0):StR K F H (σ.set i (some v)) (τ.set i (some t)) (λj=>if j=i then R0 else R j):=by
 refine⟨S.fh,by simpa using S.len,λj t' e=>?_,λj a z=>?_,λj k a hjk z1 z2=>?_⟩
 .by_cases hj:j=i
  .subst hj;rw[yal hi]at e;cases e;exact⟨v,yal (by rw[S.len];exact hi),by simpa using r⟩
  .rw[yah (yao hj)]at e;obtain⟨y,e1,r1⟩:=S.rep j t' e
   grind
 .by_cases hj:j=i
  .simp only[hj,ye4]at z;exact z.elim
  .simp only[hj,yeg]at z;obtain⟨t',e⟩:=S.out j a z
   grind
 .by_cases hj:j=i
  .simp only[hj,ye4]at z1;exact z1.elim
  .by_cases hk:k=i
   .simp only[hk,ye4]at z2;exact z2.elim
   .simp only[hj,yeg]at z1;simp only[hk,yeg]at z2;exact S.dis j k a hjk z1 z2
theorem StR.gone{K}{F H:Hp}{i:Nat}(S:StR K F H σ τ R):StR K F H (σ.set i none) (τ.set i none) (λj=>if j=i then R0 else R j):=by
 refine⟨S.fh,by simpa using S.len,λj t' e=>?_,λj a z=>?_,λj k a hjk z1 z2=>?_⟩
 .by_cases hj:j=i
  .grind
  .rw[yah (yao hj)]at e;obtain⟨y,e1,r1⟩:=S.rep j t' e
   grind
 .by_cases hj:j=i
  .simp only[hj,ye4]at z;exact z.elim
  .simp only[hj,yeg]at z;obtain⟨t',e⟩:=S.out j a z
   grind
 .by_cases hj:j=i
  .simp only[hj,ye4]at z1;exact z1.elim
  .by_cases hk:k=i
   .simp only[hk,ye4]at z2;exact z2.elim
   .simp only[hj,yeg]at z1;simp only[hk,yeg]at z2;exact S.dis j k a hjk z1 z2
theorem R8(h:tot (λj=>if j=i then R0 else R j) a):tot R a:=by
 obtain⟨j,z⟩:=h
 by_cases hj:j=i
 .simp only[hj]at z;exact z.elim
 .simp only[hj]at z;exact⟨j,z⟩
theorem zg3{K }      (fa:F a=none)(hX:GD (upd H a o) a C dx)(hp:Jl F c dx):Rp K (upd F a o) (upd H a o) (.obj (.exn C) (GV c)) (.ref a) R0:=by
 refine .obj ⟨dx,hX.of λu z=>Bd.trans (Bd.symm.trans z),λv hv=>(hp v hv).of λb u e=>(Ak (Bi e fa)).trans e⟩ ?_ λi t x h1 h2=>?_
 .unfold GV Ii
  grind
 .unfold GV at h1;unfold Ii at h2;cases hq:EI c with
  |none=>grind
  |some n =>
   rw[hq]at h1 h2;cases i with
   |zero=>cases h1;cases h2;exact .int _
   |succ i=>cases h1
theorem s_try(T:ECls X.K X.mg x)(hcs:∀c C,cs.lookup c=some C->ca c=.ref C/\PySem.W.subIn X.K (.ref C) (.ref T.C)=some true)(hst:X.stack=X.env::X.outer)(hf:X.env.frame=some X.env.locals)(hN:X.N.Nodup)(hi:X.N[i]?=some n)(hloc:X.env.scope.names.lookup n=some .local)
  (hb:∀(E' ) pins xe,BK (Dy X pins xe) E'->BI (Dy X pins xe) body (tS X.K E' ca mu u)) (hh:∀a,Qj a i (Gg X a) (b₀::suite) (tS X.K E00 ca mu h)) (hg:Gl X x) (hdb:(x == "__debug__")=false) :
  PS X (.Try body [.ExceptHandler (some (.Name x np)) (some n) (b₀::suite) hpos] [] [] pos) (tS X.K E ca mu (HI i cs u h)):=by
 intro pins s σ H D I hq;obtain⟨F,τ,R,S,q⟩:=hq;let E' :=λσ1 cls dx H1=>∃c τ' F' R',u τ=some (.xc c τ')/\cls=ca (GW c)/\Jl F' c dx/\Stp F H (tot R) F' H1 (tot R')/\StR X.K F' H1 σ1 τ' R'
 refine zmn T hst hf hN hi hloc (λpins xe hp=>hb E' pins xe hp) hh hg hdb pins s σ H D I ⟨⟨F,τ,R,S,?_⟩,?_⟩
 .unfold HI at q;cases hu:u τ with
  |none=>rw[hu]at q;exact q
  |some o =>
   cases o with
   |nx τ'=>rw[hu]at q;exact q
   |rt t=>rw[hu]at q;exact q
   |bk τ'=>rw[hu]at q;exact q
   |ct τ'=>rw[hu]at q;exact q
   |xc c τ'=>exact λF' H' σ' R' st S' dx hp=>⟨c,τ',F',R',hu,rfl,hp,st,S'⟩
 .intro σ1 cls dx H1 ⟨c,τ',F',R',hu,hcl,hp,st,S'⟩;unfold HI at q;simp only[hu]at q;cases hl:cs.lookup (GW c) with
  |none=>simp only[hl]at q<;>exact q.elim
  |some C =>
   simp only[hl]at q;obtain⟨h1,h2⟩:=hcs _ C hl
   by_cases hlen:i<τ'.length
   case neg =>
    rw[if_neg hlen]at q;exact q.elim
   rw[if_pos hlen]at q;refine⟨C,hcl.trans h1,h2,λa o ha hX=>?_⟩
   have fa :=Fe S'.fh ha;have e1:Ext F' H1 (upd F' a o) (upd H1 a o) R0:=Ext.new S'.fh ha;have S2:=S'.ext e1;have rx:=zg3 (K:=X.K) fa hX hp;have S3:=S2.put hlen rx;have st2:Stp F H (tot R) (upd F' a o) (upd H1 a o) (tot λj=>if j=i then R0 else R' j):=(st.trans e1.stp0).mono λb z=>R8 z
   refine⟨_,_,_,S3,?_⟩;cases hh:h (τ'.set i (some (.obj (.exn C) (GV c)))) with
   |none=>simp only[hh]at q<;>exact q.elim
   |some o =>
    simp only[hh]at q;cases o with
    |nx τ2 =>
     intro F4 H4 σ4 R4 st4 S4;exact q F4 H4 (σ4.set i none) _ ((st2.trans st4).mono λb z=>R8 z) S4.gone
    |rt t=>exact λF4 H4 x B st4 r4=>q F4 H4 x B (st2.trans st4) r4
    |bk _=>exact q.elim
    |ct _=>exact q.elim
    |xc _ _=>exact q.elim
end
def EN(tb:List (Addr×Bool)):T->Option T
 |.obj (.exn C) _=>(match tb.lookup C with
  |some b=>some (.bl b)
  |none=>none)
 |_=>none
section
variable {X:Cx}{E:L2.St->XK}{ca:Str->Value}{m:AG}{e:Expr}{pos p p2:Pos}{c:Str}{v:V}{tb:List (Addr×Bool)}
theorem U1(hg:Gl X "isinstance")(hm:X.mg "isinstance"=none)(hv:PE X (.Name c p2) (tC v))(hvv:∃D,v=.ref D\/∃T,v=.ty T)(htb:∀C b,tb.lookup C=some b->ExcK X.K C/\PySem.W.kitOne X.K (.ref C) (Pp v)=some b)(ha:PE X e (tM X.K E ca m))(he:starEach [e,.Name c p2] X.env=(false,eval e X.env)::starEach [.Name c p2] X.env) :
  PE X (.Call (.Name "isinstance" p) [e,.Name c p2] [] pos) (tM X.K E ca (BN (g1 (EN tb)) (AB m AD))):=by
 refine PE.weak (Ih (zib) hg hm yc6 (DH ha (DH hv EJ) he) (by decide) (by decide) he rfl) λσ H Q h=>?_
 refine(FP (FQ h)).mono λx H1 h1=>?_
 obtain⟨F,ts,w,fh,rs,e,q⟩:=FO h1;unfold g1 at e;split at e
 .obtain⟨x1,xs1,e1,r1,rs1⟩:=rs.inv;cases e1;unfold EN at e;split at e
  .rename_i C l;split at e
   .rename_i b hb;cases e;obtain⟨k1,k2⟩:=htb C b hb;obtain⟨a,xs,rfl,_,hF,_,_⟩:=r1.obj_inv;have hF' :=hF.choose_spec.1.x;exact⟨a,C,v,b,rfl,hF'.of (fh a),k1,hvv,k2,q.bl fh⟩
   .cases e
  .cases e
 .cases e
end
def Kd.isLst:Kd->Bool
 |.lst=>true
 |_=>false
section
variable {X:Cx}{E:L2.St->XK}{ca:Str->Value}{mu:Bool}{i j:Nat}{tg it c:Expr}{ret:List Stmt}{mc:AG}{k:T}{ip pos:Pos}
end
section
variable {X:Cx}{E:L2.St->XK}{ca:Str->Value}{mu:Bool}{i j:Nat}{tg it e:Expr}{m:AG}{t:T}{p1 apos cpos pos bpos:Pos}{x:Str}
end
section
variable {X:Cx}{E:L2.St->XK}{ca:Str->Value}{m mk ma:AG}{o k e a:Expr}{pos apos cpos p p2:Pos}
def rSlS:V->Option Int->Option Int->Hp->VK->Prop:=λx lo hi H Q=>∃z:Str,x=.str z/\z.length<=BV/\Q (.str (Txt.slice z lo hi)) H
theorem zlu:Gn X rSlS:=by
 intro pins s σ H x v vl vu lo hi sl Q I rx hs pl pu q;obtain⟨z,rfl,hz,q⟩:=q;obtain⟨t,rfl⟩:=(rx);obtain⟨ob,ho,hc,hd⟩:=hs;rw[Eb]at hz;cases pl with
 |none =>
  cases pu with
  |none=>exact⟨"str",_,ybs.lookup,ye3 _ _ _,yek (l:=none) (u:=none) (st:=none) ⟨ob,ho,hc,hd⟩ rfl (yel ⟨yak (ydl z _ _) hz,λt' k=>⟨.str _,H,I.tok _,⟨_,rfl⟩,q⟩⟩)⟩
  |int j uj=>exact⟨"str",_,ybs.lookup,ye3 _ _ _,yek (l:=none) (u:=some (j,uj)) (st:=none) ⟨ob,ho,hc,hd⟩ rfl (yel ⟨yak (ydl z _ _) hz,λt' k=>⟨.str _,H,I.tok _,⟨_,rfl⟩,q⟩⟩)⟩
 |int i ui =>
  cases pu with
  |none=>exact⟨"str",_,ybs.lookup,ye3 _ _ _,yek (l:=some (i,ui)) (u:=none) (st:=none) ⟨ob,ho,hc,hd⟩ rfl (yel ⟨yak (ydl z _ _) hz,λt' k=>⟨.str _,H,I.tok _,⟨_,rfl⟩,q⟩⟩)⟩
  |int j uj=>exact⟨"str",_,ybs.lookup,ye3 _ _ _,yek (l:=some (i,ui)) (u:=some (j,uj)) (st:=none) ⟨ob,ho,hc,hd⟩ rfl (yel ⟨yak (ydl z _ _) hz,λt' k=>⟨.str _,H,I.tok _,⟨_,rfl⟩,q⟩⟩)⟩
def G3(ma:AG)(ml mh:Option (AG)):AG:=λτ=>match ma τ with
 |some (.v (.str z) _)=>(match EL ml τ,EL mh τ with
  |some lo,some hi=>if z.length<=BV then some (.v (.str (Txt.slice z lo hi)) false) else none
  |_,_=>none)
 |_=>none
theorem zgs{lo hi}(ha:PE X a (tM X.K E ca ma))(hl:PO X lo (GJ X.K ml))(hh:PO X hi (GJ X.K mh)):PE X (.Subscript a (.Slice lo hi none p2) pos) (tM X.K E ca (G3 ma ml mh)):=by
 refine PE.weak (Up zlu ha hl hh) λσ H Q h=>?_
 obtain⟨F,τ,R,S,q⟩:=h;refine⟨F,τ,R,S,?_⟩;unfold G3 at q;cases hm:ma τ with
 |none=>rw[hm]at q;exact q.elim
 |some r =>
  rw[hm]at q;cases r with
  |x c=>exact q.elim
  |v t bb =>
   cases t with
   |str z =>
    intro F1 H1 x B e1 g1;have hx:=G7 g1;subst hx;have e1':Ext F H F1 H1 R0:=e1.mono λ_ z=>z.elim
    have S1:=S.ext e1';cases h1:EL ml τ with
    |none=>simp only[h1]at q<;>exact q.elim
    |some lo' =>
     refine⟨F1,τ,R,lo',S1,h1,λF2 H2 e2=>?_⟩
     have S2:=S1.ext e2;cases h2:EL mh τ with
     |none=>simp only[h1,h2]at q<;>exact q.elim
     |some hi' =>
      simp only[h1,h2]at q;refine⟨F2,τ,R,hi',S2,h2,λF3 H3 e3=>?_⟩
      by_cases hz:z.length<=BV
      .rw[if_pos hz]at q;exact⟨z,rfl,hz,q F3 H3 _ R0 (e1'.trans0 (e2.trans0 e3)) (.str _)⟩
      .rw[if_neg hz]at q;exact q.elim
   |_=>exact q.elim
def rIxD:R2:=λx y H Q=>∃a kvs k v,x=.ref a/\y=.str k/\H a=some (.dK kvs)/\DE kvs (Sum.inr k)=some v/\Q v H
theorem XY(hu:X.A.units+1<cLine):Eo X rIxD:=by
 intro value slice pins s σ H x y v u Q I rx ry h hs;obtain⟨a,kvs,k,w,rfl,rfl,hH,hv,q⟩:=h;cases rx;have g :=hv▸IH.k hH
 have hT:s.TypeIs (.ref a) "dict":=by
  obtain⟨_,_,vs,_,dd⟩:=ZG I.hok hH;exact dd.typeIs
 refine ydt ?_;refine ydt (wpAny_specialOf hT PySem.F.slot_dict_getitem.lookup ?_)
 have As:wpAny (model X.prog X.w) X.A (subscripted slice false (.ref a) u) (λr s₃=>wpAny (model X.prog X.w) X.A (letTemporaryGo value (.ref a) r >>= λ_=>pure r) (EP X pins σ Q) X.xe s₃) X.xe s:=by
  rw[hs];exact wpAny_operating (ydq (zfx hu I g (ry) λw' s3 I3 rw'=>⟨w,H,I3,rw',q⟩) (λr s₃ h₃=>ydt (wpAny_letTemporaryGo (ydx h₃))) λ_ _ x=>x)
 first|exact ydx (ydt As)|rfl|rfl
def DL(m mk:AG):AG:=λτ=>match m τ with
 |some (.v (.obj (.sdc ks) l) _)=>(match mk τ with
  |some (.v (.str y) _)=>(match CK ks y with
   |some j=>(match l[j]? with
    |some u=>if u.sh then some (.v u false) else none
    |none=>none)
   |none=>none)
  |_=>none)
 |_=>none
theorem Ma:∀{ks} {xs} {y} {j} {v},CK ks y=some j->xs[j]?=some v->DE (CJ ks xs) (Sum.inr y)=some v
 |[],xs,y,j,v,h,_=>by simp[CK]at h
 |k::ks,[],y,j,v,_,h=>by simp at h
 |k::ks,x::xs,y,j,v,h,hx=>by
  show DE ((Sum.inr k,x)::CJ ks xs) (Sum.inr y)=some v;unfold CK at h;rw[yde]at h
  by_cases e:k=y
  .rw[@decide_eq_true _ (Classical.propDecidable _) e]at h;simp only[ye4,ydi]at h;subst h;rw[KA (by rw[e])]
   grind
  .rw[@decide_eq_false _ (Classical.propDecidable _) e]at h;simp only[yc0,yeg,yad]at h;obtain⟨j',h1,rfl⟩:=h;rw[KC (λz=>e (Sum.inr.inj z))]
   exact Ma (h1) (by grind)
theorem r_gt(hu:X.A.units+1<cLine)(ho:PE X o (tM X.K E ca m))(hk:PE X k (tM X.K E ca mk))(hs:IC k):PE X (.Subscript o k pos) (tM X.K E ca (DL m mk)):=by
 refine PE.weak (K9 (XY hu) ho hk hs) λσ H Q h=>?_
 obtain⟨F,τ,R,S,q⟩:=h;refine⟨F,τ,R,S,?_⟩;unfold DL at q;cases hm:m τ with
 |none=>rw[hm]at q;exact q.elim
 |some r =>
  rw[hm]at q;cases r with
  |x c=>exact q.elim
  |v t b =>
   cases t with
   |obj kd l =>
    cases kd with
    |sdc ks =>
     simp only at q;intro F1 H1 x B e1 g1;obtain⟨r1,hB⟩:=LO g1;subst hB;obtain⟨a,xs,rfl,_,⟨hl1,hF⟩,el,cc⟩:=r1.obj_inv;refine⟨F1,τ,R,S.ext e1,?_⟩;cases hk2:mk τ with
     |none=>rw[hk2]at q;exact q.elim
     |some r2 =>
      rw[hk2]at q;cases r2 with
      |x c=>exact q.elim
      |v t2 b2 =>
       cases t2 with
       |str y =>
        simp only at q;intro F2 H2 z B2 e2 g2;have hz:=G7 g2;subst hz;have e2':Ext F1 H1 F2 H2 R0:=e2.mono λ_ z=>z.elim
        cases hj:CK ks y with
        |none=>simp only[hj]at q<;>exact q.elim
        |some j =>
         simp only[hj]at q;cases hu2:l[j]? with
         |none=>simp only[hu2]at q<;>exact q.elim
         |some u =>
          simp only[hu2]at q
          by_cases hsh:u.sh=true
          .rw[if_pos hsh]at q;have hjl:=(ya3.mp hu2).1;have hx:xs[j]?=some xs[j]:=ya0 (by omega)
           have hc:=(cc j u _ hu2 hx).move (H':=H2) hsh e2'.ff;exact⟨a,_,y,_,rfl,rfl,e2'.hh _ _ (e1.fh _ _ hF),Ma hj hx,q F2 H2 _ R0 (e1.trans0 e2') hc⟩
          .rw[if_neg hsh]at q;exact q.elim
       |_=>exact q.elim
    |_=>exact q.elim
   |_=>exact q.elim
def tKys(to:TE):TE:=λσ H Q=>to σ H λx H1=>∃a ks xs,x=.ref a/\ks.length=xs.length/\H1 a=some (.dK (CJ ks xs))/\∀p,H1 p=none->Q (.ref p) (upd H1 p (.lst (ks.map V.str)))
theorem XM:∀{ks} {xs},ks.length=xs.length->(CJ ks xs).length=ks.length
 |[],[],_=>rfl
 |[],_::_,h=>by simp at h
 |_::_,[],h=>by simp at h
 |k::ks,x::xs,h=>by
  show(CJ ks xs).length+1=ks.length+1;rw[XM (by simpa using h)]
theorem XS:∀{ks} {xs} {vs},ks.length=xs.length->KV (CJ ks xs) vs->vs.map (·.1)=ks.map Sum.inr
 |[],[],vs,_,r=>by
  have r' :=(r);cases r'
  rfl
 |[],_::_,_,h,_=>by simp at h
 |_::_,[],_,h,_=>by simp at h
 |k::ks,x::xs,vs,h,r=>by
  have r' :=r;cases r' with
  |@cons _ q _ qs hd tl =>
   rw[yaq,yaq,<- hd.1,XS (by simpa using h) tl]
theorem zn2(hc:X.calm=true)(hg:Gl X "list")(hm:X.mg "list"=none)(ho:PE X o to)(hs:starEach [o] X.env=[(false,eval o X.env)]) :
  PE X (.Call (.Name "list" p) [o] [] p2) (tKys to):=by
 intro pins s σ H Q I h;refine ye2 (Fm I hg hm yc2 ?_ (by decide) (by decide))
 refine yb4 ?_ (by rw[hs];rfl) rfl
 rw[hs];show wpAny _ _ (spliced ((false,eval o X.env)::backTo p2 (starEach [] X.env))) _ _ s;refine Calls.spliced_cons (AU (ho pins s σ H _ I h) λv s1 ⟨x,H1,I1,r1,q1⟩=>?_)
 obtain⟨a,ks,xs,rfl,el,hd,q⟩:=q1;cases r1;obtain⟨z,hsm,vs,rel,o',es,ep,ho',r⟩:=(I1.hok a _ hd);have hat:s1.heap.DictAt (Ci X.prog X.w) a vs ep:=⟨o',es,ho',r⟩;refine Calls.spliced_nil ?_;refine PySem.W.kdl_call (PySem.W.kdl_dict hsm) (I1.ok.hd hc) hat (by rw[<- znz rel];exact z) λh' tk acc' c' hk hD hacc=>?_
 have hkeys:=XS el rel;refine⟨.ref _,_,I1.laid hk (ya9 _) ?_,rfl,q _ (I1.hok.fresh (ya9 _))⟩;refine⟨by rw[ya1,<- XM el];exact z,acc'.toList,c',?_,by rw[hD]⟩
 have hlen:acc'.toList.length=ks.length:=by
  rw[Array.length_toList,hacc.1,<- ya1,hkeys,ya1]
 have key:∀(n ) (k ) (v ),ks[n]?=some k->acc'.toList[n]?=some v->∃t,v=Value.str k t:=λn k v h1 h2=>by
  obtain⟨k',x',e1,e2⟩:=hacc.2 n v (by rw[<- Array.getElem?_toList];exact h2)
  have e3:(vs.map (·.1))[n]?=some k':=by rw[ya8,e1];rfl
  rw[hkeys,ya8,h1]at e3;have e4 :=(yap e3).symm;subst e4
  rcases EM (show Fo (Sum.inr k) v=true from e2) with ⟨i,t,e5,_⟩|⟨x,t,e5,e6⟩
  .cases e5
  .cases e5;exact⟨t,e6⟩
 clear hD hk hacc
 generalize acc'.toList=as at hlen key
 clear hd q hkeys
 have go:∀(ks:List Str) (as ),as.length=ks.length->(∀(n:Nat) (k ) (v ),ks[n]?=some k->as[n]?=some v->∃t,v=Value.str k t)->AZ (ks.map V.str) as:=by
  intro ks
  induction ks with
  |nil =>
   intro as hl _;cases as with
   |nil=>exact .nil
   |cons _ _=>simp at hl
  |cons k ks ih =>
   intro as hl key;cases as with
   |nil=>simp at hl
   |cons v as=>exact .cons (key 0 k v rfl rfl) (ih as (by simpa using hl) λn k v h1 h2=>key (n+1) k v (by simpa using h1) (by simpa using h2))
 exact go ks as hlen key
def Fk(m:AG):AG:=λτ=>match m τ with
 |some (.v (.obj (.sdc ks) _) _)=>some (.v (.own (ks.map T.str)) false)
 |_=>none
theorem zgq{K}(ks:List Str):Ai K F (ks.map T.str) (ks.map V.str):=⟨by simp,λi t x h1 h2=>by
 rw[ya8]at h1 h2;cases h:ks[i]? with
 |none=>grind
 |some k =>
  rw[h]at h1 h2;cases h1;cases h2;exact .str k⟩
theorem r_kys(hc:X.calm=true)(hg:Gl X "list")(hm:X.mg "list"=none)(ho:PE X o (tM X.K E ca m))(hs:starEach [o] X.env=[(false,eval o X.env)]):PE X (.Call (.Name "list" p) [o] [] p2) (tM X.K E ca (Fk m)):=by
 refine PE.weak (zn2 hc hg hm ho hs) λσ H Q h=>?_
 obtain⟨F,τ,R,S,q⟩:=h;refine⟨F,τ,R,S,?_⟩;unfold Fk at q;cases hm2:m τ with
 |none=>rw[hm2]at q;exact q.elim
 |some r =>
  rw[hm2]at q;cases r with
  |x c=>exact q.elim
  |v t b =>
   cases t with
   |obj kd l =>
    cases kd with
    |sdc ks =>
     intro F1 H1 x B e1 g1;obtain⟨r1,hB⟩:=LO g1;subst hB;obtain⟨a,xs,rfl,_,⟨hl1,hF⟩,el,cc⟩:=r1.obj_inv;refine⟨a,ks,xs,rfl,hl1,e1.fh _ _ hF,λp hp=>?_⟩
     have gg:CO X.K F1 H1 (.own (ks.map T.str)) Q:=λF' H' z C e g=>q F' H' z C (e1.trans0 e) g
     exact gg.list e1.fh (zgq ks) hp
    |_=>exact q.elim
   |_=>exact q.elim
structure ICls(K:k6)(C:Addr):Prop where
 c:Cls K C
 a:PySem.W.findIn K (.ref C) "__class__"=some (some (.builtin "object.__class__"))
 n:PySem.W.specialIn K (.builtin "object.__class__") "__get__"=some (some (.builtin "getset_descriptor.__get__"))
 k:PySem.W.takesIn K (.builtin "object.__class__")=some true
 m:PySem.W.mroIn K C (.type "object")=some true
def Oz(tb:List (Addr×Bool)):Ob->Option T
 |.ins C _=>(tb.lookup C).map .bl
 |_=>none
def KE:List String:=["NoneType","bool","int","str","list","tuple","dict"]
def JM(tb:List (Addr×Bool)):T->Option T
 |.obj o _=>Oz tb o
 |t=>(KG t).map λ_=>.bl false
theorem zid(hC:ICls X.K C)(hk:PySem.W.kitOne X.K (.ref C) (.ref D)=some b):Bb X (.builtin "isinstance") (λxs H Q=>∃a dx fs,xs=[.ref a,.ref D]/\H a=some (.ins C dx fs)/\Q (.bl b) H):=by
 intro pins s σ H xs us Q I r h;obtain⟨a,dx,fs,rfl,e,q⟩:=h;obtain⟨u,w',rfl,rx,ry⟩:=GH r;cases ry;exact Oy I rx (.ins e hC.c hC.a hC.n hC.k hC.m) hk λtk=>⟨.bl b,H,I.tok _,rfl,q⟩
theorem r_isC(hC:(∀C b,tb.lookup C=some b->ICls X.K C/\PySem.W.kitOne X.K (.ref C) (.ref D)=some b)/\(KE.all λa=>PySem.W.kitOne X.K (.type a) (.ref D) == some false)=true)(hg:Gl X "isinstance")(hm:X.mg "isinstance"=none)(hgc:Gl X c)(hmc:X.mg c=some (.ref D))(hd:(c == "__debug__")=false)(ha:PE X e (tM X.K E ca m))(he:starEach [e,.Name c p2] X.env=(false,eval e X.env)::starEach [.Name c p2] X.env) :
  PE X (.Call (.Name "isinstance" p) [e,.Name c p2] [] pos) (tM X.K E ca (BN (g1 (JM tb)) (AB m AD))):=by
 have hR:Bb X (.builtin "isinstance") (λxs H Q=>(∃C b a dx fs,tb.lookup C=some b/\xs=[.ref a,.ref D]/\H a=some (.ins C dx fs)/\Q (.bl b) H)\/∃x a,xs=[x,.ref D]/\a∈KE/\(TyOf X.K H x (.type a)\/a="dict"/\∃p ob kvs,x=.ref p/\H p=some (.frz ob (.dK kvs)))/\Q (.bl false) H):=λpins s σ H xs us Q I r h=>by
  rcases h with ⟨C,b,a,dx,fs,hl,h⟩|⟨x,a,rfl,hm,ty,q⟩
  .exact zid (hC.1 C b hl).1 (hC.1 C b hl).2 pins s σ H xs us Q I r ⟨a,dx,fs,h⟩
  .have hk :=eq_of_beq (yai.mp hC.2 a hm);obtain⟨u,w',rfl,rx,ry⟩:=GH r;cases ry
   rcases ty with ty|⟨rfl,p,ob,kvs,rfl,hp⟩
   .exact Oy I rx ty hk λtk=>⟨.bl false,H,I.tok _,rfl,q⟩
   .cases rx;exact X3 I hp hk λtk=>⟨.bl false,H,I.tok _,rfl,q⟩
 refine PE.weak (Ih hR hg hm yc6 (DH ha (DH (NR (v:=.ref D) hgc hmc rfl hd) EJ) he) (by decide) (by decide) he rfl) λσ H Q h=>?_
 refine(FP (FQ h)).mono λx H1 h1=>?_
 obtain⟨F,ts,w,fh,rs,e,q⟩:=FO h1;unfold g1 at e;split at e
 .obtain⟨x1,xs1,e1,r1,rs1⟩:=rs.inv;cases e1;unfold JM at e;split at e
  .unfold Oz at e;split at e
   .obtain⟨b,hb,rfl⟩:=yad.mp e;obtain⟨a,xs,rfl,_,⟨dx,hF⟩,_,_⟩:=r1.obj_inv;exact .inl ⟨_,b,a,dx,_,hb,rfl,fh _ _ hF,q.bl fh⟩
   .cases e
  .obtain⟨a,ha,rfl⟩:=yad.mp e;obtain⟨ty,hm⟩:=RY fh r1 ha;exact .inr ⟨_,a,rfl,hm,ty,q.bl fh⟩
 .cases e
end
open Classical in
def HJ(i:Nat)(mk m:AG):AH:=λτ=>match m τ with
 |some (.v t false)=>(match E6 (τ.getD i none) with
  |some (ks,l)=>(match mk τ with
   |some (.v (.str k) _)=>if k∉ks/\ks.length<100000 then some (.nx (τ.set i (some (.osd (ks++[k]) (l++[t]))))) else none
   |some (.v _ _)=>none
   |some (.x c)=>some (.xc c τ)
   |none=>none)
  |none=>none)
 |some (.v _ true)=>none
 |some (.x c)=>some (.xc c τ)
 |none=>none
theorem Ux{τ:AL}(h:E6 (τ.getD i none)=some (ks,l)):τ[i]?=some (some (.osd ks l)):=by
 have:=Uy h;rw[yam]at this;cases e:τ[i]? with
 |none=>rw[e]at this;cases this
 |some o=>rw[e]at this;rw[<- this];rfl
def rIns:V->List V->Hp->VK->Prop:=λx vs H Q=>∃l xs i y,x=.ref l/\vs=[.int i,y]/\H l=some (.lst xs)/\0<=i/\i<=xs.length/\xs.length<sizeLine/\Q .non (upd H l (.lst (xs.take i.toNat++y::xs.drop i.toNat)))
theorem RQ:∀{xs:List V} {us:List Value} (k:Nat),AZ xs us->AZ (xs.take k) (us.take k)/\AZ (xs.drop k) (us.drop k)
 |xs,us,0,h=>⟨by simpa using (show AZ [] [] from .nil),by simpa using h⟩
 |[],us,k+1,h=>by cases h;exact⟨.nil,.nil⟩
 |x::xs,us,k+1,h=>by
  cases h with
  |cons r q =>
   obtain⟨h1,h2⟩:=RQ k q;exact⟨.cons r h1,h2⟩
theorem znr{X:Cx}:Qm X "list.insert" rIns:=by
 intro pins s σ H x vs v us Q I rx rv h;obtain⟨l,xs,i,y,rfl,rfl,hH,h0,h1,hz,q⟩:=h;cases rx;obtain⟨w,u,rfl,rw',ru⟩:=rv.two;obtain⟨t,rfl⟩:=rw';obtain⟨z,its,n,r,hl,e⟩:=I.lstM hH;have hlen:its.length=xs.length:=r.length.symm;have hlim:sizeLine<2 ^ 62:=by rw[ydz];decide
 refine ye5 PySem.F.slot_list_insert ⟨_,e,rfl⟩ PySem.F.entry_list_insert (PySem.F.args_list_insert_3 _ _ _) (PySem.AutoSeq1.list_insert_list_int_val_1 l its.toArray n i t u ?_ (by grind)) ⟨e,?_⟩
 .rw[fitsIndex_both (by omega) (by omega)];simp
 obtain⟨c1,c2⟩:=RQ i.toNat r;refine⟨.non,_,I.lset hH e (its':=its.take i.toNat++u::its.drop i.toNat) ?_ (c1.append (.cons ru c2)) ?_,rfl,q⟩
 .have h3:¬ i<0:=by omega
  have h4:min i.toNat its.length=i.toNat:=by omega
  simp[h3,h4,List.extract_eq_drop_take];exact yct (by rw[ydm];omega)
 .simp
  omega
theorem ins_get{α}(l:List α)(t:α){n j:Nat}(h:n<=l.length):(l.take n++t::l.drop n)[j]?=if j<n then l[j]? else if j=n then some t else l[j - 1]?:=by
 rcases Nat.lt_trichotomy j n with w|w|w
 .rw[if_pos w,yau (by rw[yat];omega),List.getElem?_take_of_lt w]
 .subst w;rw[if_neg (yaw _),if_pos rfl,yaz (by rw[yat];omega),yat,yd5 h,Nat.sub_self]
  rfl
 .obtain⟨d,rfl⟩:∃d,j=n+(d+1):=⟨j - n - 1,by omega⟩
  rw[if_neg (by omega),if_neg (by omega),yaz (by rw[yat];omega),yat,yd5 h,Nat.add_sub_cancel_left,ybk,ydd]
  rfl
def IZ(i:Nat)(mk m:AG):AH:=λτ=>match Dn τ i with
 |some (kd,l)=>(match mk τ with
  |some (.v (.int k) false)=>(match m τ with
   |some (.v t false)=>if (l.length<BV/\AS l=true/\t.sh=true)/\0<=k/\k<=l.length then some (.nx (τ.set i (some (.nd true kd (l.take k.toNat++t::l.drop k.toNat))))) else none
   |_=>none)
  |_=>none)
 |none=>none
section
variable {X:Cx}{E:L2.St->XK}{ca:Str->Value}{m mk:AG}{e k:Expr}{pos p1 pos2 pos3:Pos}{mu:Bool}{i j:Nat}{x f:Str}
theorem s_dps(hu:X.A.units+1<cLine)(hN:X.N[i]?=some x)(hv:C8 X.env.scope x)(hd:(x == "__debug__")=false)(hcd:(x == "__classdict__")=false)(he:PE X e (tM X.K E ca m))(hk:PE X k (tM X.K E ca mk))(hs:swapsWithSole [.Subscript (.Name x p1) k pos2] e pos.line X.env=pure false)(hw:swappedStores [.Subscript (.Name x p1) k pos2] e X.env=pure none)
  (ha : ∀ v, assign (.Subscript (.Name x p1) k pos2) X.env v = (do
   let ov <- holding [v] (eval (.Name x p1) X.env);let iv <- holding [v,ov] (eval k X.env)
   standAt pos2
   holding [v,ov,iv] (setItem ov iv v)
   release [v,ov,iv] [])) :
  PS X (.Assign [.Subscript (.Name x p1) k pos2] e pos) (tS X.K E ca mu (HJ i mk m)):=by
 refine PS.weak (Ie he (K8 (E5 hN hv hd hcd) hk (SK hu) ha) hs hw rfl) λD σ H h=>?_
 obtain⟨F,τ,R,S,q⟩:=h;refine⟨F,τ,R,S,?_⟩;unfold HJ at q;cases hm:m τ with
 |none=>simp only[hm]at q<;>exact q.elim
 |some r =>
  simp only[hm]at q;cases r with
  |x c=>exact λF' H' e=>q F' H' σ R e.stp0 (S.ext e)
  |v t bb =>
   cases bb with
   |true=>exact q.elim
   |false =>
    intro F1 H1 y B e1 g1;have g1' :=g1;simp only at q;cases ho:E6 (τ.getD i none) with
    |none=>simp only[ho]at q<;>exact q.elim
    |some kl =>
     obtain⟨ks,l⟩:=kl;simp only[ho]at q;have S1:=S.ext e1;have ht:=Ux ho;obtain⟨y2,ey,ry⟩:=S1.rep i _ ht;refine⟨y2,ey,F1,τ,R,S1,?_⟩;cases hkk:mk τ with
     |none=>simp only[hkk]at q<;>exact q.elim
     |some r =>
      simp only[hkk]at q;cases r with
      |x c=>exact λF' H' e=>q F' H' σ R ((e1.stp0).trans e.stp0) (S1.ext e)
      |v tk bk =>
       cases tk with
       |str kk =>
        simp only at q
        by_cases hc:kk∉ks/\ks.length<100000
        .rw[if_pos hc]at q;intro F2 H2 z C e2 g2;have hz:=G7 g2;subst hz;have S2:=S1.ext e2;have ry2:=ry.ext e2;obtain⟨p,xs,Rs,rfl,hA,fp,hp,rs,ek,ds⟩:=ry2.osd_inv;have g2' :=g1'.ext e2;have hB:∀j a,R j a->¬ B a:=λj a z1 z2=>S.apart e1 z2 j z1
         have pB:¬ B p:=hB i p (by rw[hA];exact .inl rfl)
         refine⟨p,CJ ks xs,kk,rfl,rfl,hp,?_,?_⟩
         .rw[XN ek,<- ek,ydz];exact ycg hc.2 (by decide)
         .rw[Uh ek hc.1];have r3:=Uv (k:=kk) rs ek fp ds g2' (λj a z1 z2=>hB i a (by rw[hA];exact .inr ⟨j,z1⟩) z2) pB
          obtain⟨S3,st3⟩:=S2.upd ht ey (by rw[hA];exact .inl rfl) r3 (λa z=>by
           rw[hA]
           rcases z with z|z
           .exact .inl (.inl z)
           .rcases Mw z with w|w
            .exact .inl (.inr w)
            .exact .inr w) hB
          exact q F2 _ σ _ ((e1.stp.trans e2.stp0).trans st3) S3
        .rw[if_neg hc]at q;exact q.elim
       |_=>exact λF' H' z CC e2 g2=>q.elim
def Fd(l:List T)(j:Nat):Option (List T):=match l[j]? with
 |some (.nd true .lst v)=>some v
 |_=>none
theorem ze7(h:Fd l j=some v):l[j]?=some (.own v):=by
 unfold Fd at h
 grind
def Ia(i:Nat)(mk m:AG):AH:=λτ=>match E6 (τ.getD i none) with
 |some (ks,l)=>(match mk τ with
  |some (.v (.str y) false)=>(match CK ks y with
   |some j=>(match Fd l j with
    |some v=>(match m τ with
     |some (.v t false)=>if v.length<BV/\t.sh=true then some (.nx (τ.set i (some (.osd ks (l.set j (.own (v++[t]))))))) else none
     |_=>none)
    |none=>none)
   |none=>none)
  |_=>none)
 |none=>none
theorem s_dap(hu:X.A.units+1<cLine)(hN:X.N[i]?=some x)(hv:C8 X.env.scope x)(hd:(x == "__debug__")=false)(hcd:(x == "__classdict__")=false)(hk:PE X k (tM X.K E ca mk))(hsl:IC k)(he:PE X e (tM X.K E ca m))(hs:starEach [e] X.env=[(false,eval e X.env)])(hline:(apos.endLine == cpos.line)=true) :
  PS X (.Expr (.Call (.Attribute (.Subscript (.Name x p1) k pos2) "append" apos) [e] [] cpos) pos) (tS X.K E ca mu (Ia i mk m)):=by
 refine PS.weak (K6 (Ka ybv PySem.F.slot_list_append PySem.F.type_list_append Wg (K9 (XY hu) (E5 hN hv hd hcd) hk hsl) (DH he EJ hs) rfl (by rw[hs];rfl) hline hs rfl) rfl) λD σ H h=>?_
 obtain⟨F,τ,R,S,q⟩:=h;unfold Ia at q;cases ho:E6 (τ.getD i none) with
 |none=>simp only[ho]at q<;>exact q.elim
 |some kl =>
  obtain⟨ks,l⟩:=kl;simp only[ho]at q;have ht:=Ux ho;obtain⟨y2,ey,ry⟩:=S.rep i _ ht;refine⟨y2,ey,F,τ,R,S,?_⟩;cases hkk:mk τ with
  |none=>simp only[hkk]at q<;>exact q.elim
  |some r =>
   simp only[hkk]at q;cases r with
   |x c=>exact q.elim
   |v tk bk =>
    cases bk with
    |true=>cases tk<;>exact q.elim
    |false =>
    cases tk with
    |str kk =>
     simp only at q;intro F1 H1 z C e1 g1;have hz:=G7 g1;subst hz;cases hj:CK ks kk with
     |none=>simp only[hj]at q<;>exact q.elim
     |some j =>
      simp only[hj]at q;cases hv2:Fd l j with
      |none=>simp only[hv2]at q<;>exact q.elim
      |some v =>
       simp only[hv2]at q;have hlj:=ze7 hv2;have S1:=S.ext e1;have ry1:=ry.ext e1;obtain⟨p,xs,Rs,rfl,hA,fp,hp,rs,ek,ds⟩:=ry1.osd_inv;have hjl:=(ya3.mp hlj).1;have hjx:j<xs.length:=by rw[<- rs.len];exact hjl
       have hx :=ya0 hjx;have rk:=rs.rep j _ _ hlj hx;obtain⟨pd,ys,Rr,exj,hAd,fpd,hpd,ro,dr,_⟩:=rk.own_inv;refine⟨p,_,kk,xs[j],rfl,rfl,hp,Ma hj hx,?_⟩;rw[exj];refine⟨.inl ⟨rfl,ys,A9.of hpd⟩,F1,τ,R,S1,?_⟩;cases hm:m τ with
       |none=>simp only[hm]at q<;>exact q.elim
       |some r =>
        simp only[hm]at q;cases r with
        |x c=>exact q.elim
        |v t bb =>
         cases bb with
         |true=>exact q.elim
         |false =>
          intro F2 H2 y B e2 g2;have g2':=g2;simp only at q
          by_cases hz:v.length<BV/\t.sh=true
          .rw[if_pos hz]at q;have hB:=Rp.r0 g2' hz.2;subst hB;have S2:=S1.ext e2;have rs2:=rs.ext e2;have ry2:=ry1.ext e2;have ro2:=ro.ext e2;have hpd2:=e2.hh _ _ hpd;have fp2:=(ry2.dom (by rw[hA];exact .inl rfl)).1
           have hp2:=e2.hh _ _ hp;have pdj:Rs j pd:=by rw[hAd];exact .inl rfl
           have pne:pd≠p:=λz=>ds j (z▸pdj)
           have fpd2:=(rs2.dom pdj).1;refine⟨pd,ys,y,rfl,rfl,hpd2,by rw[<- ro.len,<- Eb];exact hz.1,?_⟩
           have ro3:RpO X.K F2 (upd H2 pd (.lst (ys++[y]))) (v++[t]) (ys++[y]) _:=(ro2.upd dr).snoc (B:=R0) (g2'.upd (λz=>z.elim)) λ_ _ _ z=>z.elim
           have r3:=GX (k:=.lst) trivial ro3 fpd2 Bd λj z=>by
            by_cases hj:j=v.length
            .simp only[hj,ye4]at z;exact z.elim
            .simp only[hj,yeg]at z;exact dr j z
           have hE:(λa=>a=pd\/∃j,(if j=v.length then R0 else Rr j) a)=Rs j:=by
            rw[hAd]
            funext a
            apply propext;constructor
            .rintro(z|⟨j,z⟩)
             .exact .inl z
             .split at z
              .exact z.elim
              .exact .inr ⟨j,z⟩
            .rintro(z|⟨j,z⟩)
             .exact .inl z
             .exact .inr ⟨j,by rw[if_neg (yaf (ro.out j a z))];exact z⟩
           rw[hE]at r3;have oth :=λk hk z=>rs2.dis k j pd hk z pdj
           have rs3:RpO X.K F2 (upd H2 pd (.lst (ys++[y]))) (l.set j (.own (v++[t]))) xs Rs:=by
            refine⟨by rw[ybn];exact rs2.len,λk t' x' h1 h2=>?_,rs2.dis,λk a z=>by rw[ybn];exact rs2.out k a z⟩
            by_cases hk:k=j
            .subst hk;rw[yal hjl]at h1;rw[hx]at h2;cases h1;cases h2;rw[exj];exact r3
            .rw[yah (yao hk)]at h1;exact(rs2.rep k t' x' h1 h2).upd (oth k hk)
           have r4:=Uw rs3 ek fp2 (by rw[Ak (yao pne)];exact hp2) ds
           obtain⟨S3,st3⟩:=S2.upd (B:=R0) ht ey (by rw[hA];exact .inr ⟨j,pdj⟩) r4 (λa z=>.inl (by rw[hA];exact z)) (λj a z1 z2=>z2)
           exact q F2 _ σ _ ((e1.stp0.trans e2.stp).trans st3) S3
          .rw[if_neg hz]at q;exact q.elim
    |_=>exact q.elim
theorem s_ins(hN:X.N[i]?=some x)(hv:C8 X.env.scope x)(hd:(x == "__debug__")=false)(hcd:(x == "__classdict__")=false)(hk:PE X k (tM X.K E ca mk))(he:PE X e (tM X.K E ca m))(hs:starEach [e] X.env=[(false,eval e X.env)])(hs2:starEach [k,e] X.env=(false,eval k X.env)::starEach [e] X.env)(hline:(apos.endLine == cpos.line)=true) :
  PS X (.Expr (.Call (.Attribute (.Name x p1) "insert" apos) [k,e] [] cpos) pos) (tS X.K E ca mu (IZ i mk m)):=by
 refine PS.weak (K6 (Ka ybv PySem.F.slot_list_insert PySem.F.type_list_insert znr (E5 hN hv hd hcd) (DH hk (DH he EJ hs) hs2) rfl (by rw[hs2,hs];rfl) hline hs2 (by rw[hs];rfl)) rfl) λD σ H h=>?_
 obtain⟨F,τ,R,S,q⟩:=h;unfold IZ at q;cases ho:Dn τ i with
 |none=>simp only[ho]at q<;>exact q.elim
 |some kl =>
  obtain⟨kd,l⟩:=kl;simp only[ho]at q;have ht:=Ke ho;obtain⟨y,ey,ry⟩:=S.rep i _ ht;obtain⟨p,xs,Rr,rfl,hA,fp,hp,ro,dp,hOw⟩:=ry.own_inv;refine⟨_,ey,.inl ⟨rfl,xs,A9.of hp⟩,F,τ,R,S,?_⟩;cases hkk:mk τ with
  |none=>simp only[hkk]at q<;>exact q.elim
  |some r =>
   simp only[hkk]at q;cases r with
   |x c=>exact q.elim
   |v tk bk =>
    cases bk with
    |true=>cases tk<;>exact q.elim
    |false =>
    cases tk with
    |int kk =>
     simp only at q;intro F1 H1 z C e1 g1;have hz:=LP g1;subst hz;refine⟨F1,τ,R,S.ext e1,?_⟩;cases hm:m τ with
     |none=>simp only[hm]at q<;>exact q.elim
     |some r =>
      simp only[hm]at q;cases r with
      |x c=>exact q.elim
      |v t bb =>
       cases bb with
       |true=>exact q.elim
       |false =>
        intro F2 H2 y B e2 g2;have g2':=g2;simp only at q
        by_cases hz:(l.length<BV/\AS l=true/\t.sh=true)/\0<=kk/\kk<=l.length
        .rw[if_pos hz]at q;have hB:=Rp.r0 g2' hz.1.2.2;subst hB;have S2:=(S.ext e1).ext e2;have hp2:=e2.hh _ _ (e1.hh _ _ hp);have fp2 :=(((ry.ext e1).ext e2).dom (by rw[hA];exact .inl rfl)).1
         have rs:=(((ro.ext e1).ext e2).r0 hz.1.2.1);refine⟨p,xs,kk,y,rfl,rfl,hp2,hz.2.1,by rw[<- ro.len];exact hz.2.2,by rw[<- ro.len,<- Eb];exact hz.1.1,?_⟩
         have rn:RpO X.K F2 (upd H2 p (.lst (xs.take kk.toNat++y::xs.drop kk.toNat))) (l.take kk.toNat++t::l.drop kk.toNat) (xs.take kk.toNat++y::xs.drop kk.toNat) (λ_=>R0):=by
          have el:=ro.len;refine⟨by simp[el],λj t' x' h1 h2=>?_,λ_ _ _ _ z=>z.elim,λ_ _ z=>z.elim⟩
          have hk:kk.toNat<=l.length:=by omega
          rw[ins_get _ _ hk]at h1;rw[ins_get _ _ (by omega)]at h2
          by_cases w:j<kk.toNat
          .rw[if_pos w]at h1 h2;exact(rs.2 j t' x' h1 h2).any
          .rw[if_neg w]at h1 h2
           by_cases w2:j=kk.toNat
           .rw[if_pos w2]at h1 h2;cases h1;cases h2;exact g2'.any
           .rw[if_neg w2]at h1 h2;exact(rs.2 _ t' x' h1 h2).any
         have r2:=GX hOw rn fp2 Bd λj z=>z.elim
         obtain⟨S3,st3⟩:=S2.upd (B:=R0) ht ey (by rw[hA];exact .inl rfl) r2 (λa z=>by
          rw[hA]
          rcases z with z|⟨_,z⟩
          .exact .inl (.inl z)
          .exact z.elim) (λj a z1 z2=>z2)
         exact q F2 _ σ _ ((e1.stp0.trans e2.stp).trans st3) S3
        .rw[if_neg hz]at q;exact q.elim
    |_=>exact q.elim
end
end Pu
namespace Zx
open PySem PySem.Spec PyProof.Rows L2 Zw
section
variable {A:Around}{E:Value->Shared->Prop}{M:Model}
end
section
variable {X:Cx}{i1 i2:Nat}{x1 x2 n1 n2:Str}{np1 np2 pos hpos1 hpos2:Pos}{body suite1 suite2:List Stmt}{b1 b2:Stmt}{tb th1 th2:TS}{E:L2.St->XK}
end
end Zx
namespace Pu
open PySem PySem.Spec PyProof.Rows L2 Zw Zx
section
variable {X:Cx}{E:L2.St->XK}{ca:Str->Value}{mu:Bool}{i1 i2:Nat}{x1 x2 n1 n2:Str}{np1 np2 pos hpos1 hpos2:Pos}{body suite1 suite2:List Stmt}{b1 b2:Stmt}{u h1 h2:AH}{cs1 cs2:List (Str×Addr)}
end
section
variable {X:Cx}{E:L2.St->XK}{ca:Str->Value}{m:AG}{e:Expr}{pos p p2 p3 p4:Pos}{c1 c2:Str}{t1 t2:List (Addr×Bool)}{kt:Nat}
end
section
variable {X:Cx}{E:L2.St->XK}{ca:Str->Value}{m mk ma:AG}{o k e a:Expr}{pos apos cpos p p2:Pos}
end
section
variable {X:Cx}{E:L2.St->XK}{ca:Str->Value}{m mk:AG}{o k e:Expr}{pos pos' apos cpos:Pos}
end
abbrev X9(ms:Av):Av:=CM ms
theorem r_enX{X:Cx}{E:L2.St->XK}{ca:Str->Value}{ms:Av}{a:Expr}{elts:List Expr}{kk:Nat}{p pos tpos:Pos}(hg:Gl X "enumerate")(hm:X.mg "enumerate"=none)(ha:PA X [a] (Bg X.K E ca ms))(hs:starEach [a] X.env=[(false,eval a X.env)]):PI X (.Tuple elts kk tpos) (.Call (.Name "enumerate" p) [a] [] pos) (tI X.K E ca (X9 ms)):=U3 hg hm ha hs
def clsO(C N:Addr)(o:Obj):Prop:=∃nm q bs hdct sn sub ab col dd k0 k1 k2 k3 k5 newId,o=excClassObj nm q C N bs [.type "object"] hdct sn sub ab col dd k0 k1 k2 k3 k5 newId
noncomputable def keyO(e:DictEntry):Bool:=match e.key with
 |.str n _=>!(n == ("__eq__":Str)) && !(n == ("__ne__":Str))
 |_=>false
def nsO(o:Obj):Bool:=match o.data with
 |.dict es _=>es.toList.all keyO
 |_=>false
structure TiOk(K:k6)(C:Addr):Prop where
 i:ICls K C
 k:(HB.all λc=>PySem.W.kitOne K (.ref C) (.type c) == some false)=true
 o:∃(oC oN:Obj) (N:Addr),K.lookup C=some oC/\clsO C N oC/\K.lookup N=some oN/\nsO oN=true
end Pu
namespace Zx
open PySem PySem.Spec PyProof.Rows L2 Zw
section
variable {M:Model}{prog:Program}{w:World}{A:Around}{E:Value->Shared->Prop}{env:Env}{nm q:Str}{C N:Addr}{bs bm:List Value}{hdct:Bool}{sn:List Str}{sub:List Value}{ab:Bool}{col:Option Bool}{dd:Option Addr}{k0 k1 k2 k3 k5:Option Value}{newId:String}
end
section
variable {K:k6}{prog:Program}{w:World}{A:Around}{E:Value->Shared->Prop}{s:Shared}{e C:Addr}{vs:Array Value}{sl:Array (Option Value)}{name:Str}{v:Value}
end
section
variable {K:k6}{prog:Program}{w:World}{A:Around}{E:Value->Shared->Prop}{s:Shared}{a C:Addr}{name:Str}{u:Value}
end
section
variable {X:Cx}{pins:List (Addr×Obj)}{σ:L2.St}{H:Hp}{s:Shared}{A:Around}{E:Value->Shared->Prop}{a C t:Addr}
end
section
variable {X:Cx}{E:L2.St->XK}{C:Addr}{x:Str}{p pos:Pos}{e:Expr}{t:TA}{k j:Nat}
end
section
variable {X:Cx}{pins:List (Addr×Obj)}{σ:L2.St}{H:Hp}{s:Shared}{a C t:Addr}{dx:Option Addr}
end
section
variable {X:Cx}{E:L2.St->XK}{e:Expr}{pos:Pos}{te:TE}
end
end Zx
namespace Pu
open PySem PySem.Spec PyProof.Rows L2 Zw Zx
def Gb(t u:T):Option T:=match t,u with
 |.nd _ .lst (_::_),.nd _ .lst []=>some (.bl false)
 |_,_=>Az t u
theorem zk3(hu:X.A.units+64<cLine):Ab X (compareOp .Eq) (BY X.K Gb):=by
 intro pins s σ H x y v u Q I rx ry h;obtain⟨F,t1,t2,r,fh,r1,r2,e,q⟩:=h;unfold Gb at e;split at e
 .cases e;obtain⟨p,xs,rfl,rfl,n1,k1⟩:=DV r1;obtain⟨p',ys,rfl,rfl,n2,k2⟩:=DV r2;cases rx;cases ry;obtain⟨its,rv,pl,_⟩:=I.list (A9.of (fh _ _ n1));obtain⟨its',rv',pl',_⟩:=I.list (A9.of (fh _ _ n2));refine SeqAt.RcAt.lists_lengths pl.isList pl'.isList ?_ (by omega) _ _ _ _ ⟨.bl false,H,I,rfl,q.bl fh⟩
  have l1:=k1.1;have l2:=k2.1;have l3:=rv.length;have l4:=rv'.length
  grind
 .exact VB hu pins s σ H x y v u Q I rx ry ⟨F,t1,t2,_,fh,r1,r2,e,q⟩
end Pu
noncomputable section
namespace Pu
open PySem PySem.Spec PyProof.Rows L2 Zw Zx
structure Fn where
 lv:Nat
 ps:List Str
 g:List T->Option Ru
structure Gx where
 co:List (Str×T)
 cl:List (Str×Addr×List Str)
 mt:List (Str×Addr×List Str×Fn)
 nw:List (Str×Fn×List (Nat×List T))
 nr:Bool
 tx:Bool
 df:Bool
 sf:Option (Addr×List Str)
 xs:List (Str×List (Str×Addr))
 sb:List (Str×List (Addr×Bool))
 sv:List (Str×List (Addr×Bool))
 no:Bool
 fo:List Str
 ci:List (Str×List (Addr×Bool))
 x2:List (Str×Str×List (Str×Addr))
 gt:List Str
 wd:List (Str×Fn)
 pn:List Str
 ti:List Addr
 dn:List (Str×Fn×List T)
 rn:Option (Addr×Nat)
noncomputable abbrev Bc:Gx:=⟨[],[],[],[],false,true,true,none,[],[],[],true,[],[],[],[],[],[],[],[],none⟩
structure Gm where
 N:List Str
 nm:List (Str×NameKind)
 ce:List Str
 lv:Nat
 fns:List (Str×Fn)
 bl:List Str
 ex:List Str
 ow:List Str
 pk:List Str
 mu:Bool
 mus:List (Str×Fn)
 mv:List Str
 dc:List Str
 ox:Gx
noncomputable def CZ(x:Str):Bool:=!(x == ("__debug__":Str)) && !(x == ("__classdict__":Str)) && !(x == ("__name__":Str))
def M9(nm:List (Str×NameKind))(x:Str):Bool:=nm.lookup x == some .local || nm.lookup x == some .cell || nm.lookup x == some .free
def Bj(nm:List (Str×NameKind))(x:Str):Bool:=nm.lookup x == some .globalImplicit
noncomputable def DX(N:List Str)(x:Str):Option Nat:=N.findIdx? (· == x)
def Gm.var(Γ:Gm)(x:Str):Option Nat:=if CZ x && M9 Γ.nm x then DX Γ.N x else none
def Gm.loc(Γ:Gm)(x:Str):Bool:=CZ x && (Γ.nm.lookup x == some .local || Γ.ce.contains x)
def Cf:Expr->Bool
 |.Starred ..=>false
 |_=>true
def Dp:Expr->Bool
 |.IfExp ..=>false
 |.NamedExpr ..=>false
 |_=>true
noncomputable def nmOf:Expr->Option (Str×Pos)
 |.Name x p=>some (x,p)
 |_=>none
def Mh:List Expr->List Str
 |[]=>[]
 |e::es=>(match nmOf e with
  |some (x,_)=>x::Mh es
  |none=>Mh es)
def Cn:Expr->List Str
 |.Name x _=>[x]
 |.Tuple es _ _=>Mh es
 |_=>[]
def zo9:Expr->Bool
 |.Tuple ..=>true
 |_=>false
def FH:Expr->Bool
 |.Slice ..=>true
 |_=>false
def Cw(nm:List (Str×NameKind)):List Str:=nm.filterMap λ(y,k)=>if k == .free then some y else none
def Px(nm:List (Str×NameKind)):List Str:=nm.filterMap λ(y,k)=>if k == .cell then some y else none
noncomputable def Ib(inner outer:List (Str×NameKind)):List (Str×NameKind):=inner.map λ(n,k)=>if (k == .free && outer.lookup n == some .cell) then (n,.cell) else (n,k)
def JV(N:List Str):List Str->Option (List Nat)
 |[]=>some []
 |y::r=>(match DX N y with
  |some i=>(match JV N r with
   |some l=>some (i::l)
   |none=>none)
  |none=>none)
def JZ(Γ:Gm)(scope:Scope)(N':List Str):Bool :=
 (scope.kind == .function) && scope.names.all (λx=>!(x.2 == .local) || scope.names.lookup x.1 == some .local) &&
 scope.names.all (λx=>!(x.2 == .free) || (scope.names.lookup x.1 == some .free && (Γ.nm.lookup x.1 == some .cell || Γ.nm.lookup x.1 == some .free) && !(scope.names.contains (x.1,NameKind.cell)))) &&
 decide N'.Nodup && (Px scope.names).all (λy=>(Ib scope.names Γ.nm).lookup y == some .cell)
def Gm.blk(Γ:Gm)(scope:Scope)(N':List Str):Gm:={ Γ with N:=N',nm:=Ib scope.names Γ.nm,ce:=(Px scope.names).filter λy=>scope.names.lookup y == some .cell,ow:=[],ox:={ Γ.ox with df:=false,nr:=true } }
def NZ:Expr->Bool
 |.Set ..=>false
 |_=>true
def Ee:Expr->Bool
 |.ListComp ..=>true
 |.SetComp ..=>true
 |.DictComp ..=>true
 |_=>false
noncomputable def X5:Expr->Bool
 |.Attribute ..=>true
 |_=>false
def gtN(Γ:Gm):Expr->Bool
 |.Name x _=>Γ.ox.gt.contains x
 |_=>false
def Fb:Expr->Bool
 |.Call _ es _ _=>!es.isEmpty
 |_=>true
theorem Q6(h:Fb o=true):attributeBase o f env (eval o env)=eval o env:=by
 cases o with
 |Call g es ks c =>
  cases es with
  |nil=>cases h
  |cons e es=>cases g<;>rfl
 |_=>rfl
theorem zfd(h:Fb o=true)(hf:((backTo pos (starEach es env)).all λx=>!x.1)=true)(hn:es.length<30)(hl:(ap.endLine == pos.line)=true):∃pl ,eval (.Call (.Attribute o f ap) es [] pos) env=(do
   let ov <- eval o env
   standAt ap.atName
   let (f,first) <- holding [ov] (getMethod ov f pl)
   callWith pos f first (backTo pos (starEach es env)) (backToKw pos (keywordEach [] env))):=by
 refine⟨do let b <- importBound o env;pure (b.getD true),?_⟩
 have e:methodCallForm (es.length+([]:List Keyword).length) (backTo pos (starEach es env)) (backToKw pos (keywordEach [] env))=true:=by
  unfold methodCallForm;rw[hf];show(true && true && decide (es.length+0+0<30))=true
  grind
 rw[arm_eval_Call,Q6 h];unfold methodCall calleeOf methodCallPos;grind
structure GxOk(G:Gx)(lv:Nat)(P:Program)(w:World)(K:k6)(mg:Str->Option Value)(base:Heap)(ca:Str->Value):Prop where
 co:∀x t,G.co.lookup x=some t->∃u v,mg x=some u/\A3 v u/\∀F:Hp,Rp K F F t v R0
 cl:∀c∈G.cl,Cls K c.2.1/\∀f∈c.2.2,Ba K c.2.1 f
 mt:∀c∈G.mt,c.2.2.2.lv<=lv/\Nonempty (MetX P w K mg base c.2.1 c.1 c.2.2.2.lv c.2.2.2.ps (B3 K ca c.2.2.2.g))
 nw:∀x F ds,G.nw.lookup x=some (F,ds)->F.lv+1<=lv/\∃(C:Addr) (D:NewX P w K mg base x C F.lv F.ps (IT K ca C F.g)),∀k dts,ds.lookup k=some dts->∃dvs us,Bx K D.fd F.ps us/\AZ dvs us/\∀H:Hp,Ai K H dts dvs
 sf:∀C fs,G.sf=some (C,fs)->Cls K C/\∀f∈fs,Ba K C f
 xs:∀W cs,G.xs.lookup W=some cs->∃T:ECls K mg W,∀c C,cs.lookup c=some C->ca c=.ref C/\PySem.W.subIn K (.ref C) (.ref T.C)=some true
 sb:∀D tb,G.sb.lookup D=some tb->∃A:Addr,mg D=some (.ref A)/\∀C b,tb.lookup C=some b->ExcK K C/\PySem.W.kitOne K (.ref C) (.ref A)=some b
 sv:∀D tb,G.sv.lookup D=some tb->mg D=none/\∃t,bootBuiltins D=some (.type t)/\∀C b,tb.lookup C=some b->ExcK K C/\PySem.W.kitOne K (.ref C) (.type t)=some b
 ci:∀x tb,G.ci.lookup x=some tb->∃D:Addr,mg x=some (.ref D)/\(∀C b,tb.lookup C=some b->ICls K C/\PySem.W.kitOne K (.ref C) (.ref D)=some b)/\(KE.all λa=>PySem.W.kitOne K (.type a) (.ref D) == some false)=true
 x2:∀W1 W2 cs,(W1,W2,cs)∈G.x2->∃(T1:ECls K mg W1) (T2:ECls K mg W2),∀c C,cs.lookup c=some C->ca c=.ref C/\PySem.W.subIn K (.ref C) (.ref T1.C)=some false/\PySem.W.subIn K (.ref C) (.ref T2.C)=some true
 wd:∀x F,G.wd.lookup x=some F->F.lv<=lv/\∃p,F.ps=[p]/\Nonempty (DefS P w K mg base F.lv x p (B3 K ca F.g))
 ti:∀C∈G.ti,TiOk K C
 dn:∀x y,G.dn.lookup x=some y->y.1.lv<=lv/\∃(D:DefX P w K mg base y.1.lv x y.1.ps (B3 K ca y.1.g)) (dvs:List V),DefsX K D.fd y.1.ps dvs/\∀H:Hp,Ai K H y.2 dvs
 rn:True
structure CxOk(Γ:Gm)(X:Cx)(E:L2.St->XK)(ca:Str->Value):Prop where
 N:X.N=Γ.N
 nd:Γ.N.Nodup
 nm:X.env.scope.names=Γ.nm
 kd:X.env.scope.kind=.function
 calm:X.calm=true
 room:Room Γ.lv X.A
 ce:∀x∈Γ.ce,X.fn x=true/\Γ.nm.lookup x=some .cell
 bl:∀b∈Γ.bl,X.mg b=none
 ps:BK X E
 po:Γ.ox.nr=false->PassesOwn (model X.prog X.w) X.A X.env X.xe
 md:Γ.ox.nr=false->Qn X E
 mn:True
 fs:∀f F,Γ.fns.lookup f=some F->F.lv<=Γ.lv/\Nonempty (DefX X.prog X.w X.K X.mg X.base F.lv f F.ps (B3 X.K ca F.g))
 ex:∀c∈Γ.ex,∃T:ECls X.K X.mg c,ca c=.ref T.C/\Cv X.K T.C=some none
 ms:∀f F,Γ.mus.lookup f=some F->F.lv<=Γ.lv/\Nonempty (DefX X.prog X.w X.K X.mg X.base F.lv f F.ps (Es X.K ca F.g))
 gx:GxOk Γ.ox Γ.lv X.prog X.w X.K X.mg X.base ca
 tr:Γ.ox.df=true->X.stack=X.env::X.outer/\X.env.frame=some X.env.locals
 fr:Gv X
theorem G5(h:DX N x=some i):N[i]?=some x:=by
 obtain⟨h1,h2,_⟩:=yav.mp h
 grind
theorem CY(h:CZ x=true):(x == "__debug__")=false/\(x == "__classdict__")=false/\x≠"__name__":=by
 unfold CZ at h
 grind
theorem RO(h:M9 sc.names x=true):C8 sc x:=by
 unfold M9 at h;simp only[ybz,beq_iff_eq]at h
 rcases h with (h|h)|h
 .exact .inl h
 .exact .inr (.inl h)
 .exact .inr (.inr h)
theorem CA(h:Cf e=true):starEach (e::es) env=(false,eval e env)::starEach es env:=by
 cases e<;>first|rfl|cases h
theorem FT:∀{es} {env} {pos},(∀e∈es,Cf e=true)->(backTo pos (starEach es env)).any (·.1)=false
 |[],env,pos,_=>rfl
 |e::es,env,pos,h=>by
  rw[CA (h e (ya7 ..))];have ih:=FT (env:=env) (pos:=pos) λx hx=>h x (ya4 _ hx)
  show(false || (backTo pos (starEach es env)).any (·.1))=false
  grind
section
variable {Γ:Gm}{X:Cx}{E:L2.St->XK}{ca:Str->Value}
theorem CxOk.var(C:CxOk Γ X E ca){pos:Pos}(h:Γ.var x=some i):X.N[i]?=some x/\C8 X.env.scope x/\(x == "__debug__")=false/\(x == "__classdict__")=false:=by
 unfold Gm.var at h;split at h
 .rename_i hp;rw[ya2]at hp;obtain⟨p1,p2,p3⟩:=CY hp.1;exact⟨by rw[C.N];exact G5 h,RO (by rw[C.nm];exact hp.2),p1,p2⟩
 .cases h
theorem CxOk.gl(C:CxOk Γ X E ca)(h:Bj Γ.nm x=true):Gl X x:=by
 show X.env.scope.names.lookup x=some .globalImplicit;rw[C.nm];exact eq_of_beq h
theorem CxOk.loc(C:CxOk Γ X E ca)(h:Γ.loc x=true)(hi:DX Γ.N x=some i):X.N[i]?=some x/\GC X.env.scope x/\(X.fn x=true\/X.env.scope.names.lookup x=some .local):=by
 unfold Gm.loc at h;simp only[ya2,ybz,beq_iff_eq]at h;refine⟨by rw[C.N];exact G5 hi,?_⟩
 rcases h.2 with h|h
 .exact⟨.inl (by rw[C.nm];exact h),.inr (by rw[C.nm];exact h)⟩
 .obtain⟨c1,c2⟩:=C.ce x (yan.mp h);exact⟨.inr (by rw[C.nm];exact c2),.inl c1⟩
theorem CxOk.nodup(C:CxOk Γ X E ca):X.N.Nodup:=by rw[C.N];exact C.nd
theorem Wy(C:CxOk Γ X E ca)(h1:Γ.loc x=true)(h2:DX Γ.N x=some i):PG X (.Name x pos) (DT X.K (AE i)):=by
 obtain⟨g1,g2,g3⟩:=C.loc h1 h2;exact g_nm C.nodup g1 g2 g3
theorem ZS:∀{ys} {caps},JV N ys=some caps->ys.length=caps.length/\∀(k j:Nat),caps[k]?=some j->∃y,ys[k]?=some y/\N[j]?=some y
 |[],caps,h=>by cases h;simp
 |y::r,caps,h=>by
  unfold JV at h;split at h
  .rename_i i hi;split at h
   .rename_i l hl;cases h;obtain⟨h1,h2⟩:=ZS hl;refine⟨by simp[h1],λk j e=>?_⟩
    cases k with
    |zero=>simp at e;subst e;exact⟨y,rfl,G5 hi⟩
    |succ k=>grind
   .cases h
  .cases h
theorem zft(h:y∈Cw nm):(y,NameKind.free)∈nm:=by
 unfold Cw at h
 grind
theorem Z0(C:CxOk Γ X E ca)(h:JZ Γ scope (Cn tg++Cw scope.names)=true)(hc:JV Γ.N (Cw scope.names)=some caps):BlkOk X scope (Cn tg++Cw scope.names) (Cn tg).length caps:=by
 unfold JZ at h;simp only[ya2]at h;obtain⟨⟨⟨⟨h1,h2⟩,h3⟩,h4⟩,h5⟩:=h;obtain⟨l1,l2⟩:=ZS hc
 have free:∀y∈scope.names,y.2=.free->scope.names.lookup y.1=some .free/\(Γ.nm.lookup y.1=some .cell\/Γ.nm.lookup y.1=some .free)/\(y.1,NameKind.cell)∉scope.names:=λy hy hf=>by
  grind
 refine⟨eq_of_beq h1,λy hy hl=>?_,by simp[l1],λk j e=>?_,λy hy hf=>?_⟩
 .grind
 .obtain⟨y,e1,e2⟩:=l2 k j e;have fm:=zft (yc9 e1);obtain⟨f1,_,f3⟩:=free _ fm rfl;refine⟨y,by rw[C.N];exact e2,?_,f1,f3⟩
  rw[yaz (by omega)]
  simpa using e1
 .obtain⟨f1,f2,_⟩:=free y hy hf;refine⟨f1,?_⟩;rw[C.nm];exact f2
theorem zgr(hk:env.scope.kind=.function):(relabel scope env).names=Ib scope.names env.scope.names:=by
 unfold relabel Ib;have e:(env.scope.kind == ScopeKind.function)=true:=by rw[hk];rfl
 simp only[e,Bool.and_true]
 rfl
theorem Wk:True:=trivial
theorem Z2(C:CxOk Γ X E ca){scope:Scope}{N':List Str}(h:JZ Γ scope N'=true)(cl)(A:Addr)(s₀:Shared)(H₀:Hp)(ex:List Addr)(xb)(hp:BK (Aq X scope cl N' A s₀ H₀ ex xb) E'):CxOk (Γ.blk scope N') (Aq X scope cl N' A s₀ H₀ ex xb) E' ca:=by
 unfold JZ at h;simp only[ya2]at h;obtain⟨⟨⟨⟨h1,h2⟩,h3⟩,h4⟩,h5⟩:=h;refine⟨rfl,yef h4,?_,?_,C.calm,C.room,λx hx=>?_,C.bl,hp,λz=>(by cases z),λz=>(by cases z),Wk,C.fs,C.ex,C.ms,⟨C.gx.co,C.gx.cl,C.gx.mt,C.gx.nw,C.gx.sf,C.gx.xs,C.gx.sb,C.gx.sv,C.gx.ci,C.gx.x2,C.gx.wd,C.gx.ti,C.gx.dn,C.gx.rn⟩,λz=>(by cases z),C.fr⟩
 .show(relabel scope X.env).names=Ib scope.names Γ.nm;rw[zgr C.kd,C.nm]
 .exact eq_of_beq h1
 .have hx':x∈(Px scope.names).filter λy=>scope.names.lookup y == some .cell:=hx
  rw[List.mem_filter]at hx';refine⟨ye6 (eq_of_beq hx'.2),?_⟩;exact eq_of_beq (yai.mp h5 x hx'.1)
end
theorem PQ(h:NZ e=true)(x):foldedSetIterable e env x=pure x:=by
 cases e<;>first|rfl|cases h
theorem K7(h:FH k=false):IC k:=λo i=>by
 cases k<;>first|rfl|cases h
theorem C0{b:Bool}(h:(!b)=true):b=false:=by cases b<;>first|rfl|cases h
noncomputable def gd{α:Type}:(b:Bool)->(b=true->Option α)->Option α
 |true,k=>k rfl
 |false,_=>none
noncomputable def oe{α β:Type}:(o:Option α)->((a:α)->o=some a->β)->β->β
 |some a,k,_=>k a rfl
 |none,_,d=>d
abbrev ob{α β:Type}(o:Option α)(k:(a:α)->o=some a->Option β):Option β:=oe o k none
structure ER(Γ:Gm)(e:Expr) where
 m:AG
 ok:∀{X:Cx} {E:L2.St->XK} {ca:Str->Value},CxOk Γ X E ca->PE X e (tM X.K E ca m)/\(Dp e=true->PT X e (BH X.K E ca m))
structure AR(Γ:Gm)(es:List Expr) where
 m:Av
 ok:∀{X:Cx} {E:L2.St->XK} {ca:Str->Value},CxOk Γ X E ca->PA X es (Bg X.K E ca m)
 st:∀e∈es,Cf e=true
 nl:es=[]->m=AD
structure OR(Γ:Gm)(es:List Expr) where
 m:Av
 ok:∀{X:Cx} {E:L2.St->XK} {ca:Str->Value},CxOk Γ X E ca->PA X es (HG X.K E ca m)
structure BR(Γ:Gm)(op:BoolOp)(es:List Expr) where
 m:AG
 ok:∀{X:Cx} {E:L2.St->XK} {ca:Str->Value} {pos:Pos},CxOk Γ X E ca->PE X (.BoolOp op es pos) (tM X.K E ca m)/\PW X (.BoolOp op es pos) (BH X.K E ca m)
structure PR(Γ:Gm)(o:Option Expr) where
 m:Option (AG)
 ok:∀{X:Cx} {E:L2.St->XK} {ca:Str->Value},CxOk Γ X E ca->PO X o (GJ X.K m)
structure LR(Γ:Gm)(elt tg iter:Expr)(ifs:List Expr)(scope:Scope) where
 m:AG
 ok:∀{X:Cx} {E:L2.St->XK} {ca:Str->Value},CxOk Γ X E ca->∃caps mi b mt me,m=BA (Cn tg).length caps mi b mt me/\BlkOk X scope (Cn tg++Cw scope.names) (Cn tg).length caps/\PI X tg iter (tI X.K E ca mi) /\
   (∀ cl A s₀ H₀ ex xb E', BK (Aq X scope cl (Cn tg ++ Cw scope.names) A s₀ H₀ ex xb) E' -> PG (Aq X scope cl (Cn tg ++ Cw scope.names) A s₀ H₀ ex xb) tg (DT X.K b) /\ GB (Aq X scope cl (Cn tg ++ Cw scope.names) A s₀ H₀ ex xb) ifs (BH X.K E' ca mt) /\
    PE (Aq X scope cl (Cn tg++Cw scope.names) A s₀ H₀ ex xb) elt (tM X.K E' ca me))/\∀x,foldedSetIterable iter X.env x=pure x
structure IR(Γ:Gm)(tg e:Expr) where
 m:Av
 ok:∀{X:Cx} {E:L2.St->XK} {ca:Str->Value},CxOk Γ X E ca->PI X tg e (tI X.K E ca m)
 ns:NZ e=true
structure GR(Γ:Gm)(tg:Expr) where
 m:T->AL->Option AL
 ok:∀{X:Cx} {E:L2.St->XK} {ca:Str->Value},CxOk Γ X E ca->PG X tg (DT X.K m)
structure GsR(Γ:Gm)(es:List Expr) where
 m:List T->AL->Option AL
 ok:∀{X:Cx} {E:L2.St->XK} {ca:Str->Value},CxOk Γ X E ca->DO X es (GK X.K m)/\(assignEach es X.env).length=es.length/\(assignEach es X.env).findIdx? (·.1)=none
structure SR(Γ:Gm)(s:Stmt) where
 m:AH
 ok:∀{X:Cx} {E:L2.St->XK} {ca:Str->Value},CxOk Γ X E ca->PS X s (tS X.K E ca Γ.mu m)
structure QR(Γ:Gm)(ss:List Stmt) where
 m:AH
 ok:∀{X:Cx} {E:L2.St->XK} {ca:Str->Value},CxOk Γ X E ca->BI X ss (tS X.K E ca Γ.mu m)
structure Dc where
 e:(Γ:Gm)->(e:Expr)->Option (ER Γ e)
 a:(Γ:Gm)->(es:List Expr)->Option (AR Γ es)
 o:(Γ:Gm)->(es:List Expr)->Option (OR Γ es)
 b:(Γ:Gm)->(op:BoolOp)->(es:List Expr)->Option (BR Γ op es)
 s:(Γ:Gm)->(s:Stmt)->Option (SR Γ s)
 q:(Γ:Gm)->(ss:List Stmt)->Option (QR Γ ss)
theorem ER.t(r:ER Γ e)(h:Dp e=true)(C:CxOk Γ X E ca):PT X e (BH X.K E ca r.m):=(r.ok C).2 h
def KH:Expr->Prop
 |.UnaryOp ..=>False
 |.BoolOp ..=>False
 |.IfExp ..=>False
 |.Compare ..=>False
 |_=>True
theorem R5(h:KH e)(whole):isTrue e env whole=(do let v <- whole;standAt e.pos;holding [v] (truthy v)):=by
 cases e<;>first|rfl|exact False.elim h
noncomputable def vl{Γ:Gm}{e:Expr}(m:AG)(h:∀{X:Cx} {E:L2.St->XK} {ca:Str->Value},CxOk Γ X E ca->PE X e (tM X.K E ca m))(t:KH e:=by trivial):Option (ER Γ e):=some ⟨m,λC=>⟨h C,λ_=>NN (h C) (R5 t)⟩⟩
structure OG(op:Operator) where
 g:T->T->Option T
 ok:∀{X:Cx},Ab X (binaryOp op) (BY X.K g)
def opF:(op:Operator)->Option (OG op)
 |.Add=>some ⟨B7,VC⟩
 |.Sub=>some ⟨Er,zjy⟩
 |.Mult=>some ⟨CD,zk0⟩
 |.Mod=>some ⟨Bs,zk1⟩
 |.FloorDiv=>some ⟨B9,zh4⟩
 |.Pow=>some ⟨Ig,zjz⟩
 |.BitOr=>some ⟨JX,zk4⟩
 |.BitAnd=>some ⟨J0,zh5⟩
 |_=>none
structure CG(op:CmpOp) where
 g:T->T->Option T
 ok:∀{Γ:Gm} {X:Cx} {E:L2.St->XK} {ca:Str->Value},CxOk Γ X E ca->Ab X (compareOp op) (BY X.K g)
def ZP:(op:CmpOp)->Option (CG op)
 |.Eq=>some ⟨Az,λC=>VB C.room.units⟩
 |.NotEq=>some ⟨Cp,λC=>znd C.room.units⟩
 |.Lt=>some ⟨Ca λi j=>decide (i<j),λ_=>Kf op_lt⟩
 |.LtE=>some ⟨Ca λi j=>decide (i<=j),λ_=>Kf VA⟩
 |.Gt=>some ⟨Ca λi j=>decide (j<i),λ_=>Kf op_gt⟩
 |.GtE=>some ⟨Ca λi j=>decide (j<=i),λ_=>Kf op_ge⟩
 |.Is=>some ⟨BQ false,λ_=>zne⟩
 |.IsNot=>some ⟨BQ true,λ_=>zfa⟩
 |.In=>some ⟨C6,λC=>znf C.room.units⟩
 |.NotIn=>some ⟨E7,λC=>zf9 C.room.units⟩
def ZQ:(op:CmpOp)->Option (CG op)
 |.LtE=>some ⟨Ec,λ_=>zk2⟩
 |op=>ZP op
def eCst(Γ:Gm)(c:Const)(k:Nat)(pos:Pos):Option (ER Γ (.Constant c k pos)):=match c with
 |.int i=>vl (mC (.int i)) λ_=>Ic zn3 λ_ _=>.int i
 |.bool b=>vl (mC (.bl b)) λ_=>Ic pe_bl λ_ _=>.bl b
 |.none=>vl (mC .non) λ_=>Ic Uq λ_ _=>.non
 |.str x=>vl (mC (.str x)) λ_=>Ic zmy λ_ _=>.str x
 |_=>none
theorem CxOk.v(C:CxOk Γ X E ca)(h:Γ.var x=some i):PE X (.Name x pos) (tM X.K E ca (AA i)) :=
 let ⟨h1,h2,h3,h4⟩:=C.var (pos:=pos) h
 UT h1 h2 h3 h4
def eNam(Γ:Gm)(x:Str)(pos:Pos):Option (ER Γ (.Name x pos)):=oe (Γ.var x) (λi hi=>vl (AA i) λC=>C.v hi) (gd (CZ x && Bj Γ.nm x) λhp=>ob (Γ.ox.co.lookup x) λt ht=>vl (mC t) λC=>by
 rw[ya2]at hp;obtain⟨u,v,k1,k2,k3⟩:=C.gx.co x t ht;exact r_con (C.gl hp.2) k1 k2 (CY hp.1).1 k3)
def ZA{Γ:Gm}{e:Expr}(t:KH e)(a:Option (ER Γ e))(b:Option (ER Γ e)):Option (ER Γ e):=a.bind λa=>match b with
 |some b=>vl (Bt a.m b.m) (λC=>NO (a.ok C).1 (b.ok C).1) t
 |none=>some a
def Pl{Γ:Gm}{o:Expr}{f:Str}{pos:Pos}(r:ER Γ o)(hp:Fb o=true):(L:List (Str×Addr×List Str))->(∀c∈L,c∈Γ.ox.cl)->Option (ER Γ (.Attribute o f pos))
 |[],_=>none
 |c::L,hL=>oe (c.2.2.findIdx? (· == f)) (λj hj=>ZA trivial (vl (Al c.2.1 c.2.2 j r.m) λC=>by
   obtain⟨h1,h2⟩:=C.gx.cl _ (hL _ (ya7 ..))
   have hf:f∈c.2.2:=by
    obtain⟨q1,q2,_⟩:=yav.mp hj;rw[<- eq_of_beq q2];exact yb5 q1
   exact r_fld h1 (h2 f hf) hj (r.ok C).1 (Q6 hp)) (Pl r hp L λc h=>hL c (ya4 _ h))) (Pl r hp L λc h=>hL c (ya4 _ h))
theorem zkd       (r:ER Γ o)(a:AR Γ es)(hpo:Fb o=true)(hln:(ap.endLine == pos.line)=true)(hlen:es.length<30)(hm:(f,g)∈Γ.ox.mt)(hnf:g.2.1.contains f=false){X:Cx}   (C:CxOk Γ X E ca) :
  PE X (.Call (.Attribute o f ap) es [] pos) (tM X.K E ca (Bf g.1 g.2.1 g.2.2.g r.m a.m)):=by
 obtain⟨hlv,⟨D⟩⟩:=C.gx.mt _ hm;have ho:=(r.ok C).1;have ha:=a.ok C;have hst:=a.st;have hnil:=a.nl;generalize a.m=ms at ha hnil
 clear a
 obtain⟨pl,ht⟩:=zfd (env:=X.env) hpo (by
  have:=FT (env:=X.env) (pos:=pos) hst
  grind) hlen hln
 cases es with
 |cons e es=>exact zmc D hnf C.room C.ps ho ha hlv (CA (hst e (ya7 ..))) (FT λx hx=>hst x (ya4 e hx)) ht
 |nil =>
  refine PE.weak (pmx0 D C.room C.ps ho hlv ht) λσ H Q h=>?_
  obtain⟨F,τ,R,S,q⟩:=Rk hnf h;refine⟨F,τ,R,S,?_⟩;cases hm:r.m τ with
  |none=>rw[hm]at q;exact q
  |some r =>
   rw[hm]at q;cases r with
   |x c=>exact q
   |v t b =>
    intro F1 H1 x B e1 g1;obtain⟨a,dx,fs',h1,h2,h3,h4⟩:=q F1 H1 x B e1 g1;refine⟨a,dx,fs',h1,h2,h3,?_⟩;rw[hnil rfl]at h4;exact FO h4
def Pk{Γ:Gm}{o:Expr}{f:Str}{ap pos:Pos}{es:List Expr}(r:ER Γ o)(a:AR Γ es)(hpo:Fb o=true)(hln:(ap.endLine == pos.line)=true)(hlen:es.length<30):(L:List (Str×Addr×List Str×Fn))->(∀c∈L,c∈Γ.ox.mt)->Option (ER Γ (.Call (.Attribute o f ap) es [] pos))
 |[],_=>none
 |c::L,hL=>if h:c.1=f/\c.2.2.1.contains f=false then ZA trivial (vl (Bf c.2.1 c.2.2.1 c.2.2.2.g r.m a.m) λC=>zkd r a hpo hln hlen (g:=c.2) (h.1▸hL c (ya7 ..)) h.2 C) (Pk r a hpo hln hlen L λc h=>hL c (ya4 _ h)) else Pk r a hpo hln hlen L λc h=>hL c (ya4 _ h)
def eAtt(D:Dc)(Γ:Gm)(o:Expr)(f:Str)(ap:Pos)(es:List Expr)(ks:List Keyword)(c:Pos):Option (ER Γ (.Call (.Attribute o f ap) es ks c)):=match ks with
 |[]=>gd (Fb o && (ap.endLine == c.line) && decide (es.length<30)) λhc=>(D.e Γ o).bind λr=>(D.a Γ es).bind λa =>
  have hc:(Fb o=true/\(ap.endLine == c.line)=true)/\es.length<30:=by
   rw[ya2,ya2,yec]at hc;exact hc
  if hf:f="index" then (match es,a with
   |[k],a=>(D.e Γ k).bind λmk=>vl (Iz r.m mk.m) λC=>by
    subst hf;exact zj7 (r.ok C).1 (mk.ok C).1 (Q6 hc.1.1) (CA (es:=[]) (a.st k (ya7 ..))) hc.1.2
   |_,_=>none) else
  Pk r a hc.1.1 hc.1.2 hc.2 Γ.ox.mt λ_ h=>h
 |_=>none
def cmpB(op:CmpOp)(b:Expr):Option (CG op) :=
 match op,b with
 |.Eq,.List [] _=>some ⟨Gb,λC=>zk3 C.room.units⟩
 |op,_ =>
 ZP op
def eCmp(D:Dc)(Γ:Gm)(a:Expr)(ops:List CmpOp)(bs:List Expr)(pos:Pos):Option (ER Γ (.Compare a ops bs pos)):=match ops,bs with
 |[op],[b]=>gd (!(behindInMarks op b)) λhm=>(cmpB op b).bind λg=>(D.e Γ a).bind λra=>(D.e Γ b).bind λrb=>some ⟨BN (g2 g.g) (AB ra.m (AB rb.m AD)),λC =>
  have hm:=C0 hm
  ⟨r_cmp (g.ok C) (ra.ok C).1 (rb.ok C).1 hm,λ_=>zma (g.ok C) (ra.ok C).1 (rb.ok C).1 hm⟩⟩
 |[op,op'],[b,c]=>gd (!(lastMarks [op,op'] [b,c])) λhm=>(ZQ op).bind λg=>(ZQ op').bind λg'=>(D.e Γ a).bind λra=>(D.e Γ b).bind λrb=>(D.e Γ c).bind λrc=>some ⟨FG g.g g'.g ra.m rb.m rc.m,λC =>
  have hm:=C0 hm
  ⟨r_chn (g.ok C) (g'.ok C) (ra.ok C).1 (rb.ok C).1 (rc.ok C).1 hm,λ_=>zmb (g.ok C) (g'.ok C) (ra.ok C).1 (rb.ok C).1 (rc.ok C).1 hm⟩⟩
 |_,_=>none
def eUn(D:Dc)(Γ:Gm)(op:UnaryOp)(a:Expr)(pos:Pos):Option (ER Γ (.UnaryOp op a pos)):=match op with
 |.USub=>(D.e Γ a).bind λr=>some ⟨BN (g1 EK) (AB r.m AD),λC =>
  have hp:=r_un (pos:=pos) zio (r.ok C).1
  ⟨hp,λ_=>NN hp λ_=>rfl⟩⟩
 |.Not=>gd (Dp a) λh=>(D.e Γ a).bind λr=>some ⟨Ax r.m,λC=>⟨r_not (r.ok C).1,λ_=>zm9 (r.t h C)⟩⟩
 |_=>none
def dP(D:Dc)(Γ:Gm):(o:Option Expr)->Option (PR Γ o)
 |none=>some ⟨none,λ_=>r_po0⟩
 |some e=>(D.e Γ e).bind λr=>some ⟨some r.m,λC=>r_po1 (r.ok C).1⟩
def eIx(D:Dc)(Γ:Gm)(a k:Expr)(pos:Pos):Option (ER Γ (.Subscript a k pos)):=gd (!(FH k)) λhs=>(D.e Γ a).bind λr=>(D.e Γ k).bind λrk =>
 if X5 a || gtN Γ a then vl (DL r.m rk.m) λC=>r_gt (by have:=C.room.units;omega) (r.ok C).1 (rk.ok C).1 (K7 (C0 hs)) else
 vl (Aj r.m rk.m) λC=>r_ix (r.ok C).1 (rk.ok C).1 (K7 (C0 hs))
def eSub(D:Dc)(Γ:Gm)(a k:Expr)(pos:Pos):Option (ER Γ (.Subscript a k pos)):=match k with
 |.Slice lo hi st p=>(match st with
  |none=>(D.e Γ a).bind λr=>(dP D Γ lo).bind λrl=>(dP D Γ hi).bind λrh=>if Γ.ox.tx then vl (Bt (Fj r.m rl.m rh.m) (G3 r.m rl.m rh.m)) λC=>NO (UU (r.ok C).1 (rl.ok C) (rh.ok C)) (zgs (r.ok C).1 (rl.ok C) (rh.ok C)) else vl (Fj r.m rl.m rh.m) λC=>UU (r.ok C).1 (rl.ok C) (rh.ok C)
  |_=>none)
 |k=>eIx D Γ a k pos
theorem GN(h:Cf e=true):starEach [e] env=[(false,eval e env)]:=CA h
section
variable {Γ:Gm}{f:Str}{p:Pos}{e:Expr}{es:List Expr}{pos:Pos}{X:Cx}{E:L2.St->XK}{ca:Str->Value}
theorem bF(a:AR Γ (e::es))(hp:CZ f=true)(hg:Bj Γ.nm f=true)(hb:Γ.bl.contains f=true)(C:CxOk Γ X E ca){id}(hc:Bb X (.builtin id) (DF X.K g))(hv:bootBuiltins f=some (.builtin id)):PE X (.Call (.Name f p) (e::es) [] pos) (tM X.K E ca (BN g a.m)) :=
 zmf hc (C.gl hg) (C.bl f (yan.mp hb)) hv (a.ok C) (CY hp).2.2 (CY hp).1 (CA (a.st e (ya7 ..))) (FT λx hx=>a.st x (ya4 e hx))
theorem bTy(a:AR Γ (e::es))(hp:CZ f=true)(hg:Bj Γ.nm f=true)(hb:Γ.bl.contains f=true)(C:CxOk Γ X E ca){id}(hc:Bb X (.type id) (DF X.K g))(hv:bootBuiltins f=some (.type id)):PE X (.Call (.Name f p) (e::es) [] pos) (tM X.K E ca (BN g a.m)) :=
 U8 hc (C.gl hg) (C.bl f (yan.mp hb)) hv (a.ok C) (CY hp).2.2 (CY hp).1 (CA (a.st e (ya7 ..))) (FT λx hx=>a.st x (ya4 e hx))
def L5(a:AR Γ (e::es))(hp:CZ f=true)(hg:Bj Γ.nm f=true)(hb:Γ.bl.contains f=true):Option (ER Γ (.Call (.Name f p) (e::es) [] pos)) :=
 if hf:f="len" then vl (BN (g1 Bu) a.m) λC=>by subst hf;exact bF a hp hg hb C zg9 PySem.boot_len else
 if hf:f="list" then vl (BN (g1 CI) a.m) λC=>by subst hf;exact bTy a hp hg hb C ZU yc2 else
 if hf:f="abs" then vl (BN (g1 Hm) a.m) λC=>by subst hf;exact bF a hp hg hb C zgd PyProof.Rows.boot_abs else
 if hf:f="min" then vl (BN (g2 Ir) a.m) λC=>by subst hf;exact bF a hp hg hb C (zg8 C.calm) PyProof.Rows.boot_min else
 if hf:f="all" then vl (BN (g1 DB) a.m) λC=>by subst hf;exact bF a hp hg hb C (zgc C.calm) PyProof.Rows.boot_all else
 if hf:f="any" then vl (BN (g1 Hl) a.m) λC=>by subst hf;exact bF a hp hg hb C (zgb C.calm) PyProof.Rows.boot_any else
 none
end
structure TyR(c:Str) where
 t:String
 ok:bootBuiltins c=some (.type t)
noncomputable def tyF(c:Str):Option (TyR c) :=
 if h:c="int" then some ⟨"int",by subst h;exact PyProof.Rows.boot_int⟩ else if h:c="bool" then some ⟨"bool",by subst h;exact PyProof.Rows.boot_bool⟩ else if h:c="str" then some ⟨"str",by subst h;exact PyProof.Rows.boot_str⟩ else
 if h:c="list" then some ⟨"list",by subst h;exact yc2⟩ else if h:c="tuple" then some ⟨"tuple",by subst h;exact PyProof.Rows.boot_tuple⟩ else none
def eIs(D:Dc)(Γ:Gm)(p:Pos)(e:Expr)(es:List Expr)(pos:Pos)(hg:Bj Γ.nm "isinstance"=true)(hb:Γ.bl.contains "isinstance"=true):Option (ER Γ (.Call (.Name "isinstance" p) (e::es) [] pos)):=match es with
 |[.Name c p2]=>gd (Bj Γ.nm c && CZ c && Cf e) λhc=>(D.e Γ e).bind λr =>
  have hc:(Bj Γ.nm c=true/\CZ c=true)/\Cf e=true:=by
   rw[ya2,ya2]at hc;exact hc
  if hm:Γ.bl.contains c=true then (tyF c).bind λt=>vl (BN (g1 (Bv t.t)) (AB r.m AD)) λC =>
   r_isT t.ok (C.gl hg) (C.bl _ (yan.mp hb)) (C.gl hc.1.1) (C.bl _ (yan.mp hm)) (CY hc.1.2).2.2 (CY hc.1.2).1 (r.ok C).1 (CA hc.2)
  else ob (Γ.ox.ci.lookup c) λtb ht=>vl (BN (g1 (JM tb)) (AB r.m AD)) λC=>by
   obtain⟨_,k1,k2⟩:=C.gx.ci c tb ht;exact r_isC k2 (C.gl hg) (C.bl _ (yan.mp hb)) (C.gl hc.1.1) k1 (CY hc.1.2).1 (r.ok C).1 (CA hc.2)
 |_=>none
def eSet(D:Dc)(Γ:Gm)(p:Pos)(e:Expr)(pos:Pos)(hg:Bj Γ.nm "len"=true)(hb:Γ.bl.contains "len"=true):Option (ER Γ (.Call (.Name "len" p) [e] [] pos)):=match e with
 |.Call (.Name x p2) [a] [] p3=>if h:x="set" then gd (Bj Γ.nm "set" && Γ.bl.contains "set" && Cf a) λhc=>(D.e Γ a).bind λr=>vl (BN (g1 IQ) (AB r.m AD)) λC=>by
   rw[ya2,ya2]at hc;subst h;exact r_unq C.calm (C.gl hg) (C.bl _ (yan.mp hb)) (C.gl hc.1.1) (C.bl _ (yan.mp hc.1.2)) (r.ok C).1 (GN hc.2)
  else none
 |_=>none
def eKys(D:Dc)(Γ:Gm)(p:Pos)(e:Expr)(pos:Pos)(hp:CZ "list"=true)(hg:Bj Γ.nm "list"=true)(hb:Γ.bl.contains "list"=true):Option (ER Γ (.Call (.Name "list" p) [e] [] pos)):=if h:X5 e=true then (D.e Γ e).bind λr=>vl (Bt (BN (g1 CI) (AB r.m AD)) (Fk r.m)) λC=>by
  have hns:Cf e=true:=by cases e<;>first|rfl|cases h
  have hst:=λenv=>GN (env:=env) hns
  have b:=yan.mp hb;exact NO (U8 ZU (C.gl hg) (C.bl _ b) yc2 (U7 (r.ok C).1 UZ (hst _)) (CY hp).2.2 (CY hp).1 (hst _) rfl) (r_kys C.calm (C.gl hg) (C.bl _ b) (r.ok C).1 (hst _))
 else none
def eFn1(Γ:Gm)(f:Str)(p:Pos)(e:Expr)(es:List Expr)(pos:Pos)(a:AR Γ (e::es))(hp:CZ f=true)(hg:Bj Γ.nm f=true):Option (ER Γ (.Call (.Name f p) (e::es) [] pos)) :=
 ob (Γ.fns.lookup f) λF hF=>vl (AN F.g a.m) λC=>by
  obtain⟨hl,⟨D⟩⟩:=C.fs f F hF;exact zme D C.room C.ps (a.ok C) hl (C.gl hg) (CY hp).1 (CA (a.st e (ya7 ..))) (FT λx hx=>a.st x (ya4 e hx))
def eFn(Γ:Gm)(f:Str)(p:Pos)(e:Expr)(es:List Expr)(pos:Pos)(a:AR Γ (e::es))(hp:CZ f=true)(hg:Bj Γ.nm f=true):Option (ER Γ (.Call (.Name f p) (e::es) [] pos)) :=
 oe (Γ.ox.nw.lookup f) (λF hF=>ob (F.2.lookup (e::es).length) λdts hd=>vl (G4 F.1.g dts a.m) λC=>by
   obtain⟨hl,CC,D,hD⟩:=C.gx.nw f F.1 F.2 hF;obtain⟨dvs,us,k1,k2,k3⟩:=hD _ _ hd;exact r_new D k1 k2 k3 C.room C.ps (a.ok C) hl (C.gl hg) (CY hp).1 (CA (a.st e (ya7 ..))) (FT λx hx=>a.st x (ya4 e hx))) <|
 eFn1 Γ f p e es pos a hp hg
def eCal(D:Dc)(Γ:Gm)(f:Str)(p:Pos)(es:List Expr)(ks:List Keyword)(pos:Pos):Option (ER Γ (.Call (.Name f p) es ks pos)):=match es,ks with
 |e::es,[]=>gd (CZ f && Bj Γ.nm f) λhc =>
  have hc:CZ f=true/\Bj Γ.nm f=true:=by
   rw[ya2]at hc;exact hc
  if hb:Γ.bl.contains f=true then
   (if hf : f = "isinstance" then (match f, hf, hc, hb with
    |_,rfl,hc,hb=>eIs D Γ p e es pos hc.2 hb) else
   match es with
   |[] =>
    (if hf : f = "len" then (match f, hf, hc, hb with
     |_,rfl,hc,hb=>(eSet D Γ p e pos hc.2 hb).orElse λ_=>(D.a Γ [e]).bind λa=>L5 a hc.1 hc.2 hb) else
    if hf:f="list" then (match f,hf,hc,hb with
     |_,rfl,hc,hb=>(eKys D Γ p e pos hc.1 hc.2 hb).orElse λ_=>(D.a Γ [e]).bind λa=>L5 a hc.1 hc.2 hb) else
    (D.a Γ [e]).bind λa=>L5 a hc.1 hc.2 hb)
   |_=>(D.a Γ _).bind λa=>L5 a hc.1 hc.2 hb)
  else (D.a Γ (e::es)).bind λa=>eFn Γ f p e es pos a hc.1 hc.2
 |_,_=>none
def ZL(Γ:Gm):(es:List Expr)->Option (GsR Γ es)
 |[]=>some ⟨BG,λ_=>⟨g_nil,rfl,rfl⟩⟩
 |e::es=>(match e with
  |.Name x p=>gd (Γ.loc x) λhl=>ob (DX Γ.N x) λi hi=>(ZL Γ es).bind λr=>some ⟨AQ (AE i) r.m,λ{X} {E} {ca} C=>by
   obtain⟨q1,q2,q3⟩:=r.ok C;refine⟨zoh (Wy C hl hi) q1 rfl,?_,?_⟩
   .show(assignEach es X.env).length+1=es.length+1;rw[q2]
   .show List.findIdx? (·.1) ((false,assign (.Name x p) X.env)::assignEach es X.env)=none
    rw[yde,q3]
    rfl⟩
  |_=>none)
def dG(Γ:Gm):(tg:Expr)->Option (GR Γ tg)
 |.Name x _=>gd (Γ.loc x) λhl=>ob (DX Γ.N x) λi hi=>some ⟨AE i,λC=>Wy C hl hi⟩
 |.Tuple es _ _=>(ZL Γ es).bind λr=>some ⟨BE es.length r.m,λC=>g_tup C.calm (r.ok C).1 (r.ok C).2.1 (r.ok C).2.2⟩
 |_=>none
def iV(D:Dc)(Γ:Gm)(tg e:Expr):Option (IR Γ tg e):=gd (NZ e) λh=>(D.e Γ e).bind λr=>if Γ.ox.tx then some ⟨Ay r.m,λC=>zmd (r.ok C).1,h⟩ else some ⟨H0 r.m,λC=>U2 (r.ok C).1,h⟩
theorem Eg(C:CxOk Γ X E ca)(h:(Bj Γ.nm f && Γ.bl.contains f)=true):Gl X f/\X.mg f=none:=by
 rw[ya2]at h;exact⟨C.gl h.1,C.bl f (yan.mp h.2)⟩
def iRg(D:Dc)(Γ:Gm)(tg a:Expr)(p c:Pos):Option (IR Γ tg (.Call (.Name "range" p) [a] [] c)):=gd (Bj Γ.nm "range" && Γ.bl.contains "range") λh=>(D.a Γ [a]).bind λr=>some ⟨DR r.m,λC=>zgu (Eg C h).1 (Eg C h).2 (r.ok C) (CA (r.st a (ya7 ..))),rfl⟩
def iEn(D:Dc)(Γ:Gm)(tg a:Expr)(p c:Pos):Option (IR Γ tg (.Call (.Name "enumerate" p) [a] [] c)):=match tg with
 |.Tuple ..=>gd (Bj Γ.nm "enumerate" && Γ.bl.contains "enumerate") λh=>(D.a Γ [a]).bind λr=>if Γ.ox.tx then some ⟨X9 r.m,λC=>r_enX (Eg C h).1 (Eg C h).2 (r.ok C) (CA (r.st a (ya7 ..))),rfl⟩ else
  some ⟨CM r.m,λC=>U3 (Eg C h).1 (Eg C h).2 (r.ok C) (CA (r.st a (ya7 ..))),rfl⟩
 |_=>none
def iR2(D:Dc)(Γ:Gm)(tg a b:Expr)(p c:Pos):Option (IR Γ tg (.Call (.Name "range" p) [a,b] [] c)):=gd (Bj Γ.nm "range" && Γ.bl.contains "range") λh=>(D.a Γ [a,b]).bind λr=>some ⟨G6 r.m,λC =>
 have s2:=λenv=>GN (env:=env) (r.st b (ya4 _ (ya7 ..)))
 zgt (Eg C h).1 (Eg C h).2 (r.ok C) (by rw[CA (r.st a (ya7 ..)),s2]) (s2 _),rfl⟩
def iZp(D:Dc)(Γ:Gm)(tg a b:Expr)(p c:Pos):Option (IR Γ tg (.Call (.Name "zip" p) [a,b] [] c)):=match tg with
 |.Tuple ..=>gd (Bj Γ.nm "zip" && Γ.bl.contains "zip") λh=>(D.a Γ [a,b]).bind λr=>some ⟨FI r.m,λC =>
   have s2:=λenv=>GN (env:=env) (r.st b (ya4 _ (ya7 ..)))
   r_zip (Eg C h).1 (Eg C h).2 (r.ok C) (by rw[CA (r.st a (ya7 ..)),s2]) (s2 _),rfl⟩
 |_=>none
def dI(D:Dc)(Γ:Gm)(tg e:Expr):Option (IR Γ tg e):=match e with
 |.Call (.Name f p) es ks c=>(match es,ks with
  |[a],[]=>if h:f="range" then (match f,h with|_,rfl=>iRg D Γ tg a p c) else
   if h:f="enumerate" then (match f,h with|_,rfl=>iEn D Γ tg a p c) else
   iV D Γ tg _
  |[a,b],[] =>
   if h:f="range" then (match f,h with|_,rfl=>iR2 D Γ tg a b p c) else
   if h:f="zip" then (match f,h with|_,rfl=>iZp D Γ tg a b p c) else
   iV D Γ tg _
  |_,_=>iV D Γ tg _)
 |e=>iV D Γ tg e
def dC(D:Dc)(Γ:Gm)(elt tg iter:Expr)(ifs:List Expr)(scope:Scope):Option (LR Γ elt tg iter ifs scope) :=
 gd (JZ Γ scope (Cn tg++Cw scope.names)) λhb=>ob (JV Γ.N (Cw scope.names)) λcaps hc=>(dI D Γ tg iter).bind λri=>(dG (Γ.blk scope (Cn tg++Cw scope.names)) tg).bind λrg=>(D.e (Γ.blk scope (Cn tg++Cw scope.names)) elt).bind λre=>match ifs with
  |[]=>some ⟨BA (Cn tg).length caps ri.m rg.m (mC (.bl true)) re.m,λ{X} {E} {ca} C=>⟨caps,ri.m,rg.m,_,re.m,rfl,Z0 C hb hc,ri.ok C,λcl A s₀ H₀ ex xb E' hp =>
    have C':=Z2 C hb cl A s₀ H₀ ex xb (E':=E') hp
    ⟨rg.ok C',λpins s σ H Q I q=>zjb pins s σ H Q I (Mn (K:=X.K) (E:=E') (ca:=ca) q),(re.ok C').1⟩,PQ ri.ns⟩⟩
  |[c]=>gd (Dp c) λhk=>(D.e (Γ.blk scope (Cn tg++Cw scope.names)) c).bind λrt=>some ⟨BA (Cn tg).length caps ri.m rg.m rt.m re.m,λ{X} {E} {ca} C=>⟨caps,ri.m,rg.m,rt.m,re.m,rfl,Z0 C hb hc,ri.ok C,λcl A s₀ H₀ ex xb E' hp =>
    have C':=Z2 C hb cl A s₀ H₀ ex xb (E':=E') hp
    ⟨rg.ok C',zja (rt.t hk C'),(re.ok C').1⟩,PQ ri.ns⟩⟩
  |_=>none
def eLC(D:Dc)(Γ:Gm)(elt:Expr)(gens:List Comprehension)(scope:Scope)(pos:Pos):Option (ER Γ (.ListComp elt gens scope pos)):=match gens with
 |[⟨tg,iter,ifs,0⟩]=>(dC D Γ elt tg iter ifs scope).bind λr=>vl r.m λC=>by
  obtain⟨caps,mi,b,mt,me,h,B,hi,hg,hs⟩:=r.ok C;rw[h];exact r_lcV B (cq:=λX=>X.calm=true) (λ_ _ _ _ _ _ _ _ _=>C.calm) (Um hi) C.ps C.fr (λcl A s H ex xb E' hp=>(hg cl A s H ex xb E' hp).1) (λcl A s H ex xb E' hp=>(hg cl A s H ex xb E' hp).2.1) (λcl A s H ex xb E' hp=>(hg cl A s H ex xb E' hp).2.2) hs
 |_=>none
def eIf(D:Dc)(Γ:Gm)(c a b:Expr)(pos:Pos):Option (ER Γ (.IfExp c a b pos)):=gd (Dp c) λh=>(D.e Γ c).bind λrc=>(D.e Γ a).bind λra=>(D.e Γ b).bind λrb=>some ⟨DK rc.m ra.m rb.m,λC=>⟨r_ife (rc.t h C) (ra.ok C).1 (rb.ok C).1,λz=>by cases z⟩⟩
def dEs(D:Dc)(Γ:Gm):(e:Expr)->Option (ER Γ e)
 |.Constant c k pos=>eCst Γ c k pos
 |.Name x pos=>eNam Γ x pos
 |.Attribute o f pos=>gd (Fb o) λh=>(D.e Γ o).bind λr=>Pl r h Γ.ox.cl λ_ h=>h
 |.Call f es ks c=>(match f with
  |.Attribute o f ap=>eAtt D Γ o f ap es ks c
  |.Name f p=>eCal D Γ f p es ks c
  |_=>none)
 |.Compare a ops bs pos=>eCmp D Γ a ops bs pos
 |.BinOp a op b pos=>(opF op).bind λg=>(D.e Γ a).bind λra=>(D.e Γ b).bind λrb=>vl (BN (g2 g.g) (AB ra.m (AB rb.m AD))) λC=>U9 g.ok (ra.ok C).1 (rb.ok C).1
 |.UnaryOp op a pos=>eUn D Γ op a pos
 |.BoolOp op vs pos=>(D.b Γ op vs).bind λr=>some ⟨r.m,λC=>⟨(r.ok C).1,λ_=>(r.ok C).2.pt⟩⟩
 |.IfExp c a b pos=>eIf D Γ c a b pos
 |.List es pos=>(D.o Γ es).bind λr=>vl (BX r.m) λC=>U0 (r.ok C)
 |.Tuple es k pos=>(D.a Γ es).bind λr=>vl (BP r.m) λC=>r_tup (r.ok C)
 |.Subscript a k pos=>eSub D Γ a k pos
 |.ListComp elt gens scope pos=>eLC D Γ elt gens scope pos
 |.Dict [] [] pos=>vl Fl λ_=>U4
 |_=>none
def dAs(D:Dc)(Γ:Gm):(es:List Expr)->Option (AR Γ es)
 |[]=>some ⟨AD,λ_=>UZ,λ_ h=>(by cases h),λ_=>rfl⟩
 |e::es=>gd (Cf e) λh=>(D.e Γ e).bind λr=>(D.a Γ es).bind λa=>some ⟨AB r.m a.m,λC=>U7 (r.ok C).1 (a.ok C) (CA h),λx hx=>(yaa.mp hx).elim (λz=>z▸h) (a.st x),λz=>by cases z⟩
def dOs(D:Dc)(Γ:Gm):(es:List Expr)->Option (OR Γ es)
 |[]=>some ⟨AD,λ_=>UY⟩
 |e::es=>gd (Cf e) λh=>(D.e Γ e).bind λr=>(D.o Γ es).bind λa=>some ⟨BB r.m a.m,λC=>U6 (r.ok C).1 (a.ok C) (CA h)⟩
def dBs(D:Dc)(Γ:Gm)(op:BoolOp):(es:List Expr)->Option (BR Γ op es)
 |[]=>none
 |[a]=>gd (Dp a) λh=>(D.e Γ a).bind λr=>some ⟨r.m,λC=>⟨UX (r.ok C).1,by
   cases op with
   |And=>exact UR (r.t h C)
   |Or=>exact UQ (r.t h C)⟩⟩
 |a::b::es=>gd (Dp a) λh=>(D.e Γ a).bind λr=>(D.b Γ op (b::es)).bind λrb=>match op,rb with
  |.And,rb=>some ⟨Ct r.m rb.m,λC=>⟨Ua (r.ok C).1 (rb.ok C).1,US (r.t h C) (rb.ok C).2⟩⟩
  |.Or,rb=>some ⟨BU r.m rb.m,λC=>⟨UW (r.ok C).1 (rb.ok C).1,UP (r.t h C) (rb.ok C).2⟩⟩
noncomputable def pkB:List Str:=["len","isinstance","all","any","abs","min","max","int"]
def isLC:Expr->Bool
 |.ListComp ..=>true
 |_=>false
def B8:Nat->List Str->Expr->List Str
 |0,_,_=>[]
 |n+1,pk,e =>
  let peek:=λ(x:Expr)=>match x with
   |.Name _ _=>[]
   |x=>B8 n pk x
  match e with
  |.Name x _=>[x]
  |.BinOp a _ b _=>B8 n pk a++B8 n pk b
  |.UnaryOp _ a _=>B8 n pk a
  |.BoolOp _ vs _=>vs.flatMap (B8 n pk)
  |.Compare a _ bs _=>peek a++bs.flatMap peek
  |.IfExp c a b _=>B8 n pk c++B8 n pk a++B8 n pk b
  |.Call (.Name f _) args [] _=>if pkB.contains f || pk.contains f then args.flatMap peek else args.flatMap (B8 n pk)
  |.Call (.Attribute _ _ _) args [] _=>args.flatMap λa=>if isLC a then B8 n pk a else []
  |.Subscript a k _=>(match k with
   |.Slice lo hi _ _=>B8 n pk a++(match lo with|some e=>B8 n pk e|none=>[])++(match hi with|some e=>B8 n pk e|none=>[])
   |_=>peek a++B8 n pk k)
  |.List es _=>es.flatMap (B8 n pk)
  |.Tuple es _ _=>es.flatMap (B8 n pk)
  |.ListComp _ [⟨_,iter,_,_⟩] scope _=>B8 n pk iter++Cw scope.names
  |_=>[]
def useS(pk:List Str):Stmt->List Str
 |.Expr (.Call (.Attribute (.Name _ _) _ _) [e] [] _) _=>B8 40 pk e
 |.Expr e _=>B8 40 pk e
 |.Return (some (.Name _ _)) _=>[]
 |.Return (some e) _=>B8 40 pk e
 |.Assign [.Subscript (.Subscript _ k _) j _] e _=>B8 40 pk k++B8 40 pk j++B8 40 pk e
 |.Assign [.Subscript _ k _] e _=>B8 40 pk k++B8 40 pk e
 |.Assign [_] e _=>B8 40 pk e
 |.If c _ _ _=>B8 40 pk c
 |.For _ it _ _ _=>B8 40 pk it
 |.While c _ _ _=>B8 40 pk c
 |_=>[]
def frzs(Γ:Gm)(s:Stmt):List Nat:=((useS Γ.pk s).filter (Γ.ow.contains ·)).eraseDups.filterMap (DX Γ.N)
def PN(l:List Nat)(m:AH):AH:=l.foldr (λi m=>AF (GO i) m) m
def KP(Γ:Gm)(x:Str)(px:Pos):Expr->Bool
 |.ListComp _ _ scope p=>Γ.nm.lookup x == some .local && px.line == p.line && !(scope.names.any λ(n,k)=>n == x && (k == .local || k == .cell))
 |_=>false
def Rz(Γ:Gm)(x:Str):Bool:=Γ.nm.lookup x == some .cell
def HM(Γ:Gm)(x:Str)(i:Nat)(m:AG):AH:=if Γ.ow.contains x then DP i m else Ac m (AE i)
def By(c:Str)(ms:Av):AH:=λτ=>match ms τ with
 |some (.v ts _)=>if ts.length<=BV then some (.xc c τ) else none
 |some (.x c)=>some (.xc c τ)
 |none=>none
section
variable {X:Cx}{E:L2.St->XK}{ca:Str->Value}{Γ:Gm}{mu:Bool}
theorem NB{BO}(h:BI X BO (tS X.K E ca mu w)):∀l ,BI X BO (tS X.K E ca mu (PN l w))
 |[]=>h
 |i::r=>s_frz (NB h r)
theorem KQ(h:Ee e=false):swapsWith e t l env=pure false:=by
 cases e<;>first|rfl|cases h
theorem zdb{env:Env}(h:env.scope.kind=.function):env.blockKind=.function:=by
 unfold Env.blockKind;rw[h]
 rfl
theorem zgn(C:CxOk Γ X E ca){p px:Pos}{x:Str}{l:Nat}(h:KP Γ x px (.ListComp elt gens scope p)=true):swapsWith (.ListComp elt gens scope p) (some (.Name x px)) l X.env=pure true:=by
 have e:swapsWith (.ListComp elt gens scope p) (some (.Name x px)) l X.env=pure (X.env.blockKind == .function && X.env.kindOf x == some .local && px.line == p.line && !(scope.names.any λ(n,k)=>n == x && (k == .local || k == .cell))):=rfl
 rw[e];unfold KP at h
 simp only[ya2]at h;have k:X.env.kindOf x=some .local:=by
  show X.env.scope.names.lookup x=some .local;rw[C.nm]
  grind
 rw[zdb C.kd,k,h.1.2,h.2]
 rfl
theorem zit(C:CxOk Γ X E ca){px}(h:Rz Γ x=true):swapsWith e (some (.Name x px)) l X.env=pure false:=by
 have k:X.env.kindOf x=some .cell:=by
  show X.env.scope.names.lookup x=some .cell;rw[C.nm];exact eq_of_beq h
 have c:(some NameKind.cell == some NameKind.local)=false:=rfl;cases e<;>first|rfl|(unfold swapsWith;grind)
theorem IU(h:Ee e=false):swapsWithSole [t] e l env=pure false:=KQ h
theorem KR(h:FH k=false)(v):assign (.Subscript o k pos) env v=(do
   let ov <- holding [v] (eval o env);let iv <- holding [v,ov] (eval k env)
   standAt pos
   holding [v,ov,iv] (setItem ov iv v)
   release [v,ov,iv] []):=by
 cases k<;>first|rfl|cases h
theorem s_rse(C:CxOk Γ X E ca)(hnr:Γ.ox.nr=false)(hpn:EI c=none)(hc:c∈Γ.ex)(hg:Bj Γ.nm c=true)(hp:CZ c=true)(ha:PA X (e::es) (Bg X.K E ca ms))(hs:∀x∈e::es,Cf x=true) :
  PS X (.Raise (some (.Call (.Name c p) (e::es) [] cpos)) none pos) (tS X.K E ca mu (By c ms)):=by
 obtain⟨T,hT,hni⟩:=C.ex c hc;obtain⟨p1,p2,p3⟩:=CY hp;refine PS.weak (zgy T hni C.calm (C.md hnr) ha (C.gl hg) p1 (CA (hs e (ya7 ..))) (FT hs)) λD σ H h=>?_
 obtain⟨F,τ,R,S,q⟩:=h;refine⟨F,τ,R,S,?_⟩;unfold By at q;cases hm:ms τ with
 |none=>simp only[hm]at q<;>exact q.elim
 |some r =>
  simp only[hm]at q;cases r with
  |x c=>exact λF' H' e=>q F' H' σ R e.stp0 (S.ext e)
  |v ts b =>
   intro F' H' xs e1 rs
   by_cases hz:ts.length<=BV
   .simp only[hz,ye4]at q;refine⟨by rw[<- rs.1,<- Eb];exact hz,?_⟩
    have:=(q F' H' σ R e1.stp0 (S.ext e1)).plain hpn;rw[hT]at this;exact this
   .simp only[hz,yeg]at q<;>exact q.elim
end
theorem Za{px pos}(hl:Γ.loc x=true)(hi:DX Γ.N x=some i)(C:CxOk Γ X E ca)(he:PE X e (tM X.K E ca m))(sw:∀l,swapsWith e (some (.Name x px)) l X.env=pure false) :
  PS X (.Assign [.Name x px] e pos) (tS X.K E ca mu (HM Γ x i m)):=by
 obtain⟨g1,g2,g3⟩:=C.loc hl hi;unfold HM;split
 .exact zm3 C.nodup g1 g2 he (sw _) g3
 .exact SV C.nodup g1 g2 he (sw _) g3
def aLC(D:Dc)(Γ:Gm)(x:Str)(i:Nat)(px pos:Pos)(hi:DX Γ.N x=some i):(e:Expr)->Option (SR Γ (.Assign [.Name x px] e pos))
 |.ListComp elt gens scope p=>gd (KP Γ x px (.ListComp elt gens scope p)) λhw=>(match gens,hw with
  |[⟨tg,iter,ifs,0⟩],hw=>(dC D Γ elt tg iter ifs scope).bind λr=>some ⟨HM Γ x i r.m,λ{X} {E} {ca} C=>by
   have lx:X.env.scope.names.lookup x=some .local:=by
    unfold KP at hw;simp only[ya2]at hw;rw[C.nm];exact eq_of_beq hw.1.1
   have hN:X.N[i]?=some x:=by rw[C.N];exact G5 hi
   obtain⟨caps,mi,b,mt,me,h,B,hi',hg,hs⟩:=r.ok C;rw[h];have main:=r_lcS (pos2:=pos) B C.calm hi' C.ps C.fr (λcl A s H ex xb E' hp=>(hg cl A s H ex xb E' hp).1) (λcl A s H ex xb E' hp=>(hg cl A s H ex xb E' hp).2.1) (λcl A s H ex xb E' hp=>(hg cl A s H ex xb E' hp).2.2) hs C.nodup hN lx (zgn C hw)
   unfold HM;split
   .exact PS.weak main λD σ H h=>Rc h
   .exact PS.weak main λD σ H h=>Mj (g:=JQ i) (λ_ _ _ _ z=>Xk z) h⟩
  |_,_=>none)
 |_=>none
def aNm(D:Dc)(Γ:Gm)(x:Str)(px:Pos)(e:Expr)(pos:Pos):Option (SR Γ (.Assign [.Name x px] e pos)):=gd (Γ.loc x) λhl=>ob (DX Γ.N x) λi hi =>
 if hc:Ee e=false then (D.e Γ e).bind λr=>some ⟨HM Γ x i r.m,λC=>Za hl hi C (r.ok C).1 λ_=>KQ hc⟩
 else if hn:Rz Γ x=true then (D.e Γ e).bind λr=>some ⟨HM Γ x i r.m,λC=>Za hl hi C (r.ok C).1 λ_=>zit C hn⟩
 else aLC D Γ x i px pos hi e
def aTup(D:Dc)(Γ:Gm)(ts:List Expr)(kt:Nat)(pt:Pos)(e:Expr)(pos:Pos):Option (SR Γ (.Assign [.Tuple ts kt pt] e pos)):=gd (!(zo9 e || Ee e)) λhc=>(dG Γ (.Tuple ts kt pt)).bind λrg=>(D.e Γ e).bind λr=>some ⟨Ac r.m rg.m,λC=>by
 have hc':=C0 hc;rw[yb0]at hc';refine zm0 (r.ok C).1 (rg.ok C) (IU hc'.2) ?_ rfl;have ht:=hc'.1;cases e<;>first|rfl|cases ht⟩
def aTp(D:Dc)(Γ:Gm)(ts:List Expr)(kt:Nat)(pt:Pos)(e:Expr)(pos:Pos):Option (SR Γ (.Assign [.Tuple ts kt pt] e pos)) :=
 aTup D Γ ts kt pt e pos
def aDps(D:Dc)(Γ:Gm)(x:Str)(p1:Pos)(j:Expr)(p3:Pos)(e:Expr)(pos:Pos):Option (SR Γ (.Assign [.Subscript (.Name x p1) j p3] e pos)):=gd (!(FH j || Ee e)) λhc=>ob (Γ.var x) λi hi=>(D.e Γ j).bind λrk=>(D.e Γ e).bind λr=>some ⟨HJ i rk.m r.m,λC=>by
 have hc':=C0 hc;rw[yb0]at hc';obtain⟨v1,v2,v3,v4⟩:=C.var (pos:=p1) hi;refine s_dps (by have:=C.room.units;omega) v1 v2 v3 v4 (r.ok C).1 (rk.ok C).1 (IU hc'.2) ?_ (KR hc'.1)
 cases e<;>rfl⟩
def aSto(D:Dc)(Γ:Gm)(x:Str)(p1:Pos)(j:Expr)(p3:Pos)(e:Expr)(pos:Pos):Option (SR Γ (.Assign [.Subscript (.Name x p1) j p3] e pos)):=gd (!(FH j || Ee e)) λhc=>ob (Γ.var x) λi hi=>(D.e Γ j).bind λrk=>(D.e Γ e).bind λr=>some ⟨FY i rk.m r.m,λC=>by
 have hc':=C0 hc;rw[yb0]at hc';obtain⟨v1,v2,v3,v4⟩:=C.var (pos:=p1) hi;refine s_sto v1 v2 v3 v4 (r.ok C).1 (rk.ok C).1 (IU hc'.2) ?_ (KR hc'.1);cases e<;>rfl⟩
def aSt2(D:Dc)(Γ:Gm)(x:Str)(p1:Pos)(j0:Expr)(p2:Pos)(j:Expr)(p3:Pos)(e:Expr)(pos:Pos):Option (SR Γ (.Assign [.Subscript (.Subscript (.Name x p1) j0 p2) j p3] e pos)):=gd (!(FH j0 || FH j || Ee e)) λhc=>ob (Γ.var x) λi hi=>(D.e Γ j0).bind λr0=>(D.e Γ j).bind λrk=>(D.e Γ e).bind λr=>some ⟨IY i r0.m rk.m r.m,λC=>by
 have hc':=C0 hc;rw[yb0,yb0]at hc';obtain⟨v1,v2,v3,v4⟩:=C.var (pos:=p1) hi;refine zlz v1 v2 v3 v4 (r.ok C).1 (r0.ok C).1 (rk.ok C).1 (K7 hc'.1.1) (IU hc'.2) ?_ (KR hc'.1.2);cases e<;>rfl⟩
theorem Ov{fs:List Str}(h:fs.findIdx? (· == f)=some j):f∈fs/\fs[j]?=some f:=by
 obtain⟨q1,q2,_⟩:=yav.mp h
 grind
def aDpf(D:Dc)(Γ:Gm)(x f:Str)(p1 p2:Pos)(j:Expr)(p3:Pos)(e:Expr)(pos:Pos):Option (SR Γ (.Assign [.Subscript (.Attribute (.Name x p1) f p2) j p3] e pos)):=gd (!(FH j || Ee e)) λhc=>ob Γ.ox.sf λc hs=>ob (Γ.var x) λi hi=>ob (c.2.findIdx? (· == f)) λjj hj=>(D.e Γ j).bind λrk=>(D.e Γ e).bind λr=>some ⟨HL c.1 c.2 jj i rk.m r.m,λC=>by
 have hc':=C0 hc;rw[yb0]at hc';obtain⟨v1,v2,v3,v4⟩:=C.var (pos:=p1) hi;obtain⟨k1,k2⟩:=C.gx.sf c.1 c.2 hs;refine s_dpf (by have:=C.room.units;omega) k1 (k2 f (Ov hj).1) hj v1 v2 v3 v4 (r.ok C).1 (rk.ok C).1 (IU hc'.2) ?_ (KR hc'.1)
 cases e<;>rfl⟩
theorem Yk(hs:Γ.ox.sf=some c)(hi:Γ.var x=some i)(hj:c.2.findIdx? (· == f)=some jj)(hc:(!((c.2.take jj).contains f || !(decide (jj<900))))=true)(C:CxOk Γ X E ca)(he:PE X e (tM X.K E ca m)) :
  PS X (.Assign [.Attribute (.Name x p1) f p2] e pos) (tS X.K E ca Γ.mu (CW c.1 c.2 jj i m)):=by
 have hc':=C0 hc;rw[yb0,Bool.not_eq_false',yec]at hc';obtain⟨c1,c2⟩:=hc';obtain⟨v1,v2,v3,v4⟩:=C.var (pos:=p1) hi;obtain⟨k1,k2⟩:=C.gx.sf c.1 c.2 hs;exact zm4 k1 (k2 f (Ov hj).1) (Ov hj).2 c1 c2 v1 v2 v3 v4 he (by cases e<;>rfl)
def aFl(D:Dc)(Γ:Gm)(x f:Str)(p1 p2:Pos)(e:Expr)(pos:Pos):Option (SR Γ (.Assign [.Attribute (.Name x p1) f p2] e pos)):=ob Γ.ox.sf λc hs=>ob (Γ.var x) λi hi=>ob (c.2.findIdx? (· == f)) λjj hj=>gd (!((c.2.take jj).contains f || !(decide (jj<900)))) λhc=>match e,hc with
 |.Dict [] [] p,hc=>some ⟨CW c.1 c.2 jj i Fl,λC=>Yk hs hi hj hc C U4⟩
 |e,hc=>(D.e Γ e).bind λr=>some ⟨CW c.1 c.2 jj i r.m,λC=>Yk hs hi hj hc C (r.ok C).1⟩
def aSub(D:Dc)(Γ:Gm)(a j:Expr)(p3:Pos)(e:Expr)(pos:Pos):Option (SR Γ (.Assign [.Subscript a j p3] e pos)):=match a with
 |.Name x p1 =>
  if Γ.dc.contains x then aDps D Γ x p1 j p3 e pos else
  aSto D Γ x p1 j p3 e pos
 |.Subscript (.Name x p1) j0 p2=>aSt2 D Γ x p1 j0 p2 j p3 e pos
 |.Attribute (.Name x p1) f p2=>aDpf D Γ x f p1 p2 j p3 e pos
 |_=>none
def dAsg(D:Dc)(Γ:Gm)(ts:List Expr)(e:Expr)(pos:Pos):Option (SR Γ (.Assign ts e pos)):=match ts with
 |[t]=>(match t with
  |.Name x px=>aNm D Γ x px e pos
  |.Tuple ts kt pt=>aTp D Γ ts kt pt e pos
  |.Subscript a j p3=>aSub D Γ a j p3 e pos
  |.Attribute o f p2=>(match o with
   |.Name x p1=>aFl D Γ x f p1 p2 e pos
   |_=>none)
  |_=>none)
 |_=>none
def xApp(D:Dc)(Γ:Gm)(x:Str)(p:Pos)(f:Str)(apos:Pos)(a:Expr)(cpos pos:Pos):Option (SR Γ (.Expr (.Call (.Attribute (.Name x p) f apos) [a] [] cpos) pos)):=gd (Cf a) λh1=>gd (apos.endLine == cpos.line) λh2=>ob (Γ.var x) λi hi=>(D.e Γ a).bind λr =>
 if hf:f="append" then some ⟨ED i r.m,λC=>by
  subst hf;obtain⟨v1,v2,v3,v4⟩:=C.var (pos:=p) hi;exact s_app v1 v2 v3 v4 (r.ok C).1 (GN h1) h2⟩ else
 none
def RE(D:Dc)(Γ:Gm)(e:Expr)(pos:Pos):Option (SR Γ (.Expr e pos)):=gd (!(Ee e)) λhc=>(D.e Γ e).bind λr=>some ⟨GQ r.m,λC=>s_exp (r.ok C).1 (KQ (C0 hc))⟩
def xDap(D:Dc)(Γ:Gm)(x:Str)(p:Pos)(k:Expr)(p2:Pos)(f:Str)(apos:Pos)(a:Expr)(cpos pos:Pos):Option (SR Γ (.Expr (.Call (.Attribute (.Subscript (.Name x p) k p2) f apos) [a] [] cpos) pos)):=gd (Cf a) λh1=>gd (apos.endLine == cpos.line) λh2=>gd (!(FH k)) λh3=>ob (Γ.var x) λi hi=>(D.e Γ k).bind λrk=>(D.e Γ a).bind λr =>
 if hf:f="append" then some ⟨Ia i rk.m r.m,λC=>by
  subst hf;obtain⟨v1,v2,v3,v4⟩:=C.var (pos:=p) hi;exact s_dap (by have:=C.room.units;omega) v1 v2 v3 v4 (rk.ok C).1 (K7 (C0 h3)) (r.ok C).1 (GN h1) h2⟩ else none
def xIns(D:Dc)(Γ:Gm)(x:Str)(p:Pos)(f:Str)(apos:Pos)(k a:Expr)(cpos pos:Pos):Option (SR Γ (.Expr (.Call (.Attribute (.Name x p) f apos) [k,a] [] cpos) pos)):=if hf:f="insert" then gd (Cf a) λh1=>gd (Cf k) λh0=>gd (apos.endLine == cpos.line) λh2=>ob (Γ.var x) λi hi=>(D.e Γ k).bind λrk=>(D.e Γ a).bind λr=>some ⟨IZ i rk.m r.m,λC=>by
  subst hf;obtain⟨v1,v2,v3,v4⟩:=C.var (pos:=p) hi;exact s_ins v1 v2 v3 v4 (rk.ok C).1 (r.ok C).1 (GN h1) (CA h0) h2⟩ else RE D Γ _ pos
def dX(D:Dc)(Γ:Gm)(e:Expr)(pos:Pos):Option (SR Γ (.Expr e pos)):=match e with
 |.Call (.Attribute (.Name x p) f apos) [a] [] cpos=>xApp D Γ x p f apos a cpos pos
 |.Call (.Attribute (.Subscript (.Name x p) k p2) f apos) [a] [] cpos=>xDap D Γ x p k p2 f apos a cpos pos
 |.Call (.Attribute (.Name x p) f apos) [k,a] [] cpos=>xIns D Γ x p f apos k a cpos pos
 |e=>RE D Γ e pos
def xRet(D:Dc)(Γ:Gm)(o:Option Expr)(pos:Pos):Option (SR Γ (.Return o pos)):=gd (!Γ.mu) λhmu=>match o with
 |none=>some ⟨ND,λC=>by rw[C0 hmu];exact zm1⟩
 |some e=>(D.e Γ e).bind λr=>some ⟨AM r.m,λC=>by rw[C0 hmu];exact SX (r.ok C).1⟩
def xRse(D:Dc)(Γ:Gm)(a b:Option Expr)(pos:Pos):Option (SR Γ (.Raise a b pos)):=match a,b with
 |some (.Call (.Name c p) (e::es) [] cp),none =>
  gd (!(Γ.ox.nr)) λh1=>gd ((EI c).isNone) λh0=>gd (Γ.ex.contains c) λh2=>gd (Bj Γ.nm c) λh3=>gd (CZ c) λh4=>(D.a Γ (e::es)).bind λr=>some ⟨By c r.m,λC=>s_rse C (C0 h1) (Option.isNone_iff_eq_none.mp h0) (yan.mp h2) h3 h4 (r.ok C) r.st⟩
 |_,_=>none
def xFor(D:Dc)(Γ:Gm)(tg it:Expr)(body els:List Stmt)(pos:Pos):Option (SR Γ (.For tg it body els pos)):=match els with
 |[]=>gd (!(Γ.ox.nr)) λh=>(dI D Γ tg it).bind λri=>(dG Γ tg).bind λrg=>(D.q Γ body).bind λr=>some ⟨Bo ri.m rg.m r.m,λC=>s_for (C.po (C0 h)) C.calm (ri.ok C) (rg.ok C) (r.ok C) (PQ ri.ns)⟩
 |_=>none
def xWh(D:Dc)(Γ:Gm)(c:Expr)(body els:List Stmt)(pos:Pos):Option (SR Γ (.While c body els pos)):=match els with
 |[]=>gd (!(Γ.ox.nr)) λh=>gd (Dp c) λhk=>(D.e Γ c).bind λrc=>(D.q Γ body).bind λr=>some ⟨Ew rc.m r.m,λC=>s_wh (C.po (C0 h)) (rc.t hk C) (r.ok C)⟩
 |_=>none
structure CxS(Γ:Gm)(X:Cx)(ca:Str->Value):Prop where
 N:X.N=Γ.N
 nd:Γ.N.Nodup
 nm:X.env.scope.names=Γ.nm
 rm:Room Γ.lv (VF X.A)
 bl:∀b∈Γ.bl,X.mg b=none
 gx:GxOk Γ.ox Γ.lv X.prog X.w X.K X.mg X.base ca
theorem CxS.var(C:CxS Γ X ca)(h:Γ.var x=some i):X.N[i]?=some x/\C8 X.env.scope x/\(x == "__debug__")=false/\(x == "__classdict__")=false:=by
 unfold Gm.var at h;split at h
 .rename_i hp;rw[ya2]at hp;obtain⟨p1,p2,p3⟩:=CY hp.1;exact⟨by rw[C.N];exact G5 h,RO (by rw[C.nm];exact hp.2),p1,p2⟩
 .cases h
theorem CxS.gl(C:CxS Γ X ca)(h:Bj Γ.nm x=true):Gl X x:=by
 show X.env.scope.names.lookup x=some .globalImplicit;rw[C.nm];exact eq_of_beq h
structure XR(Γ:Gm)(e:Expr) where
 m:AG
 ok:∀{X:Cx} {E:L2.St->XK} {ca:Str->Value},CxS Γ X ca->PE X e (tM X.K E ca m)/\(Dp e=true->PT X e (BH X.K E ca m))
structure XQ(Γ:Gm)(ss:List Stmt) where
 m:AH
 ok:∀{X:Cx} {E:L2.St->XK} {ca:Str->Value},CxS Γ X ca->BI X ss (tS X.K E ca false m)
def xv{Γ:Gm}{e:Expr}(m:AG)(h:∀{X:Cx} {E:L2.St->XK} {ca:Str->Value},CxS Γ X ca->PE X e (tM X.K E ca m))(t:KH e:=by trivial):Option (XR Γ e):=some ⟨m,λC=>⟨h C,λ_=>NN (h C) (R5 t)⟩⟩
structure XO(Γ:Gm)(es:List Expr) where
 m:Av
 ok:∀{X:Cx} {E:L2.St->XK} {ca:Str->Value},CxS Γ X ca->PA X es (HG X.K E ca m)
def RD{Γ:Gm}(f:(e:Expr)->Option (XR Γ e)):(es:List Expr)->Option (XO Γ es)
 |[]=>some ⟨AD,λ_=>UY⟩
 |e::es=>gd (Cf e) λh=>(f e).bind λr=>(RD f es).bind λa=>some ⟨BB r.m a.m,λC=>U6 (r.ok C).1 (a.ok C) (CA h)⟩
structure XB(Γ:Gm)(op:BoolOp)(es:List Expr) where
 m:AG
 ok:∀{X:Cx} {E:L2.St->XK} {ca:Str->Value} {pos:Pos},CxS Γ X ca->PE X (.BoolOp op es pos) (tM X.K E ca m)/\PW X (.BoolOp op es pos) (BH X.K E ca m)
def RF{Γ:Gm}(f:(e:Expr)->Option (XR Γ e))(op:BoolOp):(es:List Expr)->Option (XB Γ op es)
 |[]=>none
 |[a]=>gd (Dp a) λh=>(f a).bind λr=>some ⟨r.m,λC=>⟨UX (r.ok C).1,by
   cases op with
   |And=>exact UR ((r.ok C).2 h)
   |Or=>exact UQ ((r.ok C).2 h)⟩⟩
 |a::b::es=>gd (Dp a) λh=>(f a).bind λr=>(RF f op (b::es)).bind λrb=>match op,rb with
  |.And,rb=>some ⟨Ct r.m rb.m,λC=>⟨Ua (r.ok C).1 (rb.ok C).1,US ((r.ok C).2 h) (rb.ok C).2⟩⟩
  |.Or,rb=>some ⟨BU r.m rb.m,λC=>⟨UW (r.ok C).1 (rb.ok C).1,UP ((r.ok C).2 h) (rb.ok C).2⟩⟩
def xIs(Γ:Gm)(f:(e:Expr)->Option (XR Γ e))(p:Pos)(a:Expr)(d:Str)(q c:Pos):Option (XR Γ (.Call (.Name "isinstance" p) [a,.Name d q] [] c)):=gd (Bj Γ.nm "isinstance") λc1=>gd (Γ.bl.contains "isinstance") λc2=>gd (Bj Γ.nm d) λc3=>gd (CZ d) λc4=>gd (Cf a) λc5=>(f a).bind λr =>
 oe (Γ.ox.sb.lookup d) (λtb ht=>xv (BN (g1 (EN tb)) (AB r.m AD)) λC=>by
  obtain⟨A,k1,k2⟩:=C.gx.sb d tb ht;exact U1 (C.gl c1) (C.bl _ (yan.mp c2)) (NR (v:=.ref A) (C.gl c3) k1 rfl (CY c4).1) ⟨A,.inl rfl⟩ k2 (r.ok C).1 (CA c5)) <|
 ob (Γ.ox.sv.lookup d) λtb ht=>xv (BN (g1 (EN tb)) (AB r.m AD)) λC=>by
  obtain⟨k0,t,k1,k2⟩:=C.gx.sv d tb ht;exact U1 (C.gl c1) (C.bl _ (yan.mp c2)) (Ut (v:=.ty t) (C.gl c3) k0 k1 rfl (CY c4).2.2 (CY c4).1) ⟨0,.inr ⟨t,rfl⟩⟩ k2 (r.ok C).1 (CA c5)
def xE(Γ:Gm):Nat->(e:Expr)->Option (XR Γ e)
 |0,_=>none
 |n+1,e=>match e with
  |.Name x p=>ob (Γ.var x) λi hi=>xv (AA i) λC=>by
   obtain⟨h1,h2,h3,h4⟩:=C.var hi;exact UT h1 h2 h3 h4
  |.Constant c k p=>(match c with
   |.none=>xv (mC .non) λ_=>Ic Uq λ_ _=>.non
   |_=>none)
  |.BoolOp op vs p=>(RF (xE Γ n) op vs).bind λr=>some ⟨r.m,λC=>⟨(r.ok C).1,λ_=>(r.ok C).2.pt⟩⟩
  |.List es p=>(RD (xE Γ n) es).bind λr=>xv (BX r.m) λC=>U0 (r.ok C)
  |.BinOp a .Add b p=>(xE Γ n a).bind λra=>(xE Γ n b).bind λrb=>xv (BN (g2 B7) (AB ra.m (AB rb.m AD))) λC=>U9 VC (ra.ok C).1 (rb.ok C).1
  |.Call (.Name f p) [a,.Name d q] [] c=>if hf:f="isinstance" then (match f,hf with|_,rfl=>xIs Γ (xE Γ n) p a d q c) else none
  |_=>none
def xS(Γ:Gm):Nat->(ss:List Stmt)->Option (XQ Γ ss)
 |0,_=>none
 |n+1,ss=>match ss with
  |[]=>some ⟨A4,λ_=>Sf⟩
  |s::r=>(match s with
   |.Return (some e) p=>(match r with
    |[]=>(xE Γ 50 e).bind λq=>some ⟨AM q.m,λC=>Mz (SX (q.ok C).1)⟩
    |_=>none)
   |.Assign [.Name x q] e p=>gd (Γ.loc x) λh1=>gd (Γ.nm.lookup x == some .local) λh2=>gd (!(Ee e)) λh3=>ob (DX Γ.N x) λi hi=>(xE Γ 50 e).bind λre=>(xS Γ n r).bind λrs=>some ⟨AF (Ac re.m (AE i)) rs.m,λ{X} {E} {ca} C=>by
    have hl:X.env.scope.names.lookup x=some .local:=by rw[C.nm];exact eq_of_beq h2
    exact NC (SV (by rw[C.N];exact C.nd) (by rw[C.N];exact G5 hi) (.inl hl) (re.ok C).1 (KQ (C0 h3)) (.inr hl)) (rs.ok C)⟩
   |_=>none)
theorem zop{Γ:Gm}{X:Cx}(C:CxOk Γ X E ca)(hp:BK (Dy X pins xe) E'):CxOk { Γ with ox:={ Γ.ox with nr:=true}} (Dy X pins xe) E' ca :=
 ⟨C.N,C.nd,C.nm,C.kd,C.calm,C.room,C.ce,C.bl,hp,λz=>(by cases z),λz=>(by cases z),Wk,C.fs,C.ex,C.ms,⟨C.gx.co,C.gx.cl,C.gx.mt,C.gx.nw,C.gx.sf,C.gx.xs,C.gx.sb,C.gx.sv,C.gx.ci,C.gx.x2,C.gx.wd,C.gx.ti,C.gx.dn,C.gx.rn⟩,C.tr,C.fr⟩
def xTr1(D:Dc)(Γ:Gm)(body:List Stmt)(W:Str)(np:Pos)(x:Str)(b0:Stmt)(suite:List Stmt)(hpos pos:Pos):Option (SR Γ (.Try body [.ExceptHandler (some (.Name W np)) (some x) (b0::suite) hpos] [] [] pos)):=gd (Γ.ox.df && !(Γ.ox.nr) && !(Γ.mu) && (Γ.nm.lookup x == some .local) && Bj Γ.nm W && CZ W) λhc=>ob (DX Γ.N x) λi hi=>ob (Γ.ox.xs.lookup W) λcs h2=>(D.q { Γ with ox:={ Γ.ox with nr:=true } } body).bind λu=>(xS Γ 50 (b0::suite)).bind λh=>some ⟨HI i cs u.m h.m,λ{X} {E} {ca} C=>by
 simp only[ya2,Bool.not_eq_true']at hc;obtain⟨⟨⟨⟨⟨c1,c2⟩,c3⟩,c4⟩,c5⟩,c6⟩:=hc;obtain⟨T,hT⟩:=C.gx.xs W cs h2;obtain⟨t1,t2⟩:=C.tr c1;have g:∀(E':L2.St->XK) pins xe,BK (Dy X pins xe) E'->BI (Dy X pins xe) body (tS X.K E' ca Γ.mu u.m):=λE' pins xe hp=>u.ok (zop C hp)
 generalize u.m=um at g ⊢;rw[c3]at g ⊢;exact s_try T hT t1 t2 C.nodup (by rw[C.N];exact G5 hi) (by rw[C.nm];exact eq_of_beq c4) g (λa=>pss_e (h.ok ⟨C.N,C.nd,C.nm,⟨rfl,C.room.dp,C.room.un⟩,C.bl,C.gx⟩)) (C.gl c5) (CY c6).1⟩
def xTry(D:Dc)(Γ:Gm)(body:List Stmt)(hs:List ExceptHandler)(els As:List Stmt)(pos:Pos):Option (SR Γ (.Try body hs els As pos)):=match hs,els,As with
 |[.ExceptHandler (some (.Name W np)) (some x) (b0::suite) hpos],[],[]=>xTr1 D Γ body W np x b0 suite hpos pos
 |_,_,_=>none
def dSt(D:Dc)(Γ:Gm):(s:Stmt)->Option (SR Γ s)
 |.Pass _=>some ⟨A4,λ_=>zm2⟩
 |.Return o pos=>xRet D Γ o pos
 |.Expr e pos=>dX D Γ e pos
 |.Assign ts e pos=>dAsg D Γ ts e pos
 |.If c a b pos=>gd (Dp c) λh=>(D.e Γ c).bind λrc=>(D.q Γ a).bind λra=>(D.q Γ b).bind λrb=>some ⟨A5 rc.m ra.m rb.m,λC=>s_if (rc.t h C) (ra.ok C) (rb.ok C)⟩
 |.For tg it body els pos=>xFor D Γ tg it body els pos
 |.While c body els pos=>xWh D Γ c body els pos
 |.Raise a b pos=>xRse D Γ a b pos
 |.Try body hs els As pos=>xTry D Γ body hs els As pos
 |_=>none
def dSq(D:Dc)(Γ:Gm):(ss:List Stmt)->Option (QR Γ ss)
 |[]=>some ⟨A4,λ_=>Sf⟩
 |[s]=>(match D.s Γ s with
  |some r=>some ⟨PN (frzs Γ s) r.m,λC=>NB (Mz (r.ok C)) _⟩
  |none=>if Γ.ox.no then some ⟨K1,λ_=>Mz Se⟩ else none)
 |s::s2::r=>(D.q Γ (s2::r)).bind λrs=>match D.s Γ s with
  |some q=>some ⟨PN (frzs Γ s) (AF q.m rs.m),λC=>NB (NC (q.ok C) (rs.ok C)) _⟩
  |none=>if Γ.ox.no then some ⟨AF K1 rs.m,λC=>NC Se (rs.ok C)⟩ else none
def Gf:Nat->Dc
 |0=>⟨λ_ _=>none,λ_ _=>none,λ_ _=>none,λ_ _ _=>none,λ_ _=>none,λ_ _=>none⟩
 |n+1=>⟨dEs (Gf n),dAs (Gf n),dOs (Gf n),dBs (Gf n),dSt (Gf n),dSq (Gf n)⟩
def L7(n:Nat)(Γ:Gm)(ss:List Stmt):Option (AH):=((Gf n).q Γ ss).map QR.m
structure GoodS(ca:Str->Value)(n:Nat):Prop where
 ss:∀{Γ:Gm} {X:Cx} {E:L2.St->XK} {st:List Stmt} {m:AH},CxOk Γ X E ca->L7 n Γ st=some m->BI X st (tS X.K E ca Γ.mu m)
theorem Xd(ca)(n):GoodS ca n:=⟨λC h=>by
 obtain⟨r,_,rfl⟩:=yad.mp h;exact r.ok C⟩
end Pu
end
namespace Pu
open PySem PySem.Spec PyProof.Rows L2 Zw Zx
theorem Wj:True:=trivial
noncomputable def NK(n:Nat)(u:AH)(ts:List T):Option Ru:=match u (ts.map some++List.replicate (n - ts.length) none) with
 |some (.rt t)=>some (.ok t)
 |some (.nx _)=>some (.ok .non)
 |some (.xc c _)=>some (.exc c)
 |_=>none
def AX(k n:Nat)(u:AH)(ts:List T):Option Ru:=if ts.length=k then NK n u ts else none
theorem Ms(hR:∀i a,¬ R i a)(s:Stp F H (tot R) F' H' O'):Ext F H F' H' O' where
 hh:=λb u e=>s.kp b u (λ⟨i,z⟩=>hR i b z) e
 ff:=s.ff
 fh:=s.fh
 nb:=λb z=>(s.nw b z).elim (λ⟨i,w⟩=>absurd w (hR i b)) id
 nf:=λb u e=>(s.nf b u e).elim .inl λz=>z.elim (λ⟨i,w⟩=>absurd w (hR i b)) .inr
theorem zgo{K}(fh:A2 F H)(r:Ai K F ts vs):StR K F H (start N vs) (ts.map some++List.replicate (N.length - ts.length) none) (λ_=>R0):=by
 have hl:=r.1;refine⟨fh,by simp[L2.start,hl],λi t e=>?_,λ_ _ z=>z.elim,λ_ _ _ _ z=>z.elim⟩
 unfold L2.start
 by_cases hi:i<ts.length
 .rw[yau (by simpa using hi),ya8]at e
  obtain⟨t',e1,e2⟩:=yad.mp e;cases e2;have hv:i<vs.length:=by omega
  refine⟨vs[i],?_,(r.2 i t vs[i] e1 (ya0 hv)).any⟩
  grind
 grind
theorem zm7{K}{N ps:List Str}(h:B3 K ca (AX ps.length N.length u) vs H Q E):tS K (λ_=>E) ca false u { nx:=λ_ H'=>Q .non H',rt:=Q} (start N vs) H:=by
 obtain⟨F',ts,fh,r,q⟩:=h;refine⟨F',_,_,zgo fh r,?_⟩;unfold AX at q
 by_cases hl:ts.length=ps.length
 .simp only[hl]at q;unfold NK at q;cases ho:u (ts.map some++List.replicate (N.length - ts.length) none) with
  |none=>grind
  |some o =>
   simp only[ho]at q;cases o with
   |nx τ=>exact λF1 H1 σ1 R1 s1 S1=>q F1 H1 .non R0 ((Ms (λ_ _ z=>z) s1).mono λ_ z=>z.elim) .non
   |rt t=>exact λF1 H1 x B s1 r1=>q F1 H1 x B (Ms (λ_ _ z=>z) s1) r1
   |bk τ=>exact q.elim
   |ct τ=>exact q.elim
   |xc c τ=>exact λF1 H1 σ1 R1 s1 S1=>q F1 H1 ((Ms (λ_ _ z=>z) s1).mono λ_ z=>z.elim)
 grind
theorem YA{K}{st:Stmt}{f:Addr}{Γ:Gm}(F:FunD K x qual st f fd)(S:FnScope N ps (Bl st))
  (hΓ:Γ.N=N) (hnm:Γ.nm=(Bl st).names) (hce:∀x∈Γ.ce,Γ.nm.lookup x=some .cell) (hlv:Γ.lv=k) (hbl:∀b∈Γ.bl,mg b=none)
  (hfs:∀f F,Γ.fns.lookup f=some F->F.lv<=k/\Nonempty (DefX P w K mg base F.lv f F.ps (B3 K ca F.g))) (hex:∀c∈Γ.ex,∃T:ECls K mg c,ca c=.ref T.C/\Cv K T.C=some none)
  (hms:∀f F,Γ.mus.lookup f=some F->F.lv<=k/\Nonempty (DefX P w K mg base F.lv f F.ps (Es K ca F.g))) (hmu:Γ.mu=false) (hgx:GxOk Γ.ox k P w K mg base ca) (hu:L7 n Γ (Dx st)=some u):FnOk P w K mg base (Cb P w) (k+1) f fd ps (B3 K ca (AX ps.length N.length u)):=by
 refine VE F S (λvs H Q E h=>?_) λcdv A outer s H vs Q E hr h=>?_
 .obtain⟨F',ts,_,r,q⟩:=h;unfold AX at q
  by_cases hl:ts.length=ps.length
  .rw[<- r.1,hl]
  grind
 .have C:CxOk Γ (Dz (Cb P w) P w K mg base N qual (Bl st) f cdv A outer s H E) (λ_=>E) ca:=by
   refine⟨hΓ.symm,by rw[hΓ];exact S.nd,hnm.symm,S.kind,rfl,by rw[hlv];exact hr,λy hy=>⟨rfl,hce y hy⟩,hbl,Uu,λ_=>PassesOwn.leaving,λ_=>Wo,Wj,λf F e=>by rw[hlv];exact hfs f F e,hex,λf F e=>by rw[hlv];exact hms f F e,by rw[hlv];exact hgx,λ_=>⟨rfl,rfl⟩,⟨_,_,rfl,rfl⟩⟩
  have G:=(Xd ca n).ss C hu;rw[hmu]at G;refine⟨_,G,?_⟩;exact zm7 h
def runM(k n:Nat)(u:AH)(ts:List T):Option Ru:=if ts.length=k then (match u (ts.map some++List.replicate (n - ts.length) none) with
 |some (.rt t)=>some (.ok t)
 |some (.nx τ)=>(match UI .non τ with
  |some (.rt t)=>some (.ok t)
  |_=>none)
 |some (.xc c _)=>some (.exc c)
 |_=>none) else none
theorem zez{K}(fh:A2 F H)(r0:Rp K F H t0 x0 A)(r:Ai K F ts vs):StR K F H (start N (x0::vs)) ((t0::ts).map some++List.replicate (N.length - (t0::ts).length) none) (λi=>if i=0 then A else R0):=by
 have hl:=r.1;refine⟨fh,by simp[L2.start,hl],λi t e=>?_,λi a z=>?_,λi j a hij z1 z2=>?_⟩
 .unfold L2.start
  by_cases hi:i<(t0::ts).length
  .rw[yau (by simpa using hi),ya8]at e
   obtain⟨t',e1,e2⟩:=yad.mp e;cases e2;cases i with
   |zero =>
    cases e1;exact⟨x0,by simp,r0⟩
   |succ i =>
    have hi' :=by simpa using hi
    have hv:i<vs.length:=by omega
    refine⟨vs[i],?_,(r.2 i t vs[i] (by simpa using e1) (ya0 hv)).any⟩
    rw[yau (by simpa using hv),ya8,ybk,ya0 hv]
    rfl
  grind
 .by_cases hi:i=0
  .subst hi;exact⟨t0,rfl⟩
  .simp only[hi,yeg]at z;exact z.elim
 .by_cases hi:i=0
  .have hj:¬ j=0:=λz=>hij (hi.trans z.symm)
   simp only[hj,yeg]at z2;exact z2
  .simp only[hi,yeg]at z1;exact z1
theorem ziq:tot (λi=>if i=0 then A else R0)=A:=funext λa=>propext ⟨λ⟨i,z⟩=>by
 by_cases hi:i=0
 .grind
 .simp only[hi]at z;exact z.elim,λz=>⟨0,by simpa using z⟩⟩
theorem BC{α:Type}{P:α->Prop}:∀x∈([]:List α),P x:=λ_ h=>by cases h
theorem Ad{α:Type}{P:α->Prop}{a:α}{l:List α}(h:P a)(r:∀x∈l,P x):∀x∈a::l,P x:=λx hx=>by
 obtain rfl|hx:=yaa.mp hx
 .exact h
 .exact r x hx
theorem HA{P:List Value->Prop}(h:P []):∀us:List Value,us.length=0->P us:=λus e=>by
 cases us with
 |nil=>exact h
 |cons a r=>cases e
theorem CH{P:List Value->Prop}{k:Nat}(h:∀a us,us.length=k->P (a::us)):∀us:List Value,us.length=k+1->P us:=λus e=>by
 cases us with
 |nil=>cases e
 |cons a r=>exact h a r (Nat.succ.inj e)
theorem RT{P:List Value->Prop}(h:∀a,P [a]):∀us:List Value,us.length=1->P us:=CH λa=>HA (h a)
theorem Mf{P:List Value->Prop}(h:∀a b,P [a,b]):∀us:List Value,us.length=2->P us:=CH λa=>CH λb=>HA (h a b)
theorem Me{P:List Value->Prop}(h:∀a b c,P [a,b,c]):∀us:List Value,us.length=3->P us:=CH λa=>CH λb=>CH λc=>HA (h a b c)
theorem Md{P:List Value->Prop}(h:∀a b c d,P [a,b,c,d]):∀us:List Value,us.length=4->P us:=CH λa=>CH λb=>CH λc=>CH λd=>HA (h a b c d)
theorem Mb{P:List Value->Prop}(h:∀a b c d e,P [a,b,c,d,e]):∀us:List Value,us.length=5->P us:=CH λa=>CH λb=>CH λc=>CH λd=>CH λe=>HA (h a b c d e)
theorem RS{P:List Value->Prop}(h:∀a b c d e f,P [a,b,c,d,e,f]):∀us:List Value,us.length=6->P us:=CH λa=>CH λb=>CH λc=>CH λd=>CH λe=>CH λf=>HA (h a b c d e f)
section
variable {P:Program}{w:World}{K:k6}{mg:Str->Option Value}{base:Heap}{ca:Str->Value}{k:Nat}
theorem A7:∀f F,([]:List (Str×Fn)).lookup f=some F->F.lv<=k/\Nonempty (DefX P w K mg base F.lv f F.ps (B3 K ca F.g)):=λ_ _ h=>by cases h
theorem zhz{x:Str}{F0:Fn}{l:List (Str×Fn)}(hk:F0.lv<=k)(D:DefX P w K mg base F0.lv x F0.ps (B3 K ca F0.g))(r:∀f F,l.lookup f=some F->F.lv<=k/\Nonempty (DefX P w K mg base F.lv f F.ps (B3 K ca F.g))) :
  ∀f F,((x,F0)::l).lookup f=some F->F.lv<=k/\Nonempty (DefX P w K mg base F.lv f F.ps (B3 K ca F.g)):=λf F h=>by
 rw[ybd]at h;cases hf:f == x with
 |true =>
  rw[hf]at h;cases h;rw[eq_of_beq hf];exact⟨hk,⟨D⟩⟩
 |false=>rw[hf]at h;exact r f F h
theorem Nb:∀f F,([]:List (Str×Fn)).lookup f=some F->F.lv<=k/\Nonempty (DefX P w K mg base F.lv f F.ps (Es K ca F.g)):=λ_ _ h=>by cases h
def KW(K:k6):Sp:=λvs H Q _=>∃(a:Addr) (ns:List Int),vs=[.ref a]/\Gk K H a (ns.map V.int)/\ns.length<=63/\∀H',Q (.bl true) H'
theorem Gk.of{K:k6}{H:Hp}{a:Addr}{xs:List V}(hO:MP H)(h:A9 K H a xs):Gk K H a xs:=by
 rcases h with (h|h)|h
 .rcases hO a with z|⟨o,ys,z⟩<;>rw[h]at z<;>cases z
 .exact .inl h
 .exact .inr h
def Br(ns:List Int):T:=.nd false .rl (ns.map T.int)
theorem UC{F:Hp}:∀ns:List Int,Ai K F (ns.map T.int) (ns.map V.int)
 |[]=>.nil
 |n::r=>.cons (H:=F) (.int n) (UC r)
theorem zny{R:List T->Option Ru}{f:Addr}{fd:FuncData}(F:FnOk P w K mg base (Cb P w) k f fd ["_law_script"] (B3 K ca R))(h:∀ns:List Int,ns.length<=63->R [Br ns]=some (.ok (.bl true))):FnOk P w K mg base EZ k f fd ["_law_script"] (KW K):=by
 refine⟨λvs H Q E hs=>?_,λA outer s H args us vs Q E hr e0 hb hv hs=>?_⟩
 .obtain⟨a,ns,rfl,_⟩:=hs
  rfl
 .obtain⟨a,ns,rfl,hq,h63,q⟩:=hs;refine ye1 (F.run A outer s H args us _ Q E0 hr e0 hb hv ⟨H,[Br ns],.refl _,.cons (H:=H) (Ai.of_node (k:=.rl) hq (UC ns)) .nil,?_⟩) λr s' hx=>?_
  .rw[h ns h63];intro F' H' z C e r;rw[r.bl_inv];exact q H'
  .cases r with
   |error v =>
    obtain⟨_,_,_,_,_,_,_,_,_,_,_,_,z⟩:=hx;exact z.elim
   |ok fl=>cases fl<;>exact hx
end
def Ey(C:Addr)(fs:List Str)(k n:Nat)(u:AH)(p:Addr)(ts:List T):Option Ru:=if ts.length+1=k then (match u ((T.oob p C fs []::ts).map some++List.replicate (n - (ts.length+1)) none) with
 |some (.nx τ)=>(match Ez τ 0 C fs with
  |some (q,l)=>if q=p then some (.ok (.obj (.ins C fs) (Ar l))) else none
  |none=>none)
 |some (.xc c _)=>some (.exc c)
 |_=>none) else none
open Classical in
def DU(C:Addr)(fs:List Str)(k n:Nat)(u:AH)(ts:List T):Option Ru:=if h:∃r,∀p,Ey C fs k n u p ts=some r then some h.choose else none
theorem NJ{C:Addr}{fs:List Str}{k n:Nat}{u:AH}{ts:List T}{r:Ru}(h:∀p,Ey C fs k n u p ts=some r):DU C fs k n u ts=some r:=by
 have hx:∃r,∀p,Ey C fs k n u p ts=some r:=⟨r,h⟩;unfold DU;rw[dif_pos hx];have e:=(hx.choose_spec 0).symm.trans (h 0);exact e
theorem UA{C:Addr}{fs:List Str}{k n:Nat}{u:AH}{ts:List T}{r:Ru}(h:DU C fs k n u ts=some r)(p:Addr):Ey C fs k n u p ts=some r:=by
 unfold DU at h;split at h
 .rename_i hx;cases h;exact hx.choose_spec p
 .cases h
theorem zoi{P:Program}{w:World}{K:k6}{mg:Str->Option Value}{base:Heap}{ca:Str->Value}{x qual:Str}{st:Stmt}{f:Addr}{fd:FuncData}{N ps:List Str}{k n:Nat}{Γ:Gm}{u:AH}{C:Addr}{fs:List Str}(F:FunD K x qual st f fd)(S:FnScope N ps (Bl st))
  (hΓ:Γ.N=N) (hnm:Γ.nm=(Bl st).names) (hce:∀x∈Γ.ce,Γ.nm.lookup x=some .cell) (hlv:Γ.lv=k) (hbl:∀b∈Γ.bl,mg b=none)
  (hfs:∀f F,Γ.fns.lookup f=some F->F.lv<=k/\Nonempty (DefX P w K mg base F.lv f F.ps (B3 K ca F.g))) (hex:∀c∈Γ.ex,∃T:ECls K mg c,ca c=.ref T.C/\Cv K T.C=some none)
  (hms:∀f F,Γ.mus.lookup f=some F->F.lv<=k/\Nonempty (DefX P w K mg base F.lv f F.ps (Es K ca F.g))) (hmu:Γ.mu=false) (hgx:GxOk Γ.ox k P w K mg base ca) (hu:L7 n Γ (Dx st)=some u):FnOk P w K mg base (Cb P w) (k+1) f fd ps (IT K ca C (DU C fs ps.length N.length u)):=by
 refine VE F S (λvs H Q E h=>?_) λcdv A outer s H vs Q E hr h=>?_
 .obtain⟨F',p,dx,ts,vs',_,rfl,_,_,r,q⟩:=h;cases hg:DU C fs ps.length N.length u ts with
  |none=>rw[hg]at q;exact q.elim
  |some rr =>
   have h0:=UA hg 0;unfold Ey at h0
   by_cases hl:ts.length+1=ps.length
   .rw[yb9,<- r.1,hl]
   .rw[if_neg hl]at h0;cases h0
 .have CC:CxOk Γ (Dz (Cb P w) P w K mg base N qual (Bl st) f cdv A outer s H E) (λ_=>E) ca:=by
   refine⟨hΓ.symm,by rw[hΓ];exact S.nd,hnm.symm,S.kind,rfl,by rw[hlv];exact hr,λy hy=>⟨rfl,hce y hy⟩,hbl,Uu,λ_=>PassesOwn.leaving,λ_=>Wo,Wj,λf F e=>by rw[hlv];exact hfs f F e,hex,λf F e=>by rw[hlv];exact hms f F e,by rw[hlv];exact hgx,λ_=>⟨rfl,rfl⟩,⟨_,_,rfl,rfl⟩⟩
  have G:=(Xd ca n).ss CC hu;rw[hmu]at G;refine⟨_,G,?_⟩;obtain⟨F',p,dx,ts,vs',fh,rfl,fp,hp,r,q⟩:=h;have r0:Rp K F' H (.oob p C fs []) (.ref p) (λa=>a=p\/∃j:Nat,R0 a):=.oob (xs:=[]) (λ_=>R0) fp (by rw[List.zip_nil_right];exact hp) rfl (λi t x h=>by simp at h) (λ_ _ _ _ z=>z.elim) (λ_ z=>z) (λ_ _ z=>z.elim)
  have hA:(λa=>a=p\/∃j:Nat,R0 a)=λa=>a=p:=funext λa=>propext ⟨λz=>z.elim id λ⟨_,w⟩=>w.elim,λz=>.inl z⟩
  refine⟨F',_,_,zez fh r0 r,?_⟩;unfold pS;rw[ziq,hA];cases hg:DU C fs ps.length N.length u ts with
  |none=>rw[hg]at q;exact q.elim
  |some rr =>
   rw[hg]at q;have h0:=UA hg p;unfold Ey at h0
   by_cases hl:ts.length+1=ps.length
   .rw[if_pos hl]at h0;have el:(T.oob p C fs []::ts).length=ts.length+1:=rfl;rw[el];cases ho:u ((T.oob p C fs []::ts).map some++List.replicate (N.length - (ts.length+1)) none) with
    |none=>rw[ho]at h0;cases h0
    |some o =>
     rw[ho]at h0;cases o with
     |nx τ =>
      simp only at h0;intro F1 H1 σ1 R1 s1 S1;cases hoo:Ez τ 0 C fs with
      |none=>rw[hoo]at h0;cases h0
      |some ql =>
       obtain⟨q0,l⟩:=ql;rw[hoo]at h0;simp only at h0
       by_cases hq:q0=p
       .rw[if_pos hq]at h0;subst hq;cases h0;have h00:=NS hoo;have S2:=S1.frz h00;obtain⟨y,ey,ry⟩:=S1.rep 0 _ h00;obtain⟨dx2,xs2,Rr,rfl,hA2,fp2,hp2,ro,dp⟩:=ry.oob_inv;have n1:∀a,R1 0 a->F1 a=none:=λa z=>(S1.dom z).1
        have r2:=ry.share (H':=H1) (EO (H:=H1) n1) λa u z q=>by rw[Fv z];exact q
        simp only at q;refine q (frz F1 H1 (R1 0)) H1 ⟨s1.ff.trans (EO n1),Hb S1.fh,s1.kp,λb z=>z.elim,λb u e=>?_⟩ r2
        by_cases hb:R1 0 b
        .exact(s1.nw b ⟨0,hb⟩).elim (λz=>.inr (.inl z)) λz=>.inr (.inr z)
        .rw[FJ hb]at e;exact s1.nf b u e
       .rw[if_neg hq]at h0;cases h0
     |rt t=>cases h0
     |bk τ=>cases h0
     |ct τ=>cases h0
     |xc c τ =>
      cases h0;simp only at q;exact λF1 H1 σ1 R1 s1 S1=>q F1 H1 (s1.mono λ_ z=>z.elim)
   .rw[if_neg hl]at h0;cases h0
theorem CU{κ α:Type} [BEq κ]{P:κ->α->Prop}:∀y b,([]:List (κ×α)).lookup y=some b->P y b:=λ_ _ h=>by cases h
theorem CV{κ α:Type} [BEq κ] [LawfulBEq κ]{P:κ->α->Prop}{x:κ}{a:α}{l:List (κ×α)}(h:P x a)(r:∀y b,l.lookup y=some b->P y b):∀y b,((x,a)::l).lookup y=some b->P y b:=λy b e=>by
 rw[ybd]at e;cases hf:y == x with
 |true =>
  rw[hf]at e;cases e;rw[eq_of_beq hf];exact h
 |false=>rw[hf]at e;exact r y b e
theorem NL{K:k6}{F:Hp}:∀ys:List Str,Ai K F (ys.map T.str) (ys.map V.str)
 |[]=>.nil
 |y::r=>.cons (H:=F) (.str y) (NL r)
theorem NW{P:Str->Fn->List (Nat×List T)->Prop}:∀x F ds,([]:List (Str×Fn×List (Nat×List T))).lookup x=some (F,ds)->P x F ds:=λ_ _ _ h=>by cases h
theorem NX{P:Str->Fn->List (Nat×List T)->Prop}{l:List (Str×Fn×List (Nat×List T))}{x0:Str}{F0:Fn}{d0:List (Nat×List T)}(h:P x0 F0 d0)(r:∀x F ds,l.lookup x=some (F,ds)->P x F ds):∀x F ds,((x0,F0,d0)::l).lookup x=some (F,ds)->P x F ds:=λx F ds e=>by
 rw[ybd]at e;cases hf:x == x0 with
 |true =>
  rw[hf]at e;cases e;rw[eq_of_beq hf];exact h
 |false =>
  rw[hf]at e;exact r x F ds e
def Yz(K:k6)(C:Addr):=(LZ K C,PySem.W.subIn K (.ref C) (.ref C),(PySem.W.clsIn K C).isSome,PySem.W.typeIn K (.ref C),PySem.W.findIn K (.ref C) "__getattribute__",PySem.W.findIn K (.ref C) "__getattr__",PySem.W.findIn K (.ref C) "__class__",PySem.W.mroIn K C (.type "object"),PySem.W.mroIn K C (.type "BaseException"))
def Ge{K:k6}{mg:Str->Option Value}{x:Str}(g:PySem.W.specialIn K (.builtin "object.__class__") "__get__"=some (some (.builtin "getset_descriptor.__get__"))/\PySem.W.takesIn K (.builtin "object.__class__")=some true)(C:Addr)(m:mg x=some (.ref C))(h:Yz K C=(true,some true,true,some (.type "type"),some (some (.builtin "BaseException.__getattribute__")),some none,some (some (.builtin "object.__class__")),some true,some true)):ECls K mg x:=⟨C,m,by
 unfold Yz at h;simp only[Prod.mk.injEq,ycj]at h;obtain⟨h1,h2,h3,h4,h5,h6,h7,h8,h9⟩:=h;exact⟨h1,h2,h3,h4,h5,h6,h7,h8,h9,g.1,g.2⟩⟩
theorem HD{K:k6}{A:Value}{tb:List (Addr×Bool)}(e:∀C∈tb.map Prod.fst,ExcK K C)(h:(tb.all λx=>PySem.W.kitOne K (.ref x.1) A == some x.2)=true):∀C b,tb.lookup C=some b->ExcK K C/\PySem.W.kitOne K (.ref C) A=some b:=λC b hl=>by
 obtain⟨l,r,q,_⟩:=List.lookup_eq_some_iff.mp hl;have hm:(C,b)∈tb:=by rw[q];exact yae _ (.head _)
 exact⟨e C (List.mem_map_of_mem hm),eq_of_beq (yai.mp h (C,b) hm)⟩
theorem xs_of{K:k6}{mg:Str->Option Value}{W:Str}{ca:Str->Value}{cs:List (Str×Addr)}(T:ECls K mg W)(h:(cs.all λe=>(match ca e.1 with|.ref a=>a == e.2|_=>false) && PySem.W.subIn K (.ref e.2) (.ref T.C) == some true)=true):∃T:ECls K mg W,∀c C,cs.lookup c=some C->ca c=.ref C/\PySem.W.subIn K (.ref C) (.ref T.C)=some true:=⟨T,λc C hl=>by
 have h:=yai.mp h _ (yb6 hl);rw[ya2]at h;refine⟨?_,eq_of_beq h.2⟩;have h:=h.1;cases e:ca c with
 |ref a =>
  simp only[e]at h;rw[eq_of_beq h]
 |_ =>
  simp only[e]at h;cases h⟩
theorem A6{G:Gx}{lv:Nat}{P:Program}{w:World}{K:k6}{mg:Str->Option Value}{base:Heap}{ca:Str->Value}
  (co:∀x t,G.co.lookup x=some t->∃u v,mg x=some u/\A3 v u/\∀F:Hp,Rp K F F t v R0:=by exact CU)
  (cl:∀c∈G.cl,Cls K c.2.1/\∀f∈c.2.2,Ba K c.2.1 f:=by exact BC)
  (mt:∀c∈G.mt,c.2.2.2.lv<=lv/\Nonempty (MetX P w K mg base c.2.1 c.1 c.2.2.2.lv c.2.2.2.ps (B3 K ca c.2.2.2.g)):=by exact BC)
  (nw:∀x F ds,G.nw.lookup x=some (F,ds)->F.lv+1<=lv/\∃(C:Addr) (D:NewX P w K mg base x C F.lv F.ps (IT K ca C F.g)),∀k dts,ds.lookup k=some dts->∃dvs us,Bx K D.fd F.ps us/\AZ dvs us/\∀H:Hp,Ai K H dts dvs:=by exact NW)
  (sf:∀C fs,G.sf=some (C,fs)->Cls K C/\∀f∈fs,Ba K C f:=by exact(λ_ _ h=>by cases h))
  (xs:∀W cs,G.xs.lookup W=some cs->∃T:ECls K mg W,∀c C,cs.lookup c=some C->ca c=.ref C/\PySem.W.subIn K (.ref C) (.ref T.C)=some true:=by exact CU)
  (sb:∀D tb,G.sb.lookup D=some tb->∃A:Addr,mg D=some (.ref A)/\∀C b,tb.lookup C=some b->ExcK K C/\PySem.W.kitOne K (.ref C) (.ref A)=some b:=by exact CU)
  (sv:∀D tb,G.sv.lookup D=some tb->mg D=none/\∃t,bootBuiltins D=some (.type t)/\∀C b,tb.lookup C=some b->ExcK K C/\PySem.W.kitOne K (.ref C) (.type t)=some b:=by exact CU)
  (ci:∀x tb,G.ci.lookup x=some tb->∃D:Addr,mg x=some (.ref D)/\(∀C b,tb.lookup C=some b->ICls K C/\PySem.W.kitOne K (.ref C) (.ref D)=some b)/\(KE.all λa=>PySem.W.kitOne K (.type a) (.ref D) == some false)=true:=by exact CU)
  (x2:∀W1 W2 cs,(W1,W2,cs)∈G.x2->∃(T1:ECls K mg W1) (T2:ECls K mg W2),∀c C,cs.lookup c=some C->ca c=.ref C/\PySem.W.subIn K (.ref C) (.ref T1.C)=some false/\PySem.W.subIn K (.ref C) (.ref T2.C)=some true:=by exact(λ_ _ _ h=>by cases h))
  (wd:∀x F,G.wd.lookup x=some F->F.lv<=lv/\∃p,F.ps=[p]/\Nonempty (DefS P w K mg base F.lv x p (B3 K ca F.g)):=by exact CU)
  (ti:∀C∈G.ti,TiOk K C:=by exact BC)
  (dn:∀x y,G.dn.lookup x=some y->y.1.lv<=lv/\∃(D:DefX P w K mg base y.1.lv x y.1.ps (B3 K ca y.1.g)) (dvs:List V),DefsX K D.fd y.1.ps dvs/\∀H:Hp,Ai K H y.2 dvs:=by exact CU)
  (rn:True:=trivial)
  : GxOk G lv P w K mg base ca:=⟨co,cl,mt,nw,sf,xs,sb,sv,ci,x2,wd,ti,dn,rn⟩
theorem scM{N ps:List Str}{sc:Scope}(h:(sc.kind=.function/\sc.isCoroutine=false/\sc.isGenerator=false)/\N.Nodup/\N.take ps.length=ps/\(∀x∈ps,sc.names.lookup x=some .local\/sc.names.lookup x=some .cell)/\∀y∈sc.names,y.2≠.free):FnScope N ps sc:=⟨h.1.1,h.1.2.1,h.1.2.2,h.2.1,h.2.2.1,h.2.2.2.1,h.2.2.2.2⟩
class Qx (P:outParam Program) (w:outParam World) (K:outParam k6) (mg:outParam (Str->Option Value)) (base:outParam Heap) (ca:outParam (Str->Value)):Prop where
  c:∀(x:Str) (u:Value),PySem.W.nsIn K mainGlobals x=some (some u)->mg x=some u
  n:∀x:Str,PySem.W.nsIn K mainGlobals x=some none->mg x=none
structure Ck(Γ:Gm)(f:Fn)(st:Stmt)(u:AH):Prop where
 s:FnScope Γ.N f.ps (Bl st):=by exact scM (by decide +kernel)
 k:L7 200 Γ (Dx st)=some u:=by ext
 n:Γ.nm=(Bl st).names:=by rfl
theorem AW{P:Program}{w:World}{K:k6}{mg:Str->Option Value}{base:Heap}{ca:Str->Value}{k:Nat}{x:Str}{F0:Fn}{l:List (Str×Fn)}(D:DefX P w K mg base F0.lv x F0.ps (B3 K ca F0.g))(r:∀f F,l.lookup f=some F->F.lv<=k/\Nonempty (DefX P w K mg base F.lv f F.ps (B3 K ca F.g)))(hk:F0.lv<=k:=by decide) :
  ∀f F,((x,F0)::l).lookup f=some F->F.lv<=k/\Nonempty (DefX P w K mg base F.lv f F.ps (B3 K ca F.g)):=zhz hk D r
abbrev gF(x qual:Str)(s:Stmt)(d:Value)(m:Str)(t c:Nat)(y:Value):FuncData:=PySem.W.fnOf x qual (Hh s) (Dx s) (Bl s) d .none .none (.str m t) none (.ref c) y
def fO(a b:Str)(s:Stmt)(d:Value)(m:Str)(t c:Nat)(y:Value):Obj:=⟨(.type "function"),none,(.func (gF a b s d m t c y)),Array.mk []⟩
def gO(a:Str)(s:Stmt)(m:Str)(t c:Nat):Obj:=fO a a s .none m t c .none
noncomputable def W6(K:k6)(b:Str):Bool:=match PySem.W.nsIn K mainGlobals b with
 |some none=>true
 |_=>false
def F8(K:k6)(x:Str)(a:Addr):Bool:=match PySem.W.nsIn K mainGlobals x with
 |some (some (.ref b))=>b == a
 |_=>false
def Hi(K:k6)(qual:Str)(a c:Nat)(Γ:Gm)(f:Fn):Bool:=PySem.W.codeIn K (.ref c) qual && PySem.W.keepIn K (.ref a) && Γ.bl.all (W6 K) && Γ.ce.all (λx=>Γ.nm.lookup x == some .cell) && !Γ.mu && (Γ.lv+1 == f.lv)
structure Chk(K:k6)(mg:Str->Option Value)(qual:Str)(a c:Nat)(Γ:Gm)(f:Fn):Prop where
 c:PySem.W.codeIn K (.ref c) qual=true
 k:PySem.W.keepIn K (.ref a)=true
 b:∀b∈Γ.bl,mg b=none
 e:∀x∈Γ.ce,Γ.nm.lookup x=some .cell
 m:Γ.mu=false
 l:Γ.lv+1=f.lv
theorem zov{P:Program}{w:World}{K:k6}{mg:Str->Option Value}{base:Heap}{ca:Str->Value} [q:Qx P w K mg base ca]{qual:Str}{a c:Nat}{Γ:Gm}{f:Fn}(h:Hi K qual a c Γ f=true):Chk K mg qual a c Γ f:=by
 unfold Hi at h;simp only[ya2,yai]at h;obtain⟨⟨⟨⟨⟨h1,h2⟩,h3⟩,h4⟩,h5⟩,h6⟩:=h;refine⟨h1,h2,λb hb=>q.n b ?_,λx hx=>eq_of_beq (h4 x hx),C0 h5,eq_of_beq h6⟩
 have:=h3 b hb;unfold W6 at this;split at this
 .assumption
 .cases this
theorem UJ{P:Program}{w:World}{K:k6}{mg:Str->Option Value}{base:Heap}{ca:Str->Value} [q:Qx P w K mg base ca]{x:Str}{a:Addr}(h:F8 K x a=true):mg x=some (.ref a):=by
 unfold F8 at h;split at h
 .rename_i b e;rw[<- eq_of_beq h];exact q.c _ _ e
 .cases h
structure AY(P:Program)(w:World)(K:k6)(mg:Str->Option Value)(base:Heap)(ca:Str->Value)(x qual:Str)(st:Stmt)(d:Value)(mo:Str)(t c:Nat)(y:Value)(Γ:Gm)(f:Fn)(V:Params->Obj)(a:Addr):Prop where
 fs:∀g F,Γ.fns.lookup g=some F->F.lv<=Γ.lv/\Nonempty (DefX P w K mg base F.lv g F.ps (B3 K ca F.g))
 gx:GxOk Γ.ox Γ.lv P w K mg base ca
 ex:∀c∈Γ.ex,∃T:ECls K mg c,ca c=.ref T.C/\Cv K T.C=some none
 ms:∀g F,Γ.mus.lookup g=some F->F.lv<=Γ.lv/\Nonempty (DefX P w K mg base F.lv g F.ps (Es K ca F.g))
 h:Chk K mg qual a c Γ f
 F:FunD K x qual st a (gF x qual st d mo t c y)
section
variable {P:Program}{w:World}{K:k6}{mg:Str->Option Value}{base:Heap}{ca:Str->Value} [q:Qx P w K mg base ca]{x mo qual:Str}{st:Stmt}{t c:Nat}{d y:Value}{Γ:Gm}{f:Fn}{u:AH}{V:Params->Obj}{a C:Addr}{fs:List Str}
theorem Q9(hfs:∀g F,Γ.fns.lookup g=some F->F.lv<=Γ.lv/\Nonempty (DefX P w K mg base F.lv g F.ps (B3 K ca F.g)))(hgx:GxOk Γ.ox Γ.lv P w K mg base ca)(hex:∀c∈Γ.ex,∃T:ECls K mg c,ca c=.ref T.C/\Cv K T.C=some none)(hms:∀g F,Γ.mus.lookup g=some F->F.lv<=Γ.lv/\Nonempty (DefX P w K mg base F.lv g F.ps (Es K ca F.g)))
  (ho:V w.params=fO x qual st d mo t c y) (l:K.lookup a=some (V w.params)) (h:Hi K qual a c Γ f=true):AY P w K mg base ca x qual st d mo t c y Γ f V a :=
 have h:=zov h
 ⟨hfs,hgx,hex,hms,h,zkv (l.trans (congrArg some ho)) h.c h.k⟩
theorem An(hfs:∀g F,Γ.fns.lookup g=some F->F.lv<=Γ.lv/\Nonempty (DefX P w K mg base F.lv g F.ps (B3 K ca F.g)))(hgx:GxOk Γ.ox Γ.lv P w K mg base ca)(hex:∀c∈Γ.ex,∃T:ECls K mg c,ca c=.ref T.C/\Cv K T.C=some none:=by exact BC)(hms:∀g F,Γ.mus.lookup g=some F->F.lv<=Γ.lv/\Nonempty (DefX P w K mg base F.lv g F.ps (Es K ca F.g)):=by exact Nb)
  (ho:V w.params=fO x x st d mo t c y:=by exact rfl) (l:K.lookup a=some (V w.params):=by ext) (h:Hi K x a c Γ f=true:=by ext) (m:F8 K x a=true:=by ext) (hg:f.g=AX f.ps.length Γ.N.length u:=by rfl)
  (b:Bx K (gF x x st d mo t c y) f.ps []:=by first|exact .all (RT λ_=>rfl)|exact .all (Mf λ_ _=>rfl)|exact .all (Me λ_ _ _=>rfl)|exact .all (Md λ_ _ _ _=>rfl)|exact .all (Mb λ_ _ _ _ _=>rfl)|exact .all (RS λ_ _ _ _ _ _=>rfl)):AY P w K mg base ca x x st d mo t c y Γ f V a/\F8 K x a=true/\f.g=AX f.ps.length Γ.N.length u/\Bx K (gF x x st d mo t c y) f.ps []:=⟨Q9 hfs hgx hex hms ho l h,m,hg,b⟩
theorem D0(hfs:∀g F,Γ.fns.lookup g=some F->F.lv<=Γ.lv/\Nonempty (DefX P w K mg base F.lv g F.ps (B3 K ca F.g)))(hgx:GxOk Γ.ox Γ.lv P w K mg base ca)(hex:∀c∈Γ.ex,∃T:ECls K mg c,ca c=.ref T.C/\Cv K T.C=some none:=by exact BC)(hms:∀g F,Γ.mus.lookup g=some F->F.lv<=Γ.lv/\Nonempty (DefX P w K mg base F.lv g F.ps (Es K ca F.g)):=by exact Nb)
  (ho:V w.params=fO x qual st d mo t c y:=by exact rfl) (l:K.lookup a=some (V w.params):=by ext) (h:Hi K qual a c Γ f=true:=by ext) (me:Meth K C x a:=by exact⟨by ext,by ext,by ext⟩) (hg:f.g=AX f.ps.length Γ.N.length u:=by rfl)
  (b:Bx K (gF x qual st d mo t c y) f.ps []:=by first|exact .all (RT λ_=>rfl)|exact .all (Mf λ_ _=>rfl)|exact .all (Me λ_ _ _=>rfl)|exact .all (Md λ_ _ _ _=>rfl)|exact .all (Mb λ_ _ _ _ _=>rfl)|exact .all (RS λ_ _ _ _ _ _=>rfl)):AY P w K mg base ca x qual st d mo t c y Γ f V a/\Meth K C x a/\f.g=AX f.ps.length Γ.N.length u/\Bx K (gF x qual st d mo t c y) f.ps []:=⟨Q9 hfs hgx hex hms ho l h,me,hg,b⟩
theorem Q8{z:Str}(hfs:∀g F,Γ.fns.lookup g=some F->F.lv<=Γ.lv/\Nonempty (DefX P w K mg base F.lv g F.ps (B3 K ca F.g)))(hgx:GxOk Γ.ox Γ.lv P w K mg base ca)(hex:∀c∈Γ.ex,∃T:ECls K mg c,ca c=.ref T.C/\Cv K T.C=some none:=by exact BC)(hms:∀g F,Γ.mus.lookup g=some F->F.lv<=Γ.lv/\Nonempty (DefX P w K mg base F.lv g F.ps (Es K ca F.g)):=by exact Nb)
  (ho:V w.params=fO x qual st d mo t c y:=by exact rfl) (l:K.lookup a=some (V w.params):=by ext) (h:Hi K qual a c Γ f=true:=by ext) (m:F8 K z C=true:=by ext) (ma:Mk K C a:=by exact⟨by ext,by ext,by ext,by ext⟩) (hg:f.g=DU C fs f.ps.length Γ.N.length u:=by rfl):AY P w K mg base ca x qual st d mo t c y Γ f V a/\F8 K z C=true/\Mk K C a/\f.g=DU C fs f.ps.length Γ.N.length u:=⟨Q9 hfs hgx hex hms ho l h,m,ma,hg⟩
def Am(V:Params->Obj)(a:Addr)(S:Ck Γ f st u)(A:AY P w K mg base ca x x st d mo t c y Γ f V a/\F8 K x a=true/\f.g=AX f.ps.length Γ.N.length u/\Bx K (gF x x st d mo t c y) f.ps []):DefX P w K mg base f.lv x f.ps (B3 K ca f.g) :=
 ⟨a,_,by rw[A.2.2.1,<- A.1.h.l];exact YA A.1.F S.s rfl S.n A.1.h.e rfl A.1.h.b A.1.fs A.1.ex A.1.ms A.1.h.m A.1.gx S.k,UJ A.2.1,A.1.h.k,A.2.2.2⟩
def DZ(V:Params->Obj)(a:Addr)(S:Ck Γ f st u)(cl:Cls K C)(A:AY P w K mg base ca x qual st d mo t c y Γ f V a/\Meth K C x a/\f.g=AX f.ps.length Γ.N.length u/\Bx K (gF x qual st d mo t c y) f.ps []):MetX P w K mg base C x f.lv f.ps (B3 K ca f.g) :=
 ⟨a,_,cl,A.2.1,by rw[A.2.2.1,<- A.1.h.l];exact YA A.1.F S.s rfl S.n A.1.h.e rfl A.1.h.b A.1.fs A.1.ex A.1.ms A.1.h.m A.1.gx S.k,A.2.2.2⟩
def Pn(z:Str)(C:Addr)(fs:List Str)(V:Params->Obj)(a:Addr)(S:Ck Γ f st u)(A:AY P w K mg base ca x qual st d mo t c y Γ f V a/\F8 K z C=true/\Mk K C a/\f.g=DU C fs f.ps.length Γ.N.length u):NewX P w K mg base z C f.lv f.ps (IT K ca C f.g) :=
 ⟨a,gF x qual st d mo t c y,UJ A.2.1,A.2.2.1,by rw[A.2.2.2,<- A.1.h.l];exact zoi A.1.F S.s rfl S.n A.1.h.e rfl A.1.h.b A.1.fs A.1.ex A.1.ms A.1.h.m A.1.gx S.k⟩
end
theorem at0:Au (x::l) 0=some x:=by
 have:Au (x::l) 0=some x:=Gi rfl;exact this
theorem Fy:Au (x::y::l) 1=some y:=by
 have:Au (x::y::l) 1=some y:=Gi rfl;exact this
theorem at2:Au (x::y::z::l) 2=some z:=by
 have:Au (x::y::z::l) 2=some z:=Gi rfl;exact this
abbrev fr(a b:Int):T:=.tup [.int a,.int b]
section
variable {b:T->AL->Option AL}{body:AH}{mc:AG}
theorem Eh   (I:Nat->AL->Prop)(h0:I 0 τ)(hs:∀i t τ,ts[i]?=some t->I i τ->∃τ1,b t τ=some τ1/\∃τ2,body τ1=some (.nx τ2)/\I (i+1) τ2):∃τ',B5 b body ts τ=some (.nx τ')/\I ts.length τ':=by
 have key:∀(l ) (k ) (τ ),ts.drop k=l->k<=ts.length->I k τ->∃τ',B5 b body l τ=some (.nx τ')/\I ts.length τ':=by
  intro l
  induction l with
  |nil =>
   intro k τ hd hk hI
   have:k=ts.length:=by
    have:=congrArg List.length hd;simp at this
    omega
   subst this;exact⟨τ,rfl,hI⟩
  |cons t l ih =>
   intro k τ hd hk hI
   have hlt:k<ts.length:=by
    grind
   rw[ybf hlt]at hd;injection hd with h1 h2
   obtain⟨τ1,e1,τ2,e2,hI2⟩:=hs k t τ (by rw[ya0 hlt,h1]) hI
   obtain⟨τ',e3,h3⟩:=ih (k+1) τ2 h2 hlt hI2;exact⟨τ',by unfold B5;simp only[e1,e2];exact e3,h3⟩
 grind
theorem zfu   (I:Nat->AL->Prop)(Qr:T->Prop)(h0:I 0 τ)(hs:∀i t τ,ts[i]?=some t->I i τ->∃τ1,b t τ=some τ1/\((∃τ2,(body τ1=some (.nx τ2)\/body τ1=some (.ct τ2))/\I (i+1) τ2)\/∃v,body τ1=some (.rt v)/\Qr v)) :
  (∃τ',B5 b body ts τ=some (.nx τ')/\I ts.length τ')\/∃v,B5 b body ts τ=some (.rt v)/\Qr v:=by
 have key:∀(l ) (k ) (τ ),ts.drop k=l->k<=ts.length->I k τ->(∃τ',B5 b body l τ=some (.nx τ')/\I ts.length τ')\/∃v,B5 b body l τ=some (.rt v)/\Qr v:=by
  intro l
  induction l with
  |nil =>
   intro k τ hd hk hI
   have:k=ts.length:=by
    have:=congrArg List.length hd;simp at this
    omega
   subst this;exact .inl ⟨τ,rfl,hI⟩
  |cons t l ih =>
   intro k τ hd hk hI
   have hlt:k<ts.length:=by
    grind
   rw[ybf hlt]at hd;injection hd with h1 h2
   obtain⟨τ1,e1,hb⟩:=hs k t τ (by rw[ya0 hlt,h1]) hI
   rcases hb with ⟨τ2,e2,hI2⟩|⟨v,e2,hv⟩
   .rcases ih (k+1) τ2 h2 hlt hI2 with ⟨τ',e3,h3⟩|⟨v,e3,h3⟩
    .refine .inl ⟨τ',?_,h3⟩;unfold B5
     grind
    .refine .inr ⟨v,?_,h3⟩;unfold B5
     rcases e2 with e2|e2<;>simp only[e1,e2]<;>exact e3
   .exact .inr ⟨v,by unfold B5;simp only[e1,e2],hv⟩
 exact key ts 0 τ rfl (ybg _) h0
theorem zj6  (I:AL->Prop)(μ:AL->Nat)(h0:I τ)(hs:∀τ,I τ->(∃bb,mc τ=some (.v (.bl true) bb)/\∃τ2,body τ=some (.nx τ2)/\I τ2/\μ τ2<μ τ)\/∃bb,mc τ=some (.v (.bl false) bb)) :
  ∃τ',Ew mc body τ=some (.nx τ')/\I τ'/\∃bb,mc τ'=some (.v (.bl false) bb):=by
 have key:∀(n ) (τ ),μ τ<n->I τ->∃τ',C9 mc body n τ=some (.nx τ')/\I τ'/\∃bb,mc τ'=some (.v (.bl false) bb):=by
  intro n
  induction n with
  |zero=>simp
  |succ n ih =>
   intro τ hn hI
   rcases hs τ hI with ⟨bb,e1,τ2,e2,hI2,hm⟩|⟨bb,e1⟩
   .obtain⟨τ',e3,h3⟩:=ih τ2 (by omega) hI2
    exact⟨τ',by unfold C9;grind,h3⟩
   .exact⟨τ,by unfold C9;simp only[e1],hI,bb,e1⟩
 obtain⟨τ',e,h⟩:=key (μ τ+1) τ (ybr _) h0;exact⟨τ',zm5 e,h⟩
theorem JG    (I:Nat->AL->Prop)(f )(h0:I 0 τ)(hs:∀i t τ,ts[i]?=some t->I i τ->∃τ1,b t τ=some τ1/\me τ1=some (.v (f i) false)/\I (i+1) τ1) :
  BZ b (mC (.bl true)) me ts τ=some ((List.range ts.length).map f):=by
 have key:∀(l ) (k ) (τ ),ts.drop k=l->k<=ts.length->I k τ->BZ b (mC (.bl true)) me l τ=some ((List.range' k l.length).map f):=by
  intro l
  induction l with
  |nil=>intro k τ _ _ _;rfl
  |cons t l ih =>
   intro k τ hd hk hI
   have hlt:k<ts.length:=by
    grind
   rw[ybf hlt]at hd;injection hd with h1 h2
   obtain⟨τ1,e1,e2,hI2⟩:=hs k t τ (by grind) hI
   have e3:=ih (k+1) τ1 h2 hlt hI2;unfold BZ;simp only[e1,mC,e2,e3]
   rfl
 have:=key ts 0 τ rfl (ybg _) h0;rw[this,<- List.range_eq_range']
end
theorem zk9{i j:Int}(h:F6 j=true):CF i j=true:=by unfold CF;grind
theorem HS{i j:Int}(h:F6 i=true):CF i j=true:=by unfold CF;grind
theorem FZ(h1:-(2 ^ 64)<i)(h2:i<2 ^ 64):F6 i=true:=@decide_eq_true _ (Classical.propDecidable _) ⟨h1,h2⟩
theorem CB(h1:-(10 ^ 70)<i)(h2:i<10 ^ 70):Bh i=true:=@decide_eq_true _ (Classical.propDecidable _) ⟨h1,h2⟩
theorem fm{i j:Int}(h:0<j):i.fmod j=i % j:=Int.fmod_eq_emod_of_nonneg i (by omega)
theorem fd{i j:Int}(h:0<j):i.fdiv j=i / j:=Int.fdiv_eq_ediv_of_nonneg i (by omega)
theorem ES{i j:Int}:Az (.int i) (.int j)=some (.bl (i == j)):=by
 rfl
theorem Dq{i j:Int}:Cp (.int i) (.int j)=some (.bl (!(i == j))):=by
 rfl
theorem ne_bl{i j:Bool}:Cp (.bl i) (.bl j)=some (.bl (!(i == j))):=by
 rfl
mutual
def Cq:PyData->Bool
 |.bool _=>false
 |.dict _=>false
 |.list xs=>Fg xs
 |.tuple xs=>Fg xs
 |_=>true
def Fg:List PyData->Bool
 |[]=>true
 |x::xs=>Cq x && Fg xs
end
mutual
theorem Yu:∀d d':PyData,Cq d=true->Cq d'=true->(PyData.eqv d d'=true ↔ d=d')
 |.none,d',_,h'=>by cases d'<;>simp[PyData.eqv,Cq]at h' ⊢
 |.int i,d',_,h'=>by cases d'<;>simp[PyData.eqv,Cq]at h' ⊢
 |.str x,d',_,h'=>by cases d'<;>simp[PyData.eqv,Cq]at h' ⊢
 |.bool _,_,h,_=>by simp[Cq]at h
 |.dict _,_,h,_=>by simp[Cq]at h
 |.list xs,d',h,h'=>by
  cases d' with
  |list ys =>
   have:=Pj xs ys (by simpa[Cq] using h) (by simpa[Cq] using h')
   simp only[PyData.eqv];rw[this];simp
  |_=>simp[PyData.eqv,Cq]at h' ⊢
 |.tuple xs,d',h,h'=>by
  cases d' with
  |tuple ys =>
   have:=Pj xs ys (by simpa[Cq] using h) (by simpa[Cq] using h')
   simp only[PyData.eqv];rw[this];simp
  |_=>simp[PyData.eqv,Cq]at h' ⊢
theorem Pj:∀xs ys:List PyData,Fg xs=true->Fg ys=true->(PyData.eqvAll xs ys=true ↔ xs=ys)
 |[],[],_,_=>by simp[PyData.eqvAll]
 |[],_::_,_,_=>by simp[PyData.eqvAll]
 |_::_,[],_,_=>by simp[PyData.eqvAll]
 |x::xs,y::ys,hx,hy=>by
  simp only[Fg,ya2]at hx hy;have h1:=Yu x y hx.1 hy.1;have h2:=Pj xs ys hx.2 hy.2;simp only[PyData.eqvAll,ya2,h1,h2,List.cons.injEq]
end
structure Fit(t:T)(n:Nat):Prop where
 fit:C7 t=true
 nb:Cq t.data=true
 dep:t.data.depth<=n
theorem Fit.int(i)(n):Fit (.int i) n:=⟨rfl,rfl,by simp[T.data,PyData.depth]⟩
theorem Fit.non(n:Nat):Fit .non n:=⟨rfl,rfl,by simp[T.data,PyData.depth]⟩
theorem Ym:∀{l} {n},(∀t∈l,Fit t n)->(Co l=true/\PyData.canLayAll0 (BD l)=true)/\Fg (BD l)=true/\PyData.depthAll (BD l)<=n
 |[],n,_=>⟨⟨rfl,rfl⟩,rfl,ybg _⟩
 |t::r,n,h=>by
  obtain⟨h1,h2,h3⟩:=h t (ya7 ..);obtain⟨⟨g0,g1⟩,g2,g3⟩:=Ym λx hx=>h x (ya4 _ hx)
  unfold C7 at h1;rw[ya2]at h1;refine⟨⟨by rw[Co,h1.1,g0];rfl,by rw[BD,PyData.canLayAll0,h1.2,g1];rfl⟩,by rw[BD,Fg,h2,g2];rfl,?_⟩
  rw[BD,PyData.depthAll]
  omega
theorem Fit.nd(h:∀t∈l,Fit t n):Fit (.nd o k l) (n+1):=by
 obtain⟨g1,g2,g3⟩:=Ym h;cases k<;>exact⟨by simpa[C7,T.data,T.pln,PyData.canLay0] using g1,by simpa[T.data,Cq] using g2,by simpa[T.data,PyData.depth] using g3⟩
theorem Fit.tup{l:List T}{n:Nat}(h:∀t∈l,Fit t n):Fit (.tup l) (n+1):=Fit.nd h
theorem Fit.mono(h:Fit t n)(hm:n<=m):Fit t m:=⟨h.fit,h.nb,yak h.dep hm⟩
theorem Fit.fr(a b):Fit (Pu.fr a b) 1:=Fit.tup λt ht=>by
 simp only[yaa,yar,yed]at ht
 rcases ht with rfl|rfl<;>exact Fit.int _ _
theorem GL:∀ns:List Int,Ar (ns.map T.int)=ns.map T.int
 |[]=>rfl
 |n::r=>by rw[yaq,Ar,GL r];rfl
theorem IV:∀ns:List Int,AS (ns.map T.int)=true
 |[]=>rfl
 |n::r=>by rw[yaq,AS,IV r];rfl
theorem zch(ns):(Br ns).share=Br ns:=by unfold Br;rw[T.share,GL]
theorem SH(ns):(Br ns).sh=true:=by unfold Br;rw[T.sh,IV];rfl
theorem Fx{x:α}(h0:0<=k)(h:l[k.toNat]?=some x):Au l k=some x:=by
 have :=Gi h
 grind
theorem zl0(f:α->β)(l)(lo hi):Cj (l.map f) lo hi=(Cj l lo hi).map f:=by
 unfold Cj;simp
theorem zl1(l:List α)(lo hi):(Cj l lo hi).length<=l.length:=by
 unfold Cj
 grind
end Pu
namespace Zm
end Zm
namespace Db
open PySem
theorem N7(a b):((a &&& b) % 2=1) ↔ (a % 2=1/\b % 2=1):=Nat.and_mod_two_eq_one
theorem Im(a:Nat):(a:Int) % 2=1 ↔ a % 2=1:=by omega
theorem Il(a:Nat):(Int.negSucc a) % 2=1 ↔ ¬ a % 2=1:=by omega
theorem VI(a c:Nat):((a:Int) - c) % 2=1 ↔ ¬ (a % 2=1 ↔ c % 2=1):=by omega
theorem zih(x y):Builtin.bitAnd x y % 2=1 ↔ (x % 2=1/\y % 2=1):=by
 have ng:∀a ,Builtin.bitNot (Int.negSucc a)=a:=λa=>by
  unfold Builtin.bitNot
  omega
 cases x with
 |ofNat a =>
  cases y with
  |ofNat b =>
   show(a &&& b:Int) % 2=1 ↔ ((a:Int) % 2=1/\(b:Int) % 2=1);rw[Im,Im,Im,N7]
  |negSucc b =>
   show(a - (a &&& (Builtin.bitNot (Int.negSucc b)).toNat:Int)) % 2=1 ↔ ((a:Int) % 2=1/\(Int.negSucc b) % 2=1);rw[ng,VI,Im,Il,N7];simp
 |negSucc a =>
  cases y with
  |ofNat b =>
   show(b - (b &&& (Builtin.bitNot (Int.negSucc a)).toNat:Int)) % 2=1 ↔ ((Int.negSucc a) % 2=1/\(b:Int) % 2=1);rw[ng,yc4,VI,Im,Il,N7]
   omega
  |negSucc b =>
   show(Builtin.bitNot ((Builtin.bitNot (Int.negSucc a)).toNat ||| (Builtin.bitNot (Int.negSucc b)).toNat)) % 2=1 ↔ _
   have nb:∀c:Nat,Builtin.bitNot c=Int.negSucc c:=λc=>by
    unfold Builtin.bitNot
    omega
   rw[ng,ng,yc4,nb,Il,Il,Il,Nat.or_mod_two_eq_one];exact not_or
theorem zig(x):Builtin.bitAnd x 1=x % 2:=by
 unfold Builtin.bitAnd Builtin.bitNot
 grind
theorem bor_one(x y):Builtin.bitAnd (Builtin.bitOr x y) 1=max (x % 2) (y % 2):=by
 rw[zig];have h:=zih (Builtin.bitNot x) (Builtin.bitNot y);unfold Builtin.bitOr
 have nb:∀z ,Builtin.bitNot z % 2=1 - z % 2:=λz=>by
  unfold Builtin.bitNot
  omega
 grind
noncomputable def bs(a b:Int):Int:=2 * (a / 2+b / 2)+min (a % 2) (b % 2)
theorem bs_eq(a b:Int):a+b - max (a % 2) (b % 2)=bs a b:=by unfold bs;omega
theorem zox(a:Int):bs a 1=a:=by unfold bs;omega
theorem zng(a:Int):bs 1 a=a:=by unfold bs;omega
theorem zl9(a b:Int):bs a b=bs b a:=by unfold bs;omega
theorem ZX(a b:Int):bs a b / 2=a / 2+b / 2:=by
 unfold bs
 omega
theorem ZW(a b:Int):bs a b % 2=min (a % 2) (b % 2):=by
 unfold bs
 omega
theorem zif(a b c):bs (bs a b) c=bs a (bs b c):=by
 show 2 * (bs a b / 2+c / 2)+min (bs a b % 2) (c % 2)=2 * (a / 2+bs b c / 2)+min (a % 2) (bs b c % 2);rw[ZX,ZX,ZW,ZW,Int.add_assoc,Int.min_assoc]
theorem zl8(h:a<=a')(h':b<=b'):bs a b<=bs a' b':=by unfold bs;omega
abbrev B:=Option Int
def le:B->B->Prop
 |_,none=>True
 |none,some _=>False
 |some a,some b=>a<=b
def add:B->B->B
 |some a,some b=>some (bs a b)
 |_,_=>none
def mn:B->B->B
 |none,b=>b
 |some a,none=>some a
 |some a,some b=>some (min a b)
theorem le_refl(a:B):le a a:=by cases a<;>simp[le]
theorem le_trans(h:le a b)(h':le b c):le a c:=by
 cases a<;>cases b<;>cases c<;>simp_all [le]
 omega
theorem LB(h:le a b)(h':le b a):a=b:=by
 cases a<;>cases b<;>simp_all [le]
 omega
theorem add_mono(h:le a b)(h':le c d):le (add a c) (add b d):=by
 cases a<;>cases b<;>cases c<;>cases d<;>simp_all [le,add]
 exact zl8 h h'
theorem add_comm(a b:B):add a b=add b a:=by
 cases a<;>cases b<;>simp[add,zl9]
theorem add_assoc(a b c):add (add a b) c=add a (add b c):=by
 cases a<;>cases b<;>cases c<;>simp[add,zif]
theorem add_one(a:B):add a (some 1)=a:=by cases a<;>simp[add,zox]
theorem Ki(a:B):add (some 1) a=a:=by cases a<;>simp[add,zng]
theorem Ds(a b:B):le (mn a b) a:=by
 cases a<;>cases b<;>simp[le,mn]
 omega
theorem FE(a b:B):le (mn a b) b:=by
 cases a<;>cases b<;>simp[le,mn]
 omega
theorem JF(h:le a b)(h':le a c):le a (mn b c):=by
 cases a<;>cases b<;>cases c<;>simp_all [le,mn]
 omega
theorem mn_of_le{a b:B}(h:le a b):mn a b=a:=LB (Ds a b) (JF (le_refl a) h)
theorem Iq(a b):mn a b=a\/mn a b=b:=by
 cases a<;>cases b<;>simp[mn]
 omega
abbrev Z:=Nat->Nat->B
def free(i j:Nat):B:=if i=0\/i=j then some 1 else none
def z0(f:Z):Z:=λi j=>mn (f i j) (free i j)
def stp(f:Z)(k:Nat):Z:=λi j=>mn (f i j) (add (f i k) (f k j))
def fw(f:Z):Nat->Z
 |0=>z0 f
 |k+1=>stp (fw f k) k
def Brk(n:Nat)(f:Z):Prop:=∃i,i<n/\¬ le (some 1) (f i i)
def Sound(n:Nat)(f:Z):Prop:=∀k,k<n->¬ Brk n (fw f k)
theorem diag_le(f)(i):∀k,le (fw f k i i) (some 1)
 |0=>by
  have h:=FE (f i i) (free i i);have e:free i i=some 1:=if_pos (.inr rfl);rw[e]at h;show le (mn (f i i) (free i i)) _
  grind
 |k+1=>le_trans (Ds _ _) (diag_le f i k)
theorem Xm(f)(i j):∀k,le (fw f k i j) (f i j)
 |0=>Ds _ _
 |k+1=>le_trans (Ds _ _) (Xm f i j k)
theorem Xl(f)(i j):∀k,le (fw f k i j) (z0 f i j)
 |0=>le_refl _
 |k+1=>le_trans (Ds _ _) (Xl f i j k)
theorem Pm(h:¬ Brk n (fw f k))(hi:i<n):fw f k i i=some 1:=by
 refine LB (diag_le f i k) ?_;cases Classical.em (le (some 1) (fw f k i i)) with
 |inl h1=>exact h1
 |inr h1=>exact(h ⟨i,hi,h1⟩).elim
theorem tri   (h:Sound n f):∀k,k<=n->∀i j l,l<k->i<n->j<n->le (fw f k i j) (add (fw f k i l) (fw f k l j))
 |0,_,_,_,l,hl,_,_=>by omega
 |k+1,hk,i,j,l,hl,hi,hj=>by
  have kk:=Pm (h k (by omega)) (show k<n by omega)
  have inv:=tri h k (by omega)
  show le (stp (fw f k) k i j) (add (stp (fw f k) k i l) (stp (fw f k) k l j));generalize hg:fw f k=g at *
  by_cases e:l=k
  .subst e;have e1:stp g l i l=g i l:=by unfold stp;rw[kk,add_one];exact mn_of_le (le_refl _)
   have e2:stp g l l j=g l j:=by unfold stp;rw[kk,Ki];exact mn_of_le (le_refl _)
   rw[e1,e2];exact FE _ _
  .have lk:l<k:=by omega
   have a1:le (stp g k i j) (g i j):=Ds _ _;have a2:le (stp g k i j) (add (g i k) (g k j)):=FE _ _
   rcases Iq (g i l) (add (g i k) (g k l)) with e1|e1<;>rcases Iq (g l j) (add (g l k) (g k j)) with e2|e2
   .have:stp g k i l=g i l:=e1;have e2':stp g k l j=g l j:=e2;rw[this,e2'];exact le_trans a1 (inv i j l lk hi hj)
   .have e1':stp g k i l=g i l:=e1;have e2':stp g k l j=add (g l k) (g k j):=e2;rw[e1',e2',<- add_assoc];exact le_trans a2 (add_mono (inv i k l lk hi (by omega)) (le_refl _))
   .have e1':stp g k i l=add (g i k) (g k l):=e1;have e2':stp g k l j=g l j:=e2;rw[e1',e2',add_assoc];exact le_trans a2 (add_mono (le_refl _) (inv k j l lk (by omega) hj))
   .have e1':stp g k i l=add (g i k) (g k l):=e1;have e2':stp g k l j=add (g l k) (g k j):=e2;rw[e1',e2',add_assoc,<- add_assoc (g k l)];refine le_trans a2 (add_mono (le_refl _) ?_);have:=add_mono (inv k k l lk (by omega) (by omega)) (le_refl (g k j))
    rw[kk,Ki]at this;exact this
structure Nar(n:Nat)(f:Z):Prop where
 diag:∀i,i<n->f i i=some 1
 row:∀j,j<n->le (f 0 j) (some 1)
 tri:∀i j l,i<n->j<n->l<n->le (f i j) (add (f i l) (f l j))
theorem N6(h:Sound n f):Nar n (fw f n):=by
 have t:=tri h n (ya9 n);refine⟨λi hi=>?_,λj hj=>?_,λi j l hi hj hl=>t i j l hl hi hj⟩
 .refine LB (diag_le f i n) ?_;cases n with
  |zero=>omega
  |succ m =>
   have kk:=Pm (h m (by omega)) (show m<m+1 by omega)
   have ii:=Pm (h m (by omega)) hi
   refine JF (by rw[ii];exact le_refl _) ?_
   by_cases e:i=m
   .subst e;rw[kk];exact le_refl _
   .have:=Db.tri h m (by omega) m m i (by omega) (by omega) (by omega)
    rw[kk,add_comm]at this;exact this
 .refine le_trans (Xl f 0 j n) ?_;have:=FE (f 0 j) (free 0 j);exact this
theorem nar_fw   (h:Nar n f):∀k,k<=n->∀i j,i<n->j<n->fw f k i j=f i j
 |0,_,i,j,hi,hj=>by
  refine mn_of_le ?_;unfold free
  by_cases e:i=0\/i=j
  .rw[if_pos e]
   rcases e with rfl|rfl
   .exact h.row j hj
   .rw[h.diag i hi];exact le_refl _
  .rw[if_neg e];cases f i j<;>simp[le]
 |k+1,hk,i,j,hi,hj=>by
  have ih:=nar_fw h k (by omega)
  show mn (fw f k i j) (add (fw f k i k) (fw f k k j))=_;rw[ih i j hi hj,ih i k hi (by omega),ih k j (by omega) hj]
  exact mn_of_le (h.tri i j k hi hj (by omega))
theorem nar_sound(h:Nar n f):Sound n f:=by
 intro k hk ⟨i,hi,hb⟩;rw[nar_fw h k (by omega) i i hi hi,h.diag i hi]at hb
 exact hb (le_refl _)
def sat(D:Int):B->Int->Prop
 |none,_=>True
 |some c,d=>d<=c / 2 * D - 1+c % 2
theorem zj3(h:sat D a d)(h':sat D b e):sat D (add a b) (d+e):=by
 cases a<;>cases b<;>simp only[sat,add]at *
 rename_i a b;have e1:bs a b / 2=a / 2+b / 2:=by unfold bs;omega
 have e2:bs a b % 2=min (a % 2) (b % 2):=by unfold bs;omega
 rw[e1,Int.add_mul]
 omega
theorem SM(hD:0<D)(h:sat D a d)(hl:le a b):sat D b d:=by
 cases a<;>cases b<;>simp only[sat,le]at *
 rename_i a b
 rcases yd4 (a / 2) (b / 2) with q|q
 .have:(a / 2+1) * D<=b / 2 * D:=ybj (by omega) (by omega)
  grind
 grind
theorem My(h:sat D a d)(h':sat D b d):sat D (mn a b) d:=by
 rcases Iq a b with e|e<;>rw[e]<;>assumption
def Lie(n:Nat)(D:Int)(X:Nat->Int)(f:Z):Prop:=∀i j,i<n->j<n->sat D (f i j) (X i - X j)
theorem Wz(h0:X 0=0)(hX:∀i,i<n->0<=X i)(h:Lie n D X f):∀k,k<=n->Lie n D X (fw f k)
 |0,_,i,j,hi,hj=>by
  refine My (h i j hi hj) ?_;unfold free;split
  .simp only[sat]
   grind
  .trivial
 |k+1,hk,i,j,hi,hj=>by
  have ih:=Wz h0 hX h k (by omega)
  refine My (ih i j hi hj) ?_;have:=zj3 (ih i k hi (by omega)) (ih k j (by omega) hj)
  grind
theorem lie_sound(hD:0<D)(h0:X 0=0)(hX:∀i,i<n->0<=X i)(h:Lie n D X f):Sound n f:=by
 intro k hk ⟨i,hi,hb⟩;have q:=Wz h0 hX h k (by omega) i i hi hi
 refine hb ?_;cases e:fw f k i i with
 |none=>trivial
 |some c =>
  rw[e]at q;simp only[sat,le]at *
  rcases yd4 (c / 2) 0 with q2|q2
  .have:c / 2 * D<=-1 * D:=ybj (by omega) (by omega)
   omega
  .rcases yd4 0 (c / 2) with q3|q3
   .omega
   grind
theorem sat_scale(hb:0<b)(hD:0<D)(h:X * b=t * D)(c):sat b c t ↔ sat D c X:=by
 cases c with
 |none=>exact Iff.rfl
 |some c =>
  simp only[sat];have e0:c % 2=0\/c % 2=1:=by omega
  have k1:∀m ,t<=m * b ↔ X<=m * D:=by
   intro m;constructor
   .intro q;have:=ybj q (ych hD);rw[<- h,yas,ybm b D,<- yas]at this;exact Int.le_of_mul_le_mul_right this hb
   .intro q;have:=ybj q (ych hb);rw[h,yas,ybm D b,<- yas]at this;exact Int.le_of_mul_le_mul_right this hD
  have k2:∀m ,t<m * b ↔ X<m * D:=by
   intro m;constructor
   .intro q;have:=Int.mul_lt_mul_of_pos_right q hD;rw[<- h,yas,ybm b D,<- yas]at this;exact Int.lt_of_mul_lt_mul_right this (ych hb)
   .intro q;have:=Int.mul_lt_mul_of_pos_right q hb;rw[h,yas,ybm D b,<- yas]at this;exact Int.lt_of_mul_lt_mul_right this (ych hD)
  rcases e0 with e|e
  .have:=k2 (c / 2)
   omega
  .have:=k1 (c / 2)
   omega
def satB(D:Int)(c:B)(d:Int):Bool:=match c with
 |none=>true
 |some c=>decide (d<=c / 2 * D - 1+c % 2)
theorem satB_iff:satB D c d=true ↔ sat D c d:=by
 cases c<;>simp[satB,sat]
theorem Wi(h:le a b)(h':le c d):le (mn a c) (mn b d):=JF (le_trans (Ds a c) h) (le_trans (FE a c) h')
theorem PM(h:∀i j,i<n->j<n->le (f i j) (g i j)):∀k,k<=n->∀i j,i<n->j<n->le (fw f k i j) (fw g k i j)
 |0,_,i,j,hi,hj=>Wi (h i j hi hj) (le_refl _)
 |k+1,hk,i,j,hi,hj=>by
  have ih:=PM h k (by omega)
  exact Wi (ih i j hi hj) (add_mono (ih i k hi (by omega)) (ih k j (by omega) hj))
theorem znp(h:Nar n f)(hl:∀i j,i<n->j<n->le (f i j) (g i j)):∀i j,i<n->j<n->le (f i j) (fw g n i j):=λi j hi hj=>by
 have:=PM hl n (ya9 n) i j hi hj
 rwa[nar_fw h n (ya9 n) i j hi hj]at this
theorem zhe(hD:0<D)(h:Lie n D X f)(hl:∀i j,i<n->j<n->le (f i j) (g i j)):Lie n D X g:=λi j hi hj=>SM hD (h i j hi hj) (hl i j hi hj)
end Db
namespace Db
end Db
namespace Dv
open Db
def ins(f:Z)(a b:Nat)(e:B):Z:=λi j=>mn (f i j) (add (f i a) (add e (f b j)))
theorem ins_nar{n:Nat}{f:Z}(h:Nar n f){a b:Nat}{e:B}(ha:a<n)(hb:b<n)(he:le (some 1) (add (f b a) e)):Nar n (ins f a b e):=by
 have one:∀x y z:B,le (some 1) z->le (add x y) (add (add x z) y):=λx y z hz=>by
  have:=add_mono (add_mono (le_refl x) hz) (le_refl y)
  rwa[add_one]at this
 refine⟨λi hi=>?_,λj hj=>le_trans (Ds _ _) (h.row j hj),λi j l hi hj hl=>?_⟩
 .show mn (f i i) _=_;rw[h.diag i hi];refine mn_of_le ?_;have t:=h.tri b a i hb ha hi;refine le_trans he ?_;have t2:=add_mono t (le_refl e);refine le_trans t2 ?_;rw[add_comm e,<- add_assoc,add_comm (f b i)];exact le_refl _
 .have m1:le (ins f a b e i j) (f i j):=Ds _ _;have m2:le (ins f a b e i j) (add (f i a) (add e (f b j))):=FE _ _;have il:ins f a b e i l=f i l\/ins f a b e i l=add (f i a) (add e (f b l)):=Iq _ _;have lj:ins f a b e l j=f l j\/ins f a b e l j=add (f l a) (add e (f b j)):=Iq _ _
  rcases il with e1|e1<;>rcases lj with e2|e2<;>rw[e1,e2]
  .exact le_trans m1 (h.tri i j l hi hj hl)
  .refine le_trans m2 ?_;rw[<- add_assoc (f i l)];exact add_mono (h.tri i a l hi ha hl) (le_refl _)
  .refine le_trans m2 ?_;rw[add_assoc,add_assoc];exact add_mono (le_refl _) (add_mono (le_refl _) (h.tri b j l hb hj hl))
  .refine le_trans m2 ?_;rw[add_assoc,add_assoc];refine add_mono (le_refl _) ?_;have t:=h.tri b a l hb ha hl;have t1:le (some 1) (add (add (f b l) (f l a)) e):=le_trans he (add_mono t (le_refl e));have t2:=add_mono (le_refl e) (add_mono t1 (le_refl (f b j)));rw[Ki]at t2;refine le_trans t2 ?_;rw[add_assoc,add_assoc];exact le_refl _
def nm(c:Int):Int:=c / 2
def cl(f:Z):Z:=λi j=>(f i j).map λc=>2 * (c / 2)+1
abbrev Lim:=Nat×Nat×Int
def Ok(L:List Lim)(w:Nat->Int):Prop:=∀x∈L,w x.1 - w x.2.1<=x.2.2
def pt(v:Nat->Int)(j:Nat)(a:Int):Nat->Int:=λk=>if k=j then a else v k
def rz:List Lim->(Nat->Int)->Bool->(Nat->Int)×Bool
 |[],v,b=>(v,b)
 |(i,j,m)::L,v,b=>if v j<v i - m then rz L (pt v j (v i - m)) true else rz L v b
def tn(L:List Lim):Nat->(Nat->Int)->Option (Nat->Int)
 |0,_=>none
 |t+1,v=>if (rz L v false).2 then tn L t (rz L v false).1 else some (rz L v false).1
def sm(n:Nat)(w:Nat->Int):Int:=((List.range n).map w).sum
def In(n:Nat)(L:List Lim):Prop:=∀x∈L,x.1<n/\x.2.1<n
section
variable {n:Nat}{L:List Lim}{w:Nat->Int}(hi:In n L)(ho:Ok L w)(hn:∀k,0<=w k)(hm:∀w',Ok L w'->(∀k,0<=w' k)->sm n w<=sm n w')
include hi ho hn hm
end
end Dv
namespace Dm
open Db
def wtd(f:Z):Z:=λi j=>if 0<i/\j=0 then none else f i j
def pbk(f:Z)(s:Nat->Nat):Z:=λi j=>f (s i) (s j)
theorem le_none(a:B):le a none:=by cases a<;>trivial
theorem RG(f:Z)(i j:Nat):le (f i j) (wtd f i j):=by
 unfold wtd;split
 .exact le_none _
 .exact le_refl _
theorem zii(a:B):add a none=none:=by cases a<;>rfl
theorem zh9(a:B):add none a=none:=rfl
theorem wtd_nar{n:Nat}{f:Z}(h:Nar n f):Nar n (wtd f):=by
 refine⟨λi hi=>?_,λj hj=>?_,λi j l hi hj hl=>?_⟩
 .rw[wtd,if_neg (by omega)]
  exact h.diag i hi
 .rw[wtd,if_neg (by omega)]
  exact h.row j hj
 .by_cases e:0<i/\j=0
  .have:add (wtd f i l) (wtd f l j)=none:=by
    by_cases l0:l=0
    .rw[show wtd f i l=none by rw[wtd,if_pos ⟨e.1,l0⟩],zh9]
    .rw[show wtd f l j=none by rw[wtd,if_pos ⟨by omega,e.2⟩],zii]
   rw[this];exact le_none _
  .rw[show wtd f i j=f i j by rw[wtd,if_neg e]]
   exact le_trans (h.tri i j l hi hj hl) (add_mono (RG f i l) (RG f l j))
theorem pbk_nar{n:Nat}{f:Z}(h:Nar n f){s:Nat->Nat}(hs:∀i,i<n->s i<n)(h0:s 0=0):Nar n (pbk f s) :=
 ⟨λi hi=>h.diag _ (hs i hi),λj hj=>by rw[pbk,h0];exact h.row _ (hs j hj),λi j l hi hj hl=>h.tri _ _ _ (hs i hi) (hs j hj) (hs l hl)⟩
def ev(c:Int):Bool:=decide (c % 2=0)
end Dm
namespace Df
open Db Dv
theorem sound_of{n:Nat}{f g:Z}(h:Nar n f)(hl:∀i j,i<n->j<n->le (f i j) (g i j)):Sound n g:=λk hk ⟨i,hi,hb⟩=>by
 have:=PM hl k (by omega) i i hi hi
 rw[nar_fw h k (by omega) i i hi hi,h.diag i hi]at this
 exact hb this
structure St(n:Nat)(f:Z)(u l:Nat->B):Prop where
 N6:Nar n f
 c1:∀i,0<i->i<n->le (some 1) (add (f 0 i) (u i))
 c2:∀i,0<i->i<n->le (some 1) (add (l i) (f i 0))
 c3:∀i j,0<i->0<j->i<n->j<n->le (some 1) (add (l i) (add (f i j) (u j)))
def Sm(D:Int)(m:B)(x:Int):Prop:=match m with
 |none=>True
 |some m=>x<=m * D
def smB(D:Int)(m:B)(x:Int):Bool:=match m with
 |none=>true
 |some m=>decide (x<=m * D)
def ll(D:Int)(M:Nat->B)(X:Nat->Int)(i:Nat):B:=if smB D (M i) (X i) then some (1 - 2 * X i) else (M i).map λm=>0 - 2 * m * D
end Df
namespace Dk
open Db Dv
def put(f:Z)(a b:Nat)(c:Int):Z:=λi j=>if i=a/\j=b then mn (f a b) (some c) else f i j
def E3:List Lim->Z->Z
 |[],f=>f
 |x::L,f=>E3 L (put f x.1 x.2.1 x.2.2)
def leB(a b:B):Bool:=match a,b with
 |_,none=>true
 |none,some _=>false
 |some a,some b=>decide (a<=b)
theorem leB_iff{a b:B}:leB a b=true ↔ le a b:=by
 cases a<;>cases b<;>simp[leB,le]
def met:List Lim->Z->Option Z
 |[],f=>some f
 |x::L,f=>if leB (some 1) (add (f x.2.1 x.1) (some x.2.2)) then met L (ins f x.1 x.2.1 (some x.2.2)) else none
theorem met_app:∀(L K:List Lim) (f:Z),met (L++K) f=(met L f).bind (met K)
 |[],_,_=>rfl
 |x::L,K,f=>by
  show(if _ then met (L++K) _ else none)=(if _ then met L _ else none).bind (met K)
  split
  .exact met_app L K _
  .rfl
def EU(n:Nat)(z f:Z):Prop:=∀i j,i<n->j<n->le (z i j) (f i j)
def IE(z:Z)(L:List Lim):Prop:=∀x∈L,le (z x.1 x.2.1) (some x.2.2)
theorem KD{n:Nat}{z:Z}:∀(L:List Lim) (f:Z),In n L->(EU n z (E3 L f) ↔ EU n z f/\IE z L)
 |[],f,_=>⟨λh=>⟨h,λx hx=>by cases hx⟩,λh=>h.1⟩
 |x::L,f,hI=>by
  have hx:=hI x (ya7 ..);show EU n z (E3 L (put f x.1 x.2.1 x.2.2)) ↔ _;rw[KD L _ λy hy=>hI y (ya4 _ hy)]
  constructor
  .rintro⟨h1,h2⟩
   have h3:∀i j,i<n->j<n->le (put f x.1 x.2.1 x.2.2 i j) (f i j):=λi j _ _=>by
    unfold put;split
    .rename_i q;rw[q.1,q.2];exact Ds _ _
    .exact le_refl _
   refine⟨λi j hi hj=>le_trans (h1 i j hi hj) (h3 i j hi hj),λy hy=>?_⟩
   rcases yaa.mp hy with rfl|yL
   .have:=h1 y.1 y.2.1 hx.1 hx.2;unfold put at this;rw[if_pos ⟨rfl,rfl⟩]at this;exact le_trans this (FE _ _)
   .exact h2 y yL
  .rintro⟨h1,h2⟩;refine⟨λi j hi hj=>?_,λy hy=>h2 y (ya4 _ hy)⟩
   unfold put;split
   .rename_i q;obtain⟨rfl,rfl⟩:=q;exact JF (h1 _ _ hi hj) (h2 x (ya7 ..))
   .exact h1 i j hi hj
theorem RV{n:Nat}{z f:Z}(hz:Nar n z)(h:EU n z f){a b:Nat}{c:Int}(ha:a<n)(hb:b<n)(hc:le (z a b) (some c)):EU n z (ins f a b (some c)):=λi j hi hj=>by
 refine JF (h i j hi hj) ?_;refine le_trans (hz.tri i j a hi hj ha) (add_mono (h i a hi ha) ?_);exact le_trans (hz.tri a j b ha hj hb) (add_mono hc (h b j hb hj))
theorem met_ok{n:Nat}:∀(L:List Lim) (f:Z),Nar n f->In n L->(∀h,met L f=some h->Nar n h/\EU n h f/\IE h L/\∀z,Nar n z->EU n z f->IE z L->EU n z h)/\(met L f=none->∀z,Nar n z->EU n z f->IE z L->False)
 |[],f,hf,_=>⟨λh e=>by
   cases e;exact⟨hf,λ_ _ _ _=>le_refl _,λx hx=>(by cases hx),λz _ h _=>h⟩,λe=>by cases e⟩
 |x::L,f,hf,hI=>by
  have hx:=hI x (ya7 ..);unfold met;cases q:leB (some 1) (add (f x.2.1 x.1) (some x.2.2)) with
  |false =>
   refine⟨λh e=>(by cases e),λ_ z hz h1 h2=>?_⟩
   have h3:=hz.tri x.2.1 x.2.1 x.1 hx.2 hx.2 hx.1;rw[hz.diag _ hx.2]at h3;have h4:=le_trans h3 (add_mono (h1 x.2.1 x.1 hx.2 hx.1) (h2 x (ya7 ..)));rw[<- leB_iff,q]at h4;cases h4
  |true =>
   simp only[ye4];have N:=ins_nar hf hx.1 hx.2 (leB_iff.mp q);have U:EU n (ins f x.1 x.2.1 (some x.2.2)) f:=λi j _ _=>Ds _ _
   have C:le (ins f x.1 x.2.1 (some x.2.2) x.1 x.2.1) (some x.2.2):=by
    refine le_trans (FE _ _) ?_;rw[hf.diag _ hx.1,hf.diag _ hx.2,Ki,add_one];exact le_refl _
   obtain⟨h1,h2⟩:=met_ok L _ N λy hy=>hI y (ya4 _ hy)
   have K:∀z,IE z (x::L)->le (z x.1 x.2.1) (some x.2.2)/\IE z L:=λz k=>⟨k x (ya7 ..),λy hy=>k y (ya4 _ hy)⟩
   refine⟨λh e=>?_,λe z hz a b=>h2 e z hz (RV hz a hx.1 hx.2 (K z b).1) (K z b).2⟩
   obtain⟨n1,n2,n3,n4⟩:=h1 h e;refine⟨n1,λi j hi hj=>le_trans (n2 i j hi hj) (U i j hi hj),λy hy=>?_,λz hz a b=>n4 z hz (RV hz a hx.1 hx.2 (K z b).1) (K z b).2⟩
   rcases yaa.mp hy with rfl|yL
   .exact le_trans (n2 _ _ hx.1 hx.2) C
   .exact n3 y yL
theorem met_fw{n:Nat}{L:List Lim}{f:Z}(hf:Nar n f)(hI:In n L):(∀h,met L f=some h->Sound n (E3 L f)/\∀i j,i<n->j<n->fw (E3 L f) n i j=h i j)/\(met L f=none->¬ Sound n (E3 L f)):=by
 obtain⟨h1,h2⟩:=met_ok L f hf hI;have D:EU n (fw (E3 L f) n) (E3 L f):=λi j _ _=>Xm _ i j n
 refine⟨λh e=>?_,λe s=>?_⟩
 .obtain⟨n1,n2,n3,n4⟩:=h1 h e;have u:=(KD L f hI).mpr ⟨n2,n3⟩;have s:=Df.sound_of n1 u;refine⟨s,λi j hi hj=>LB ?_ (znp n1 u i j hi hj)⟩
  have k:=(KD L f hI).mp D;exact n4 _ (N6 s) k.1 k.2 i j hi hj
 .have k:=(KD L f hI).mp D;exact h2 e _ (N6 s) k.1 k.2
theorem lie_puts{n:Nat}{D:Int}(hD:0<D){X:Nat->Int}:∀(L:List Lim) (f:Z),In n L->(Lie n D X (E3 L f) ↔ Lie n D X f/\∀x∈L,sat D (some x.2.2) (X x.1 - X x.2.1))
 |[],f,_=>⟨λh=>⟨h,λx hx=>by cases hx⟩,λh=>h.1⟩
 |x::L,f,hI=>by
  have hx:=hI x (ya7 ..);show Lie n D X (E3 L (put f x.1 x.2.1 x.2.2)) ↔ _;rw[lie_puts hD L _ λy hy=>hI y (ya4 _ hy)]
  constructor
  .rintro⟨h1,h2⟩;refine⟨zhe hD h1 λi j _ _=>?_,λy hy=>?_⟩
   .unfold put;split
    .rename_i q;rw[q.1,q.2];exact Ds _ _
    .exact le_refl _
   .rcases yaa.mp hy with rfl|yL
    .have:=h1 y.1 y.2.1 hx.1 hx.2;unfold put at this;rw[if_pos ⟨rfl,rfl⟩]at this;exact SM hD this (FE _ _)
    .exact h2 y yL
  .rintro⟨h1,h2⟩;refine⟨λi j hi hj=>?_,λy hy=>h2 y (ya4 _ hy)⟩
   unfold put;split
   .rename_i q;obtain⟨rfl,rfl⟩:=q;exact My (h1 _ _ hi hj) (h2 x (ya7 ..))
   .exact h1 i j hi hj
end Dk
namespace Pu
open PySem PySem.Spec PyProof.Rows L2 Zw Zx
def mT(n:Nat)(g:Nat->T):List T:=(List.range n).map g
theorem nl0:((0:Nat):Int)=0:=rfl
theorem nl1:((1:Nat):Int)=1:=rfl
theorem nl2:((2:Nat):Int)=2:=rfl
theorem nl3:((3:Nat):Int)=3:=rfl
theorem nl4:((4:Nat):Int)=4:=rfl
theorem nl5:((5:Nat):Int)=5:=rfl
theorem nl6:((6:Nat):Int)=6:=rfl
theorem nl7:((7:Nat):Int)=7:=rfl
theorem nl8:((8:Nat):Int)=8:=rfl
theorem nl9:((9:Nat):Int)=9:=rfl
theorem znv{k:Nat}(h:k<=100000):(k<=BV)=True:=eq_true (by unfold BV;omega)
theorem znu{k:Nat}(h:k<100000):(k<BV)=True:=eq_true (by unfold BV;omega)
section
variable {n:Nat}{g h:Nat->T}
theorem Cs:(mT n g).length=n:=by simp[mT]
theorem Ea{i:Nat}(hi:i<n):(mT n g)[i]?=some (g i):=by simp[mT,hi]
theorem G2(e:(mT n g)[i]?=some t):i<n/\t=g i:=by
 have hi:i<n:=by
  rcases Nat.lt_or_ge i n with q|q
  .exact q
  .rw[yc7 (by rw[Cs];exact q)]at e
   cases e
 rw[Ea hi]at e
 grind
theorem Fi(hl:l.length=n)(h:∀i,i<n->l[i]?=some (g i)):l=mT n g:=by
 refine List.ext_getElem? λi=>?_
 rcases Nat.lt_or_ge i n with q|q
 .rw[h i q,Ea q]
 .rw[yc7 (by omega),yc7 (by rw[Cs];exact q)]
theorem DI(e:∀i,i<n->g i=h i):mT n g=mT n h:=Fi Cs λi hi=>by rw[Ea hi,e i hi]
theorem DJ{k:Nat}(h1:k<n):Au (mT n g) (k:Int)=some (g k):=Gi (Ea h1)
theorem Of(ht:t∈mT n g):∃i,i<n/\t=g i:=by
 obtain⟨i,hi,e⟩:=yag.mp ht
 grind
theorem E1:Ar (mT n g)=mT n λi=>(g i).share:=by
 rw[Cc];unfold mT;rw[yba]
 rfl
theorem HH(e:∀i,(g i).sh=true):AS (mT n g)=true:=by
 rw[Bn,yai];intro t ht;obtain⟨i,-,rfl⟩:=Of ht;exact e i
theorem zix(xs:Nat->Int):AS (mT n λi=>.int (xs i))=true:=HH λ_=>rfl
theorem ziy(u w:Nat->Int):AS (mT n λi=>.nd false .tup [.int (u i),.int (w i)])=true:=HH λ_=>rfl
theorem LA:mT n g++[g n]=mT (n+1) g:=by
 unfold mT;rw[List.range_succ,yb1]
 rfl
theorem Yw:∀(l) (k i:Nat) (t),l[i]?=some t->(DY k l)[i]?=some (.tup [.int (k+i:Nat),t])
 |[],_,_,_,e=>by simp at e
 |x::r,k,0,t,e=>by
  simp at e;subst e
  rfl
 |x::r,k,i+1,t,e=>by
  rw[DY];have:=Yw r (k+1) i t (by simpa using e)
  grind
theorem Yv:∀(l) (k),(DY k l).length=l.length
 |[],_=>rfl
 |x::r,k=>by rw[DY,yb9,yb9,Yv r]
theorem Gd:DY 0 (mT n g)=mT n λi=>.tup [.int i,g i]:=by
 refine Fi (by rw[Yv,Cs]) λi hi=>?_
 rw[Yw _ _ _ _ (Ea hi),Nat.zero_add]
theorem IJ:GF (mT n g) (mT n h)=mT n λi=>.tup [g i,h i]:=by
 refine Fi (by simp[GF,Cs]) λi hi=>?_
 unfold GF;rw[List.getElem?_zipWith,Ea hi,Ea hi]
theorem UM(lo:Int):EG lo n=mT n λi=>.int (lo+(i:Int)):=rfl
theorem F9:EG 0 n=mT n λi=>.int (i:Int):=by
 rw[UM];simp
def consT(x:T)(g:Nat->T):Nat->T
 |0=>x
 |i+1=>g i
theorem zl3(x):x::mT n g=mT (n+1) (consT x g):=by
 refine Fi (by rw[yb9,Cs]) λi hi=>?_
 cases i with
 |zero=>rfl
 |succ i=>rw[ybk,Ea (by omega)];rfl
theorem mT_of(l)(d):l=mT l.length λi=>l.getD i d:=Fi rfl λi hi=>by
 grind
theorem Ws:(mT n g).set i v=mT n λj=>if j=i then v else g j:=Fi (by simp[Cs]) λj hj=>by
 rw[List.getElem?_set,Cs]
 by_cases e:i=j
 .grind
 .simp only[e,yeg];rw[Ea hj,if_neg (λq=>e q.symm)]
theorem Wt(o)(k)(e:∀i,i<n->Fit (g i) d):Fit (.nd o k (mT n g)) (d+1):=Fit.nd λt ht=>by
 obtain⟨i,hi,rfl⟩:=Of ht;exact e i hi
variable {b:T->AL->Option AL}{body:AH}{me:AG}{τ:AL}
theorem Xo(I:Nat->AL->Prop)(h0:I 0 τ)(hs:∀i τ,i<n->I i τ->∃τ1,b (g i) τ=some τ1/\∃τ2,body τ1=some (.nx τ2)/\I (i+1) τ2):∃τ',B5 b body (mT n g) τ=some (.nx τ')/\I n τ':=by
 have:=Eh I h0 λi t τ e hI=>by
  obtain⟨hi,rfl⟩:=G2 e;exact hs i τ hi hI
 rwa[Cs]at this
theorem He(p:Nat->Prop)(v )(I:Nat->AL->Prop)(h0:I 0 τ)
  (hs:∀i τ,i<n->(∀j,j<i->p j)->I i τ->∃τ1,b (g i) τ=some τ1/\((p i/\∃τ2,(body τ1=some (.nx τ2)\/body τ1=some (.ct τ2))/\I (i+1) τ2)\/(¬ p i/\body τ1=some (.rt v)))) :
  ((∀i,i<n->p i)/\∃τ',B5 b body (mT n g) τ=some (.nx τ')/\I n τ')\/((∃i,i<n/\¬ p i)/\B5 b body (mT n g) τ=some (.rt v)):=by
 have:=zfu (body:=body) (λi τ=>(∀j,j<i->p j)/\I i τ) (λw=>w=v/\∃i,i<n/\¬ p i) ⟨λj hj=>by omega,h0⟩ λi t τ e hI=>by
  obtain⟨hi,rfl⟩:=G2 e;obtain⟨τ1,e1,q⟩:=hs i τ hi hI.1 hI.2;refine⟨τ1,e1,?_⟩
  rcases q with ⟨pi,τ2,e2,I2⟩|⟨pi,e2⟩
  .grind
  .exact .inr ⟨v,e2,rfl,i,hi,pi⟩
 rw[Cs]at this
 grind
theorem DM   {cs:AL}(hs:∀i,i<n->me (some (g i)::cs)=some (.v (f i) false)):BZ (AE 0) (mC (.bl true)) me (mT n g) (x::cs)=some (mT n f):=by
 have:=JG (b:=AE 0) (ts:=mT n g) (λ_ τ=>∃y,τ=y::cs) f ⟨x,rfl⟩ λi t τ e hI=>by
  obtain⟨hi,rfl⟩:=G2 e;obtain⟨y,rfl⟩:=hI;exact⟨some (g i)::cs,by simp[AE],hs i hi,_,rfl⟩
 rw[this,Cs]
 rfl
theorem HY{u w f:Nat->T}  {cs:AL}(hs:∀i,i<n->me (some (u i)::some (w i)::cs)=some (.v (f i) false)):BZ (BE 2 (AQ (AE 0) (AQ (AE 1) BG))) (mC (.bl true)) me (mT n λi=>.tup [u i,w i]) (x::y::cs)=some (mT n f):=by
 have:=JG (b:=BE 2 (AQ (AE 0) (AQ (AE 1) BG))) (ts:=mT n λi=>.tup [u i,w i]) (λ_ τ=>∃x y,τ=x::y::cs) f ⟨x,y,rfl⟩ λi t τ e hI=>by
  obtain⟨hi,rfl⟩:=G2 e;obtain⟨x,y,rfl⟩:=hI;exact⟨some (u i)::some (w i)::cs,by rfl,hs i hi,_,_,rfl⟩
 rw[this,Cs]
 rfl
end
def bT:Db.B->T
 |none=>.non
 |some i=>.int i
theorem Z9:bT none=.non:=rfl
theorem Q7(i:Int):bT (some i)=.int i:=rfl
abbrev rT(n:Nat)(f:Nat->Db.B):T:=.lst (mT n λj=>bT (f j))
abbrev zT(n:Nat)(f:Db.Z):T:=.lst (mT n λi=>rT n (f i))
theorem Z8(b:Db.B):(bT b).sh=true:=by cases b<;>rfl
theorem Hk(b:Db.B):(bT b).share=bT b:=by cases b<;>rfl
theorem zp0(b):Fit (bT b) 0:=by cases b<;>first|exact Fit.non 0|exact Fit.int _ 0
theorem zmg(n:Nat)(f:Nat->Db.B):Fit (rT n f) 1:=Wt _ _ λi _=>zp0 _
theorem zle(n:Nat)(f:Db.Z):Fit (zT n f) 2:=Wt _ _ λi _=>zmg n _
theorem RC(h:∀i j,i<n->j<n->f i j=g i j):zT n f=zT n g:=by
 unfold zT;rw[DI λi hi=>?_]
 unfold rT;rw[DI λj hj=>?_]
 grind
abbrev vT(n:Nat)(v:Nat->Int×Int):T:=.lst (mT n λi=>fr (v i).1 (v i).2)
def GG(v:Nat->Int×Int):Nat->Int×Int
 |0=>(0,1)
 |i+1=>v i
theorem zin(n)(v):(fr 0 1)::mT n (λi=>fr (v i).1 (v i).2)=mT (n+1) λi=>fr (GG v i).1 (GG v i).2:=by
 rw[zl3];refine DI λi _=>?_
 cases i<;>rfl
theorem Gh(p):DA (mT n λi=>.bl (p i))=some ((List.range n).map p):=by
 unfold mT;generalize List.range n=l
 induction l with
 |nil=>rfl
 |cons x r ih=>simp only[yaq,DA,ih]
theorem K4(n)(f):(rT n f).share=rT n f:=by
 unfold T.share;rw[E1];simp only[Hk]
theorem NP(n)(f):(rT n f).sh=true:=by
 unfold T.sh;rw[HH λi=>Z8 _]
 rfl
theorem zgh(n)(f):(zT n f).share=zT n f:=by
 unfold T.share;rw[E1];simp only[K4]
theorem DC(n)(f):(zT n f).sh=true:=by
 unfold T.sh;rw[HH λi=>NP n _]
 rfl
theorem Ik{n:Nat}(h:n<=100000):Ce n=true:=@decide_eq_true _ (Classical.propDecidable _) ⟨by omega,by omega⟩
theorem Mr:∀ys ,FR (ys.map T.str)=some ys
 |[]=>rfl
 |y::r=>by
  show(match FR (r.map T.str) with|some l=>some (y::l)|none=>none)=_
  rw[Mr r]
theorem Ao:∀ys:List Str,Ar (ys.map T.str)=ys.map T.str
 |[]=>rfl
 |y::r=>by
  show T.str y::Ar (r.map T.str)=_;rw[Ao r]
  rfl
theorem Ah:∀ys:List Str,AS (ys.map T.str)=true
 |[]=>rfl
 |y::r=>by
  show(true && AS (r.map T.str))=true;rw[Ah r]
  rfl
def B0(ys:List Str):Prop:=∀y∈ys,PyData.strOk y=true
theorem Ul:∀ys:List Str,Co (ys.map T.str)=true
 |[]=>rfl
 |y::r=>by
  show(true && Co (r.map T.str))=true;rw[Ul r]
  rfl
theorem XJ:∀{ys},B0 ys->PyData.canLayAll0 (BD (ys.map T.str))=true/\PyData.depthAll (BD (ys.map T.str))=0
 |[],_=>⟨rfl,rfl⟩
 |y::r,h=>by
  obtain⟨h1,h2⟩:=XJ λx hx=>h x (ya4 _ hx)
  have h3:=h y (ya7 ..);rw[yaq,BD,PyData.canLayAll0,PyData.depthAll,h1,h2,T.data,PyData.canLay0,h3,PyData.depth];simp
theorem JT(hx:PyData.strOk x=true)(hy:PyData.strOk y=true):Az (.str x) (.str y)=some (.bl (decide (x=y))):=by
 have e:(x == y)=decide (x=y):=by rfl
 unfold Az Gc C7 L4;simp only[T.data,T.pln,PyData.canLay0,PyData.depth,PyData.eqv,hx,hy,e];simp
theorem Fit.str(h:PyData.strOk x=true)(n):Fit (.str x) n:=⟨by unfold C7;rw[T.data,PyData.canLay0,h];rfl,rfl,by simp[T.data,PyData.depth]⟩
theorem Zb(x):∀ys:List Str,((BD (ys.map T.str)).any λy=>PyData.eqv y (.str x))=decide (x∈ys)
 |[]=>by rfl
 |y::r=>by
  have e:(y == x)=decide (x=y):=by grind
  rw[yaq,BD,ycu,Zb x r,T.data,PyData.eqv,e,Bool.eq_iff_iff,ybz,yec,yec,yec,yaa]
theorem Fp     (h:B0 ys)(hx:PyData.strOk x=true):C6 (.str x) (.nd o k (ys.map T.str))=some (.bl (decide (x∈ys))):=by
 have ok:Ef (.str x) (ys.map T.str)=true:=by
  obtain⟨h1,h2⟩:=XJ h;unfold Ef C7;rw[Ul,h1,h2,T.data,PyData.canLay0,hx]
  rfl
 unfold C6;simp only;rw[if_pos ok];unfold Fs;rw[T.data,Zb]
end Pu
namespace Tx
open PySem PySem.NumText
abbrev cs(x:Str):List Nat:=x.cps.toList
theorem cs_ext{x y:Str}(h:cs x=cs y):x=y:=by
 cases x
 simp_all
theorem cs_len(x:Str):x.length=(cs x).length:=rfl
section
variable {x y:Str}{c:Nat}(hA:∀k,(cs x)[k]?=some c->StrLaws.At x y x.length k)
include hA
end
theorem sl_to(h:a<=(cs x).length):cs (Txt.slice x none (some a))=(cs x).take a:=by
 have e:Txt.slice x none (some a)=StrLaws.sliceText x none (some a):=rfl;rw[e,StrLaws.sliceText_to ⟨Int.natCast_nonneg a,Int.ofNat_le.mpr h⟩,List.drop_zero,Int.sub_zero,yc4]
end Tx
namespace Hd
open PySem PySem.W PySem.Calls PyProof.Rows
def JO(st:SharedT->Thread->Option (SharedT×Thread))(ok:Thread->Bool):Nat->SharedT->Thread->Option SharedT
 |0=>λ_ _=>none
 |n+1=>λs t=>bif through t then some s else bif ok t then (st s t).elim none λx=>JO st ok n x.1 x.2 else none
theorem zks(n):∀(s) (t) (r),
  JO (stepT (denote tb) p w) (stepOk m ann) n s t=some r->topRun tb p w m ann n s.abs t=some r.abs:=by
 induction n with
 |zero=>intro s t r h;exact nomatch h
 |succ n ih =>
  intro s t r h;rw[JO]at h;dsimp only at h;rw[topRun];cases a:through t with
  |true=>grind
  |false =>
   rw[a]at h;cases b:stepOk m ann t with
   |false=>grind
   |true =>
    rw[b]at h;cases c:stepT (denote tb) p w s t with
    |none=>grind
    |some x=>rw[c]at h;rw[stepT_spec c];grind
noncomputable def KZ(p q:Program)(loose:List Str)(Xt:Shared->Bool){α:Type}(Yf:Shared->α)(h:Heap)(s:Shared) :=
 ((staticsOk (importedModules p.main.body) h s.heap && namesBound p s.heap && gensDone s && laidKept h s.heap),openSeen q loose (importedModules p.main.body) Xt true s,Yf s)
theorem zkk{Ya:World->α}{N M m:Nat}{bt:Params->BT}{lf:Params->Life}{st:World->SharedT->Thread->Option (SharedT×Thread)}(hst:∀w,stepT (denote treeTable) p w=st w)(hok:stepOk m ann=ok)
  (e:opening p=plainProg p.main.scope.names) (hN:Nat.ble 600 N=true) (f:∀s,fenceModules? p s=some s) (hM:Nat.ble M N=true)
  (hb:∀P,absHeap (bt P) m (lf P)=boot_heap P) (hs:∀P,(boot_heap P).isNs mainGlobals=true) (hz:∀P,(boot_heap P).objs.size=m) (ha:∀P,(boot_heap P).nsMap mainGlobals "__annotations__"=ann)
  (h:∀(w ) (os ),(JO (st w) ok M ⟨bt w.params,m,lf w.params,Array.mk [],boot_drawn,boot_toks,os⟩ (topStub p)).map (λs=>KZ p q loose Xt Yf (boot_heap w.params) s.abs)=some (true,openGood q loose,Ya w)) :
  LeftO p q loose Xt Yf Ya N true:=λw=>by
 obtain⟨⟨h0,g0,d0,k0,os⟩,hs0,hv⟩:=yad.mp (boot_open e hN f w);simp only[Prod.mk.injEq]at hv;obtain⟨rfl,rfl,rfl,rfl⟩:=hv;obtain⟨T,hT,hx⟩:=yad.mp (h w os);rw[<- hst,<- hok]at hT;have r:=topRun_mono (N - M) _ _ _ _ (zks _ _ _ _ hT);rw[Nat.add_sub_cancel' (Nat.le_of_ble_eq_true hM)]at r;have hx1:=congrArg Prod.fst hx;have hx2:=congrArg Prod.snd hx;simp only[KZ]at hx1 hx2;simp only[SharedT.abs,hb]at r hx1 hx2
 have k:topFrom treeTable p w N ⟨boot_heap w.params,Array.mk [],boot_drawn,boot_toks,os⟩=some T.abs:=by
  simp only[topFrom,hs,hz,ha,r];simp only[Option.bind_some];rw[hx1]
  rfl
 show((fencedOpening treeTable p w N).bind (topFrom treeTable p w N)).map _=_;rw[hs0];show(topFrom treeTable p w N _).map _=_;rw[k];exact congrArg some hx2
def en(P:Params)(x:String)(k:Nat)(v:Value):DictEntry:=⟨PyData.keyHash P (Str.ofString x),.str (Str.ofString x) k,v⟩
def bt(P:Params):BT:=((boot_heap P).objs.toList.foldl (λ(x:BT×Nat) o=>(x.1.ins x.2 o,x.2+1)) (BT.nil,0)).1
theorem bt_ok(P:Params):absHeap (bt P) 11 (boot_heap P).life=boot_heap P:=by ext
theorem zp3(P):(boot_heap P).nsMap mainGlobals "__annotations__"=some (.ref 6):=by ext
theorem ns_ok(P:Params):(boot_heap P).isNs mainGlobals=true:=by ext
theorem sz_ok(P:Params):(boot_heap P).objs.size=11:=by ext
abbrev go(p:Program)(M:Nat)(w:World)(os:OsState):Option SharedT :=
 JO (Fast.tw10156331382660048174 (Fast.tw11892475500146522536 Fast.tw14364793385576792824) p w) (Fast.tw6613529449190102663 11 (some (.ref 6))) M ⟨bt w.params,11,(boot_heap w.params).life,Array.mk [],boot_drawn,boot_toks,os⟩ (topStub p)
abbrev xt(r:RowW)(q:Program)(s:Shared):Bool:=xlAt q [] s && recOk r.records s
theorem zkl{Ya:World->α}(N M:Nat)
  (e:opening p=plainProg p.main.scope.names) (hN:Nat.ble 600 N=true) (f:∀s,fenceModules? p s=some s) (hM:Nat.ble M N=true)
  (h:∀(w ) (os ),(go p M w os).map (λs=>KZ p q loose (xt r q) Yf (boot_heap w.params) s.abs)=some (true,openGood q loose,Ya w)):LeftO p q loose (xt r q) Yf Ya N true :=
 zkk
  (λw=>by rw[Fast.te10156331382660048174,Fast.te11892475500146522536,Fast.te14364793385576792824]) (by rw[Fast.te6613529449190102663]) e hN f hM bt_ok ns_ok sz_ok zp3 h
theorem zj5(h:Fast.tw9446332074065402090 l=true):l.wellSaid=true:=(congrFun Fast.te9446332074065402090 l).trans h
end Hd
set_option maxHeartbeats 4200000
namespace Zl
open PySem L2 Zw Zx Pu
noncomputable section
local macro_rules
  |`(tactic| simp![$as,*])=>do let y<-"AX NK JS Gb AF Ac DP GO A5 AM ND UI runM mMut GQ A4 Bo ED FY IY By Dn Kc AA mC AD AB BB BN m1 m2 AN DK Ax Ct BU Aj Fj EL BX BP BA As g1 g2 AE BG AQ BE blk Pz H0 DR G6 CM FI Ll Lk Lj Li HZ B7 Er CD Bs B9 Ig JX J0 Ca EK BQ T.isN T.isB Bu CI Hm Ir maxT ycd DB Hl Bv KG RZ HB KS T.share Ar T.sh AS T.flat at0 Fy at2 yaq List.map_nil yb9 ybi List.replicate yd3 List.nil_append ydk List.getElem?_cons_zero ybk List.getElem?_nil List.set_cons_zero List.set_cons_succ ybn nl0 nl1 nl2 nl3 nl4 nl5 nl6 nl7 nl8 nl9 Int.reduceBEq Nat.reduceBEq Nat.reduceAdd Nat.reduceSub Nat.reduceLT Nat.reduceLeDiff if_true if_false ite_true ite_false reduceIte Bool.not_true Bool.not_false Bool.and_true Bool.true_and ybq ycn Bool.or_true Bool.true_or Bool.or_false Bool.false_or Bool.false_xor Bool.true_xor yc0 ydi decide_true decide_false yaa yar or_false or_true true_or and_true true_and and_self String.reduceEq String.reduceBEq beq_self_eq_true ne_eq not_false_eq_true not_true_eq_false znv znu Z8 Hk Cs E1 Int.reduceLT Int.reduceAdd yc4 zix ziy HH implies_true forall_const Z9 Q7 Int.reduceEq Int.reduceNe Oz BF Al Bf Bt G4 CW Ez HL E6 Fl FG Ec Ay Iz JA HI EN K1 Kd.isLst HJ Ia IZ Fd".splitOn.mapM (λx=>do`(Lean.Parser.Tactic.simpLemma|$(Lean.mkCIdent (<-Lean.Macro.resolveGlobalName x.toName).head!.1):ident));`(tactic| simp only[$(⟨(Lean.Syntax.SepArray.ofElems (sep:=",") (y.toArray.map (·.raw)++as.elemsAndSeps.getSepElems)).elemsAndSeps⟩),*])
noncomputable def AI(i:Nat):Stmt:=PySem.Challenge.pw_zonewalk_k64_papers_refused.main.body.getD i (.Pass ⟨0,0,0,0⟩)
def zos(s:Stmt)(j:Nat):Stmt:=match s with
 |.ClassDef _ _ _ body _ _ _ _ _ _ _=>body.getD j (.Pass ⟨0,0,0,0⟩)
 |_=>.Pass ⟨0,0,0,0⟩
def BW(i j:Nat):Stmt:=zos (AI i) j
abbrev BL:Addr:=289
noncomputable def BS:List Str:=["start","end","guard","noughts","sign"]
abbrev Af:Addr:=343
noncomputable def Ag:List Str:=["watch_names","stays","door_list"]
abbrev A8:Addr:=547
def Aa:List Str:=["first_room","first_values","stays","ways","zones"]
def C4:T:=(.nd false .rt [(.str "<"),(.str "<="),(.str ">"),(.str ">="),(.str "=")])
def LG:T:=(.nd false .rt [(.str "<"),(.str "<=")])
noncomputable def LH:T:=(.int 7)
def LJ:T:=(.int 64)
def LK:T:=(.int 200)
def Po:List (Addr×Bool):=[(289,true),(343,false),(547,false)]
def CQ:List (Str×Addr):=[("WalkError",24),("NoNumber",37),("BadMachine",49),("TooMany",61),("NoMark",73),("NoRoad",85),("NoRoom",97)]
def Lh:List (Addr×Bool):=[(24,false),(37,false),(49,true),(61,false),(73,false),(85,false),(97,false)]
def Ld:List (Addr×Bool):=[(24,false),(37,false),(49,false),(61,true),(73,false),(85,false),(97,false)]
def Lg:List (Addr×Bool):=[(24,false),(37,false),(49,false),(61,false),(73,true),(85,false),(97,false)]
def Lf:List (Addr×Bool):=[(24,false),(37,false),(49,false),(61,false),(73,false),(85,true),(97,false)]
def Le:List (Addr×Bool):=[(24,false),(37,false),(49,false),(61,false),(73,false),(85,false),(97,true)]
def Lc:List (Addr×Bool):=[(24,true),(37,true),(49,true),(61,true),(73,true),(85,true),(97,true)]
abbrev Tu:Stmt:=AI 76
def Oa:AH :=
 (AF (A5 (m2 (Ca λi j=>decide (i<j)) (AA 1) (m1 Bu (AA 0))) (AM (Aj (AA 0) (AA 1))) A4)
 (AM (mC (.int 0))))
def ML:List T->Option Ru:=AX 2 2 Oa
abbrev Yc:Fn:=⟨1,["_law_script","_law_k"],ML⟩
abbrev gA(N:List Str)(s:Stmt)(k:Nat)(fs:List (Str×Fn))(bl:List Str)(ow:List Str:=[])(ce:List Str:=[])(ex:List Str:=[])(ox:Gx:=Bc):Gm:=⟨N,(Bl s).names,ce,k,fs,bl,ex,ow,[],false,[],[],[],ox⟩
abbrev zdr:Gm:=gA ["_law_script","_law_k"] Tu 0 [] ["len"]
theorem ze3:Ck zdr Yc Tu Oa:={}
theorem zl5(ns:List Int){k:Int}(h0:0<=k):ML [Br ns,.int k]=some (.ok (.int (ns.getD k.toNat 0))):=by
 unfold ML Oa
 by_cases h:k<ns.length
 .have e:ns[k.toNat]?=some (ns.getD k.toNat 0):=by
   simp_all
  have ea:Au (ns.map T.int) k=some (.int (ns.getD k.toNat 0)):=Fx h0 (by simp_all)
  have el:decide (k<(ns.map T.int).length)=true:=by simpa using h
  simp![Br,GL,IV,el,ea]
 .have el:decide (k<(ns.map T.int).length)=false:=by simpa using h
  have e:ns.getD k.toNat 0=0:=by
   simp_all
  simp![Br,GL,IV,el,e]
theorem zp2{x:Str}(h:∀c∈Tx.cs x,c<128):PyData.strOk x=true:=by
 unfold PyData.strOk;rw[<- Array.all_toList,yai];intro c hc;have:=h c hc;exact ye6 (by omega)
abbrev Sw:Stmt:=AI 34
def Nx:AH :=
 (AM (FG Ec Ec (mC (.str "a")) (AA 0) (mC (.str "z"))))
def Jb:List T->Option Ru:=AX 1 1 Nx
abbrev P5:Fn:=⟨1,["sign"],Jb⟩
abbrev zal:Gm:=gA ["sign"] Sw 0 [] []
theorem zaq:Ck zal P5 Sw Nx:={}
theorem SE{c:Nat}(h1:97<=c)(h2:c<=122):Jb [.str ⟨#[c]⟩]=some (.ok (.bl true)):=by
 have a1:((Str.ofString "a").cps.toList)=[97]:=by rfl
 have a2:((Str.ofString "z").cps.toList)=[122]:=by rfl
 have b1:@decide (#[c].toList<(Str.ofString "a").cps.toList) (Classical.propDecidable _)=false:=@decide_eq_false _ (Classical.propDecidable _) (by
  rw[a1];rw[List.cons_lt_cons_iff]
  simp_all)
 have b2:@decide ((Str.ofString "z").cps.toList < #[c].toList) (Classical.propDecidable _)=false:=@decide_eq_false _ (Classical.propDecidable _) (by
  rw[a2];rw[List.cons_lt_cons_iff]
  simp_all)
 unfold Jb Nx
 simp![b1,b2]
abbrev TC:Stmt:=AI 35
def QS:AG :=
 (AN Jb (AB (AA 0) AD))
def OB:AH :=
 (AM (Ct (FG Ec Ec (mC (.int 1)) (m1 Bu (AA 0)) (mC (.int 8))) (m1 DB (BA 1 [] (Ay (AA 0)) (AE 0) (mC (.bl true)) QS))))
def Jc:List T->Option Ru:=AX 1 1 OB
abbrev P7:Fn:=⟨2,["text"],Jc⟩
abbrev zeh:Gm:=gA ["text"] TC 1 [("is_small_letter",P5)] ["len","all"]
theorem zer:Ck zeh P7 TC OB:={}
def Fz(x:Str):Prop:=∀i,i<x.cps.size->97<=x.cps.getD i 0/\x.cps.getD i 0<=122
theorem SI(x:Str):FW x=mT x.cps.size λi=>.str ⟨#[x.cps.getD i 0]⟩:=by
 refine Fi (by simp[FW]) λi hi=>?_
 unfold FW
 simp_all
theorem W9{x:Str}(h:Fz x)(h1:1<=x.cps.size)(h8:x.cps.size<=8):Jc [.str x]=some (.ok (.bl true)):=by
 have l1:x.cps.size<=100000:=by omega
 have lc:=DM (n:=x.cps.size) (me:=QS) (x:=none) (cs:=[]) (g:=λi=>.str ⟨#[x.cps.getD i 0]⟩) (f:=λ_=>.bl true) λi hi=>by
  unfold QS
  simp![SE (h i hi).1 (h i hi).2]
 have e1:decide (1<=(x.length:Int))=true:=ye6 (by show 1<=(x.cps.size:Int);omega)
 have e2:decide ((x.length:Int)<=8)=true:=ye6 (by show(x.cps.size:Int)<=8;omega)
 have ll:x.length<=BV:=by
  omega
 have ba:((List.range x.cps.size).map λ_=>true).all id=true:=by simp
 unfold Jc OB
 simp![SI,lc,l1,e1,e2,ll,Gh,ba]
abbrev Sv:Stmt:=AI 36
def Nw:AH :=
 (AM (Ct (m1 (Bv "str") (AA 0)) (BU (m2 Az (AA 0) (mC (.str "/"))) (AN Jc (AB (AA 0) AD)))))
def Ja:List T->Option Ru:=AX 1 1 Nw
abbrev P4:Fn:=⟨3,["thing"],Ja⟩
abbrev zaz:Gm:=gA ["thing"] Sv 2 [("is_name",P7)] ["isinstance","str"]
theorem zb4:Ck zaz P4 Sv Nw:={}
theorem zls{x:Str}(h:Fz x):PyData.strOk x=true:=by
 unfold PyData.strOk;rw[Array.all_eq_true];intro i hi;have:=(h i hi).2;rw[yc8,yb7 hi]at this;rw[yec]
 omega
def Gj(x:Str):Prop:=x=Str.ofString "/"\/(Fz x/\1<=x.cps.size/\x.cps.size<=8)
theorem Mx:PyData.strOk (Str.ofString "/")=true:=by decide +kernel
theorem IK{x:Str}(h:Gj x):PyData.strOk x=true:=by
 rcases h with rfl|h
 .exact Mx
 .exact zls h.1
theorem RH{x:Str}(h:Gj x):Ja [.str x]=some (.ok (.bl true)):=by
 have e:=JT (IK h) Mx;unfold Ja Nw
 by_cases q:x=Str.ofString "/"
 .rw[ye6 q]at e
  simp![e]
 .rw[ydp q]at e;have en:=W9 (h.resolve_left q).1 (h.resolve_left q).2.1 (h.resolve_left q).2.2
  simp![e,en]
abbrev Sy:Stmt:=AI 37
def La:AG :=
 (BU (m2 Az (AA 0) (mC (.str "/"))) (AN Jb (AB (AA 0) AD)))
def Ny:AH :=
 (AF (A5 (BU (Ax (m1 (Bv "str") (AA 0))) (Ax (FG Ec Ec (mC (.int 1)) (m1 Bu (AA 0)) (mC (.int 60))))) (AM (mC (.bl false))) A4)
 (AM (m1 DB (BA 1 [] (Ay (AA 0)) (AE 0) (mC (.bl true)) La))))
def Lv:List T->Option Ru:=AX 1 1 Ny
abbrev YL:Fn:=⟨2,["thing"],Lv⟩
abbrev zbe:Gm:=gA ["thing"] Sy 1 [("is_small_letter",P5)] ["isinstance","str","len","all"]
theorem zbj:Ck zbe YL Sy Ny:={}
def Lo(x:Str):Prop:=∀i,i<x.cps.size->x.cps.getD i 0=47\/(97<=x.cps.getD i 0/\x.cps.getD i 0<=122)
theorem UH{x:Str}(h:Lo x):PyData.strOk x=true:=by
 unfold PyData.strOk;rw[Array.all_eq_true];intro i hi;have:=h i hi;rw[yc8,yb7 hi]at this;simp only[ydn]at this
 omega
theorem rn_ok{x:Str}(h:Lo x)(h1:1<=x.cps.size)(h8:x.cps.size<=60):Lv [.str x]=some (.ok (.bl true)):=by
 have l1:x.cps.size<=100000:=by omega
 have lc:=DM (me:=La) (x:=none) (cs:=[]) (g:=λi=>.str ⟨#[x.cps.getD i 0]⟩) (f:=λ_=>.bl true) λi hi=>by
  have o1:PyData.strOk (Str.mk #[x.cps.getD i 0])=true:=UH λj hj=>by
   have hj':j<1:=hj;have e:j=0:=by omega
   subst e;exact h i hi
  have e:=JT o1 Mx
  by_cases q:x.cps.getD i 0=47
  .have n:Str.mk #[x.cps.getD i 0]=Str.ofString "/":=by
    rw[q];exact Tx.cs_ext (by decide +kernel)
   rw[ye6 n]at e;unfold La
   simp![e]
  .have n:¬ (Str.mk #[x.cps.getD i 0]=Str.ofString "/"):=λq1=>by
    have e1:(Str.ofString "/").cps=#[47]:=by decide +kernel
    omega
   rw[ydp n]at e;have hh:=(h i hi).resolve_left q;unfold La
   simp![e,SE hh.1 hh.2]
 have e1:decide ((1:Int)<=x.length)=true:=ye6 (by show 1<=(x.cps.size:Int);omega)
 have e2:decide ((x.length:Int)<=60)=true:=ye6 (by show(x.cps.size:Int)<=60;omega)
 have ll:x.length<=100000:=l1;have ba:((List.range x.cps.size).map λ_=>true).all id=true:=by simp
 unfold Lv Ny
 simp![SI,lc,l1,e1,e2,ll,Gh,ba]
abbrev Su:Stmt:=AI 9
def Nv:AH :=
 (AM (Ct (m1 (Bv "int") (AA 0)) (Ax (m1 (Bv "bool") (AA 0)))))
def Hr:List T->Option Ru:=AX 1 1 Nv
abbrev P1:Fn:=⟨1,["thing"],Hr⟩
abbrev zdo:Gm:=gA ["thing"] Su 0 [] ["isinstance","int","bool"]
theorem ze0:Ck zdo P1 Su Nv:={}
theorem zew(i:Int):Hr [.int i]=some (.ok (.bl true)):=by rfl
abbrev TB:Stmt:=AI 26
def OA:AH :=
 (AM (Ct (AN Hr (AB (AA 0) AD)) (m2 (Ca λi j=>decide (j<=i)) (AA 0) (mC (.int 0)))))
def Hu:List T->Option Ru:=AX 1 1 OA
abbrev YM:Fn:=⟨2,["thing"],Hu⟩
abbrev zcs:Gm:=gA ["thing"] TB 1 [("is_whole",P1)] []
theorem zd3:Ck zcs YM TB OA:={}
theorem HN(i:Int):Hu [.int i]=some (.ok (.bl (decide (0<=i)))):=by
 rfl
theorem znj{t:T}(h:t=.non\/(∃b,t=.bl b)\/∃x,t=.str x):Hu [t]=some (.ok (.bl false)):=by
 unfold Hu OA Hr Nv
 rcases h with rfl|⟨b,rfl⟩|⟨x,rfl⟩<;>simp![]
abbrev TF:Stmt:=AI 25
def Iw:AH :=
 (AF (A5 (BU (Ax (m1 (Bv "tuple") (AA 0))) (m2 Cp (m1 Bu (AA 0)) (mC (.int 3)))) (AM (mC (.bl false))) A4)
 (AM (Ct (m2 C6 (Aj (AA 0) (mC (.int 0))) (AA 1)) (Ct (m2 C6 (Aj (AA 0) (mC (.int 1))) (AA 2)) (AN Hu (AB (Aj (AA 0) (mC (.int 2))) AD))))))
def El:List T->Option Ru:=AX 3 3 Iw
abbrev YN:Fn:=⟨3,["thing","watches","words"],El⟩
abbrev zei:Gm:=gA ["thing","watches","words"] TF 2 [("is_number",YM)] ["isinstance","tuple","len"]
theorem zes:Ck zei YN TF Iw:={}
def CT:List Str:=["<","<=",">",">=","="]
theorem zko:C4=.nd false .rt (CT.map T.str):=rfl
theorem Gw:B0 CT:=by unfold B0;decide +kernel
theorem HW{ws:List Str}(h:B0 ws){x y:Str}(hx:PyData.strOk x=true)(hy:PyData.strOk y=true){t:T}(ht:t.sh=true){b:Bool}(hn:Hu [t]=some (.ok (.bl b))):El [.tup [.str x,.str y,t],.lst (ws.map T.str),C4]=some (.ok (.bl (decide (x∈ws) && (decide (y∈CT) && b)))):=by
 have e1:=Fp (o:=false) (k:=.lst) h hx;have e2:=Fp (o:=false) (k:=.rt) Gw hy;have es:=AO _ ht;unfold El Iw;rw[zko]
 by_cases q1:x∈ws
 .by_cases q2:y∈CT
  .cases b<;>simp![Dq,Ao,Ah,e1,e2,ht,es,hn,q1,q2]
  .simp![Dq,Ao,Ah,e1,e2,ht,es,q1,q2]
 .simp![Dq,Ao,Ah,e1,e2,ht,es,q1]
theorem Oi{ws:List Str}{t:T}(h:(∃l,t=.lst l/\AS l=true)\/t=.non\/(∃x,t=.str x)\/∃l,t=.tup l/\l.length≠3/\AS l=true):El [t,.lst (ws.map T.str),C4]=some (.ok (.bl false)):=by
 unfold El Iw
 rcases h with ⟨l,rfl,hl⟩|rfl|⟨x,rfl⟩|⟨l,rfl,hl,h2⟩
 .simp![hl,AJ]
 .rfl
 .rfl
 .have e:((l.length:Int) == 3)=false:=by
   omega
  simp![Dq,h2,AJ,e]
abbrev TH:Stmt:=AI 27
def JW:AG :=
 (AN El (AB (AA 0) (AB (AA 1) (AB (AA 2) AD))))
def Kx:AH :=
 (AM (Ct (m1 (Bv "list") (AA 0)) (m1 DB (BA 1 [1,2] (Ay (AA 0)) (AE 0) (mC (.bl true)) JW))))
def EW:List T->Option Ru:=AX 3 3 Kx
abbrev LX:Fn:=⟨4,["thing","watches","words"],EW⟩
abbrev zdp:Gm:=gA ["thing","watches","words"] TH 3 [("is_look",YN)] ["isinstance","list","all"] [] ["watches","words"]
theorem ze1:Ck zdp LX TH Kx:={}
theorem Xc{ws:List Str}{n:Nat}{g:Nat->T}{p:Nat->Bool}(hn:n<=1000)(hs:∀i,(g i).sh=true)(h:∀i,i<n->El [g i,.lst (ws.map T.str),C4]=some (.ok (.bl (p i)))):EW [.lst (mT n g),.lst (ws.map T.str),C4]=some (.ok (.bl ((List.range n).all p))):=by
 have hg:(mT n λi=>(g i).share)=mT n g:=DI λi _=>AO _ (hs i)
 have kw:C4.share=C4:=rfl;have ks:C4.sh=true:=rfl
 have lc:=DM (n:=n) (me:=JW) (x:=none) (cs:=[some (.lst (ws.map T.str)),some C4]) (g:=g) (f:=λi=>.bl (p i)) λi hi=>by
  unfold JW
  simp![Ao,Ah,h i hi,kw,ks,AO _ (hs i),hs i]
 have l1:n<=100000:=by omega
 have sg:=HH (n:=n) hs;unfold EW Kx
 simp![Ao,Ah,kw,ks,hg,sg,l1,lc,Gh,ydo,Function.comp_id,Function.id_comp]
abbrev T5:Stmt:=AI 43
def OQ:AH :=
 (AM (m2 Az (m1 IQ (AA 0)) (m1 Bu (AA 0))))
def Hx:List T->Option Ru:=AX 1 1 OQ
abbrev LY:Fn:=⟨1,["texts"],Hx⟩
abbrev zc6:Gm:=gA ["texts"] T5 0 [] ["len","set"]
theorem zcd:Ck zc6 LY T5 OQ:={}
theorem Wl{val:Nat->L2.Key}{n:Nat}(h:∀i j,i<n->j<n->val i=val j->i=j):∀k,k<=n->(met val k).length=k/\∀x∈met val k,∃i,i<k/\x=val i
 |0,_=>⟨rfl,λx hx=>by cases hx⟩
 |k+1,hk=>by
  obtain⟨h1,h2⟩:=Wl h k (by omega)
  have hn:val k∉met val k:=λz=>by
   obtain⟨i,hi,e⟩:=h2 _ z;have:=h k i (by omega) (by omega) e
   omega
  have e:met val (k+1)=met val k++[val k]:=by
   conv=>lhs;unfold met
   omega
  rw[e];refine⟨by simp_all,λx hx=>?_⟩
  rcases yax.mp hx with q|q
  .obtain⟨i,hi,e⟩:=h2 x q;exact⟨i,by omega,e⟩
  .exact⟨k,by omega,yab.mp q⟩
theorem zli{ys:List Str}(h:ys.Nodup):RU ys=ys.length:=by
 refine(Wl (λi j hi hj e=>?_) ys.length (ya9 _)).1
 have e':=Sum.inr.inj e;rw[yam,yam,ya0 hi,ya0 hj]at e';exact(ybc h).mp e'
theorem Mg{ys:List Str}(h:ys.Nodup)(hl:ys.length<1000):Hx [.lst (ys.map T.str)]=some (.ok (.bl true)):=by
 have e:(ys.length == ys.length)=true:=yej _;unfold Hx OQ
 simp![IQ,Ao,Mr,hl,zli h,ES,e,ya1]
abbrev TX:Stmt:=AI 42
def QW:AG :=
 (AN Ja (AB (AA 0) AD))
def OL:AH :=
 (AF (A5 (BU (Ax (m1 (Bv "list") (AA 0))) (m2 (Ca λi j=>decide (j<i)) (m1 Bu (AA 0)) (mC LH))) (By "BadMachine" (AB (mC (.str "a machine's watches are a list of at most seven")) AD)) A4)
 (A5 (BU (Ax (m1 DB (BA 1 [] (Ay (AA 0)) (AE 0) (mC (.bl true)) QW))) (Ax (AN Hx (AB (AA 0) AD)))) (By "BadMachine" (AB (mC (.str "a machine's watches are unlike names")) AD)) A4))
def MB:List T->Option Ru:=AX 1 1 OL
abbrev YV:Fn:=⟨4,["watches"],MB⟩
abbrev zav:Gx:={ Bc with co:=[("MOST_WATCHES",LH)] }
abbrev zb0:Gm:=gA ["watches"] TX 3 [("is_watch_name",P4),("are_unlike",LY)] ["isinstance","list","len","all"] (ex:=["BadMachine"]) (ox:=zav)
theorem zb5:Ck zb0 YV TX OL:={}
theorem KU(ws:List Str):ws.map T.str=mT ws.length λi=>.str (ws.getD i Str.empty):=Fi (by simp_all) λi hi=>by
 simp_all
theorem cw_ok{ws:List Str}(h:∀x∈ws,Gj x)(hd:ws.Nodup)(hl:ws.length<=7):MB [.lst (ws.map T.str)]=some (.ok .non):=by
 have lc:=DM (n:=ws.length) (me:=QW) (x:=none) (cs:=[]) (g:=λi=>.str (ws.getD i Str.empty)) (f:=λ_=>.bl true) λi hi=>by
  have hm:ws.getD i Str.empty∈ws:=by
   simp_all
  unfold QW
  simp![RH (h _ hm)]
 rw[<- KU]at lc;have l1:ws.length<=100000:=by omega
 have e1:decide (7<(ws.length:Int))=false:=ydp (by omega)
 have ba:((List.range ws.length).map λ_=>true).all id=true:=by simp
 have un:=Mg hd (by omega)
 unfold MB OL LH
 simp![Ao,Ah,ya1,lc,l1,e1,Gh,ba,un]
abbrev TY:Stmt:=AI 44
def M3:AH :=
 (AF (A5 (BU (Ax (m1 (Bv "tuple") (AA 2))) (m2 Cp (m1 Bu (AA 2)) (mC (.int 2)))) (By "BadMachine" (AB (mC (.str "a room is a tuple of a name and a stay")) AD)) A4)
 (A5 (BU (Ax (AN Lv (AB (Aj (AA 2) (mC (.int 0))) AD))) (Ax (AN EW (AB (Aj (AA 2) (mC (.int 1))) (AB (AA 1) (AB (mC LG) AD)))))) (By "BadMachine" (AB (mC (.str "a room has a name, and a stay of the machine's watches")) AD)) A4))
def QX:AG :=
 (Aj (AA 0) (mC (.int 0)))
def OM:AH :=
 (AF (A5 (BU (Ax (m1 (Bv "list") (AA 0))) (m2 Az (m1 Bu (AA 0)) (mC (.int 0)))) (By "BadMachine" (AB (mC (.str "a machine's rooms are a list of one or more")) AD)) A4)
 (AF (Bo (Ay (AA 0)) (AE 2) M3)
 (A5 (Ax (AN Hx (AB (BA 1 [] (Ay (AA 0)) (AE 0) (mC (.bl true)) QX) AD))) (By "BadMachine" (AB (mC (.str "no two rooms have one name")) AD)) A4)))
def MC:List T->Option Ru:=AX 2 3 OM
abbrev YW:Fn:=⟨5,["rooms","watches"],MC⟩
abbrev zbn:Gx:={ Bc with co:=[("STAY_WORDS",LG)] }
abbrev zbs:Gm:=gA ["rooms","watches","room"] TY 4 [("is_room_name",YL),("is_guard",LX),("are_unlike",LY)] ["isinstance","list","len","tuple"] (ex:=["BadMachine"]) (ox:=zbn)
theorem zby:Ck zbs YW TY OM:={}
def Dh(ws wd:List Str)(l:List T):Prop:=∀t∈l,∃x y n,t=.tup [.str x,.str y,.int n]/\x∈ws/\y∈wd/\0<=n
theorem Dh.sh{ws wd:List Str}{l:List T}(h:Dh ws wd l):AS l=true:=by
 rw[Bn,yai];intro t ht;obtain⟨x,y,n,rfl,_⟩:=h t ht
 rfl
theorem Dh.more{ws vs wd:List Str}{l:List T}(h:Dh ws wd l)(hs:∀x∈ws,x∈vs):Dh vs wd l:=λt ht=>by
 obtain⟨x,y,n,e,h1,h2,h3⟩:=h t ht;exact⟨x,y,n,e,hs x h1,h2,h3⟩
abbrev JI(wd:List Str):T:=.nd false .rt (wd.map T.str)
theorem zkh{ws wd:List Str}(h:B0 ws)(hd:B0 wd){t:T}(ht:∃x y n,t=.tup [.str x,.str y,.int n]/\x∈ws/\y∈wd/\0<=n):El [t,.lst (ws.map T.str),JI wd]=some (.ok (.bl true)):=by
 obtain⟨x,y,n,rfl,h1,h2,h3⟩:=ht;have e1:=Fp (o:=false) (k:=.lst) h (h x h1);have e2:=Fp (o:=false) (k:=.rt) hd (hd y h2);have e3:=HN n;rw[ye6 h1]at e1;rw[ye6 h2]at e2;rw[ye6 h3]at e3;unfold El Iw
 simp![Dq,Ao,Ah,e1,e2,e3]
theorem PH{ws wd:List Str}(h:B0 ws)(hd:B0 wd){l:List T}(hl:l.length<=1000)(hk:Dh ws wd l):EW [.lst l,.lst (ws.map T.str),JI wd]=some (.ok (.bl true)):=by
 have hs:=hk.sh;have es:=AJ l hs;have em:=mT_of l .non
 have sg:∀i,(l.getD i .non).sh=true:=λi=>by
  by_cases hi:i<l.length
  .rw[yam,ya0 hi];rw[Bn,yai]at hs;exact hs _ (yb5 hi)
  .rw[yam,yc7 (by omega)]
   rfl
 have lc:=DM (me:=JW) (x:=none) (cs:=[some (.lst (ws.map T.str)),some (JI wd)]) (g:=λi=>l.getD i .non) (f:=λ_=>.bl true) λi hi=>by
  have hm:l.getD i .non∈l:=by
   rw[yam,ya0 hi];exact yb5 hi
  have e:=zkh h hd (hk _ hm);unfold JW
  simp![Ao,Ah,e,AO _ (sg i),sg i]
 rw[<- em]at lc;have l1:l.length<=100000:=by omega
 have ba:((List.range l.length).map λ_=>true).all id=true:=by simp
 unfold EW Kx
 simp![Ao,Ah,hs,es,l1,lc,Gh,ba]
def Mu:List Str:=["<","<="]
theorem zo5:LG=JI Mu:=rfl
theorem LD:C4=JI CT:=rfl
theorem st_tx:B0 Mu:=by unfold B0;decide +kernel
structure RsOk(ws:List Str)(rs:List (Str×List T)):Prop where
 l1:1<=rs.length
 l64:rs.length<=64
 nm:∀r∈rs,Lo r.1/\1<=r.1.cps.size/\r.1.cps.size<=60
 nd:(rs.map (·.1)).Nodup
 lk:∀r∈rs,Dh ws Mu r.2/\r.2.length<=1000
abbrev AV(r:Str×List T):T:=.tup [.str r.1,.lst r.2]
abbrev EF(rs:List (Str×List T)):T:=.lst (rs.map AV)
theorem UD{ws:List Str}{rs:List (Str×List T)}(h:RsOk ws rs):AS (rs.map AV)=true:=by
 rw[Bn,yai];intro t ht;obtain⟨r,hr,rfl⟩:=yag.mp ht;have:=(h.lk r hr).1.sh;show((!false) && (true && (((!false) && AS r.2) && true)))=true
 omega
theorem zl2{ws:List Str}(hw:B0 ws){rs:List (Str×List T)}(h:RsOk ws rs):MC [EF rs,.lst (ws.map T.str)]=some (.ok .non):=by
 have sr:=UD h;have er:=AJ _ sr;have hl1:=h.l1;have hl2:=h.l64;have en:(((rs.map AV).length:Int) == 0)=false:=by rw[beq_eq_false_iff_ne,ya1];omega
 obtain⟨τ,e,y,rfl⟩:=Eh (b:=AE 2) (body:=M3) (ts:=rs.map AV) (τ:=[some (EF rs),some (.lst (ws.map T.str)),none]) (λi τ=>∃y,τ=[some (EF rs),some (.lst (ws.map T.str)),y]) ⟨_,rfl⟩ λi t τ h1 h2=>by
  obtain⟨y,rfl⟩:=h2;obtain⟨r,hr,rfl⟩:=yag.mp (yc9 h1);obtain⟨n1,n2,n3⟩:=h.nm r hr;obtain⟨k1,k2⟩:=h.lk r hr;have e1:=rn_ok n1 n2 n3;have e2:=PH hw st_tx k2 k1;have e3:=k1.sh;refine⟨[some (EF rs),some (.lst (ws.map T.str)),some (AV r)],by simp![],[some (EF rs),some (.lst (ws.map T.str)),some (AV r)],?_,_,rfl⟩
  unfold M3
  simp![zo5,Dq,Ao,Ah,e1,e2,e3,AJ _ e3]
 have lc:=JG (b:=AE 0) (me:=QX) (ts:=rs.map AV) (λ_ τ=>∃y,τ=[y]) (λi=>.str ((rs.map (·.1)).getD i Str.empty)) ⟨none,rfl⟩ λi t τ h1 h2=>by
  obtain⟨y,rfl⟩:=h2;have hi :=by simpa using (ya3.mp h1).1
  rw[ya8,ya0 hi]at h1;have et :=(yap h1).symm;subst et;have k1:=(h.lk rs[i] (yb5 hi)).1.sh;have eg:(rs.map (·.1)).getD i Str.empty=rs[i].1:=by simp[hi]
  refine⟨[some (AV rs[i])],by simp![],?_,_,rfl⟩
  rw[eg];unfold QX
  simp![k1]
 have em:(List.range (rs.map AV).length).map (λi=>T.str ((rs.map (·.1)).getD i Str.empty))=(rs.map (·.1)).map T.str:=by
  rw[KU (rs.map (·.1)),ya1,ya1]
  rfl
 rw[em]at lc;have un:=Mg h.nd (by rw[ya1];omega)
 have ll:(rs.map AV).length<=100000:=by rw[ya1];omega
 unfold MC OM
 simp![ES,Ao,Ah,sr,er,en,e,lc,un,ll]
abbrev T6:Stmt:=AI 46
def QZ:AG :=
 (AN Ja (AB (AA 0) AD))
def QY:AG :=
 (m2 C6 (AA 0) (AA 1))
def OS:AH :=
 (AF (A5 (BU (Ax (m1 (Bv "list") (AA 0))) (Ax (m1 DB (BA 1 [] (Ay (AA 0)) (AE 0) (mC (.bl true)) QZ)))) (AM (mC (.bl false))) A4)
 (AM (Ct (AN Hx (AB (AA 0) AD)) (m1 DB (BA 1 [1] (Ay (AA 0)) (AE 0) (mC (.bl true)) QY)))))
def ME:List T->Option Ru:=AX 2 2 OS
abbrev YY:Fn:=⟨4,["thing","watches"],ME⟩
abbrev zbu:Gm:=gA ["thing","watches"] T6 3 [("is_watch_name",P4),("are_unlike",LY)] ["isinstance","list","all"] [] ["watches"]
theorem zc0:Ck zbu YY T6 OS:={}
theorem znm{ws ns:List Str}(hw:∀x∈ws,Gj x)(hn:∀x∈ns,x∈ws)(hd:ns.Nodup)(hl:ns.length<=100):ME [.lst (ns.map T.str),.lst (ws.map T.str)]=some (.ok (.bl true)):=by
 have tw :=λx hx=>IK (hw x hx)
 have mem:∀i,i<ns.length->ns.getD i Str.empty∈ns:=λi hi=>by
  simp_all
 have lc:=DM (n:=ns.length) (me:=QZ) (x:=none) (cs:=[]) (g:=λi=>.str (ns.getD i Str.empty)) (f:=λ_=>.bl true) λi hi=>by
  unfold QZ
  simp![RH (hw _ (hn _ (mem i hi)))]
 have HY:=DM (me:=QY) (x:=none) (cs:=[some (.lst (ws.map T.str))]) (g:=λi=>.str (ns.getD i Str.empty)) (f:=λ_=>.bl true) λi hi=>by
  have e:=Fp (o:=false) (k:=.lst) tw (tw _ (hn _ (mem i hi)));rw[ye6 (hn _ (mem i hi))]at e;unfold QY
  simp![Ao,Ah,e]
 rw[<- KU]at lc HY;have l1:ns.length<=100000:=by omega
 have ba:((List.range ns.length).map λ_=>true).all id=true:=by simp
 have un:=Mg hd (by omega)
 unfold ME OS
 simp![Ao,Ah,ya1,lc,HY,l1,Gh,ba,un]
abbrev Sx:Stmt:=AI 38
def Kw:AH :=
 (AF (A5 (Ax (m1 (Bv "str") (AA 0))) (AM (mC (.bl false))) A4)
 (AM (BU (m2 Az (AA 0) (mC (.str ""))) (Ct (m2 C6 (Aj (AA 0) (m1 EK (mC (.int 1)))) (BP (AB (mC (.str "!")) (AB (mC (.str "?")) AD)))) (AN Jc (AB (Bt (Fj (AA 0) none (some (m1 EK (mC (.int 1))))) (G3 (AA 0) none (some (m1 EK (mC (.int 1)))))) AD))))))
def Hs:List T->Option Ru:=AX 1 1 Kw
abbrev YK:Fn:=⟨3,["thing"],Hs⟩
abbrev zef:Gm:=gA ["thing"] Sx 2 [("is_name",P7)] ["isinstance","str"]
theorem zep:Ck zef YK Sx Kw:={}
def Ln(z:Str):Prop:=z=Str.ofString ""\/∃(y:Str) (c:Nat),Fz y/\1<=y.cps.size/\y.cps.size<=8/\(c=33\/c=63)/\Tx.cs z=Tx.cs y++[c]
theorem zlt{y:Str}(h:Fz y):∀c∈Tx.cs y,97<=c/\c<=122:=λc hc=>by
 obtain⟨i,hi⟩:=List.getElem?_of_mem hc;have hl :=by simpa using (ya3.mp hi).1
 have:=h i hl
 simp_all
theorem zj0{z:Str}(h:Ln z):∀c∈Tx.cs z,c<128/\c≠32/\c≠10/\c≠58:=λc hc=>by
 rcases h with rfl|⟨y,d,h1,_,_,hd,e⟩
 .cases hc
 .rw[e]at hc
  rcases yax.mp hc with hc|hc
  .have:=zlt h1 c hc
   omega
  .rw[yab.mp hc]
   omega
theorem zlx{z:Str}(h:Ln z):PyData.strOk z=true:=zp2 λc hc=>(zj0 h c hc).1
theorem zly{z:Str}(h:Ln z):Hs [.str z]=some (.ok (.bl true)):=by
 have o0:PyData.strOk (Str.ofString "")=true:=by decide +kernel
 have tl:∀c,(c=33\/c=63)->C6 (.str (Str.mk #[c])) (.tup [.str (Str.ofString "!"),.str (Str.ofString "?")])=some (.bl true):=λc hc=>by
  rcases hc with rfl|rfl<;>ext
 have key:∀z y:Str,PyData.strOk z=true->z≠Str.ofString ""->z.length<=100000->∀c,(c=33\/c=63)->Au z.cps.toList (-1)=some c->Txt.slice z none (some (-1))=y->Fz y->1<=y.cps.size->y.cps.size<=8->Hs [.str z]=some (.ok (.bl true)):=by
  intro z y hz hne hl c hc ha hs h1 h2 h3;have e:=JT hz o0;rw[ydp hne]at e;have en:=W9 h1 h2 h3;unfold Hs Kw
  simp![e,hl,ha,tl c hc,G3,hs,en,show(-(1:Int))=-1 from rfl]
 rcases id h with rfl|⟨y,c,h1,h2,h3,hc,e⟩
 .have e:=JT o0 o0;rw[ye6 rfl]at e;unfold Hs Kw
  simp![e]
 .have hl:(Tx.cs z).length=(Tx.cs y).length+1:=by rw[e,ybe];rfl
  have h3':(Tx.cs y).length<=8:=h3;refine key z y (zlx h) (λq=>?_) (by rw[Tx.cs_len];omega) c hc ?_ ?_ h1 h2 h3
  .rw[q,show Tx.cs (Str.ofString "")=[] by decide +kernel]at hl
   exact absurd hl (by rw[ybi];omega)
  .show Au (Tx.cs z) (-1)=some c;rw[e];unfold Au Bp;rw[ybe,ycz,if_neg (by decide),if_pos (by omega)]
   show(Tx.cs y++[c])[((-1:Int)+((Tx.cs y).length+1:Nat)).toNat]?=some c;rw[show((-1:Int)+((Tx.cs y).length+1:Nat)).toNat=(Tx.cs y).length by omega,yaz (ya9 _),Nat.sub_self]
   rfl
  .have e2:Txt.slice z none (some (-1))=StrLaws.sliceText z none (some (-1)):=rfl;rw[e2,StrLaws.sliceText_neg_hi z none (by decide) (by rw[Tx.cs_len,hl];omega)]
   have e3:(-1+z.length)=((Tx.cs y).length:Int):=by rw[Tx.cs_len,hl];omega
   rw[e3];refine Tx.cs_ext ?_;show Tx.cs (Txt.slice z none (some (((Tx.cs y).length:Nat):Int)))=Tx.cs y;rw[Tx.sl_to (by omega),e,List.take_left' rfl]
abbrev Sa:Stmt:=AI 39
def Nj:AH :=
 (AM (DK (m1 (Bv "list") (AA 0)) (m1 CI (AA 0)) (AA 0)))
def J7:List T->Option Ru:=AX 1 1 Nj
abbrev Xz:Fn:=⟨1,["thing"],J7⟩
abbrev zdk:Gm:=gA ["thing"] Sa 0 [] ["isinstance","list"]
theorem zdw:Ck zdk Xz Sa Nj:={}
theorem VJ(l:List T)(h:AS l=true):J7 [.lst l]=some (.ok (.own l)):=by
 unfold J7 Nj
 simp![h,AJ _ h]
abbrev TZ:Stmt:=AI 45
def M4:AH :=
 (AF (A5 (Ax (m1 (JM Po) (AA 3))) (By "BadMachine" (AB (mC (.str "a machine's doors are doors")) AD)) A4)
 (AF (A5 (BU (m2 E7 (Al BL BS 0 (AA 3)) (AA 1)) (m2 E7 (Al BL BS 1 (AA 3)) (AA 1))) (By "BadMachine" (AB (mC (.str "a door leads from one room of the machine to another")) AD)) A4)
 (AF (A5 (Ax (AN EW (AB (Al BL BS 2 (AA 3)) (AB (AA 2) (AB (mC C4) AD))))) (By "BadMachine" (AB (mC (.str "a door's guard is one of the machine's watches")) AD)) A4)
 (A5 (BU (Ax (AN ME (AB (Al BL BS 3 (AA 3)) (AB (AA 2) AD)))) (Ax (AN Hs (AB (Al BL BS 4 (AA 3)) AD)))) (By "BadMachine" (AB (mC (.str "a door sets watches of the machine, each once, and has at most one sign")) AD)) A4))))
def ON:AH :=
 (AF (A5 (Ax (m1 (Bv "list") (AA 0))) (By "BadMachine" (AB (mC (.str "a machine's doors are a list")) AD)) A4)
 (Bo (Ay (AA 0)) (AE 3) M4))
def MD:List T->Option Ru:=AX 3 4 ON
abbrev YX:Fn:=⟨5,["doors","names","watches"],MD⟩
abbrev zbo:Gx:={ Bc with co:=[("WORDS",C4)],cl:=[("Door",BL,BS)],ci:=[("Door",Po)] }
abbrev zbt:Gm:=gA ["doors","names","watches","door"] TZ 4 [("is_guard",LX),("are_noughts",YY),("is_sign",YK)] ["isinstance","list"] (ex:=["BadMachine"]) (ox:=zbo)
theorem zbz:Ck zbt YX TZ ON:={}
structure Dr where
 s:Str
 e:Str
 g:List T
 n:List Str
 z:Str
abbrev BJ(d:Dr):T:=.obj (.ins BL BS) [.str d.s,.str d.e,.lst d.g,.lst (d.n.map T.str),.str d.z]
structure DrOk(ws ns:List Str)(d:Dr):Prop where
 s:d.s∈ns
 e:d.e∈ns
 g:Dh ws CT d.g
 gl:d.g.length<=1000
 n:∀x∈d.n,x∈ws
 nd:d.n.Nodup
 nl:d.n.length<=100
 z:Ln d.z
theorem DrOk.more{ws vs ns:List Str}{d:Dr}(h:DrOk ws ns d)(hs:∀x∈ws,x∈vs):DrOk vs ns d:=⟨h.s,h.e,h.g.more hs,h.gl,λx hx=>hs x (h.n x hx),h.nd,h.nl,h.z⟩
theorem L6{ws ns:List Str}{d:Dr}(h:DrOk ws ns d):(BJ d).sh=true:=by
 have:=h.g.sh
 simp![this,Ah]
theorem W5{ys:List Str}{x:Str}{o:Bool}{k:Kd}(h:B0 ys)(hx:PyData.strOk x=true):E7 (.str x) (.nd o k (ys.map T.str))=some (.bl (!decide (x∈ys))):=by
 have e:=Fp (o:=o) (k:=k) h hx;unfold C6 at e;unfold E7
 omega
theorem zl6{ws ns:List Str}(hw:∀x∈ws,Gj x)(hn:B0 ns){ds:List Dr}(h:∀d∈ds,DrOk ws ns d):MD [.lst (ds.map BJ),.lst (ns.map T.str),.lst (ws.map T.str)]=some (.ok .non):=by
 have tw :=λx hx=>IK (hw x hx)
 have sd:AS (ds.map BJ)=true:=by
  rw[Bn,yai];intro t ht;obtain⟨d,hd,rfl⟩:=yag.mp ht;exact L6 (h d hd)
 have ed:=AJ _ sd
 obtain⟨τ,e,y,rfl⟩:=Eh (b:=AE 3) (body:=M4) (ts:=ds.map BJ) (τ:=[some (.lst (ds.map BJ)),some (.lst (ns.map T.str)),some (.lst (ws.map T.str)),none]) (λi τ=>∃y,τ=[some (.lst (ds.map BJ)),some (.lst (ns.map T.str)),some (.lst (ws.map T.str)),y]) ⟨_,rfl⟩ λi t τ h1 h2=>by
  obtain⟨y,rfl⟩:=h2;obtain⟨d,hd,rfl⟩:=yag.mp (yc9 h1);have k:=h d hd;have e1:=W5 (o:=false) (k:=.lst) hn (hn _ k.s);have e2:=W5 (o:=false) (k:=.lst) hn (hn _ k.e);rw[ye6 k.s]at e1;rw[ye6 k.e]at e2;have e3:=PH tw Gw k.gl k.g;have e4:=znm hw k.n k.nd k.nl;have e5:=zly k.z;have e6:=k.g.sh;have ci:List.lookup BL Po=some true:=rfl;refine⟨[some (.lst (ds.map BJ)),some (.lst (ns.map T.str)),some (.lst (ws.map T.str)),some (BJ d)],by simp![],[some (.lst (ds.map BJ)),some (.lst (ns.map T.str)),some (.lst (ws.map T.str)),some (BJ d)],?_,_,rfl⟩
  unfold M4
  simp![LD,JM,ci,Ao,Ah,e1,e2,e3,e4,e5,e6,AJ _ e6]
 unfold MD ON
 simp![Ao,Ah,sd,ed,e]
abbrev Tw:Stmt:=BW 40 0
def Od:AH :=
 (AF (CW BL BS 0 0 (AA 1))
 (AF (CW BL BS 1 0 (AA 2))
 (AF (CW BL BS 2 0 (AN J7 (AB (AA 3) AD)))
 (AF (CW BL BS 3 0 (AN J7 (AB (AA 4) AD)))
 (CW BL BS 4 0 (AA 5))))))
def MO:List T->Option Ru:=DU BL BS 6 6 Od
abbrev Ye:Fn:=⟨2,["self","start","end","guard","noughts","sign"],MO⟩
abbrev zcn:Gx:={ Bc with sf:=some (BL,BS) }
abbrev zcx:Gm:=gA ["self","start","end","guard","noughts","sign"] Tw 1 [("own_copy",Xz)] [] (ox:=zcn)
theorem zd8:Ck zcx Ye Tw Od:={}
theorem di_ok{ws ns:List Str}{d:Dr}(h:DrOk ws ns d):MO [.str d.s,.str d.e,.lst d.g,.lst (d.n.map T.str),.str d.z]=some (.ok (BJ d)):=by
 have hg:=h.g.sh;have e1:=VJ d.g hg;have e2:=VJ (d.n.map T.str) (Ah _);refine NJ λp=>?_
 unfold Ey Od
 simp![e1,e2,hg,AJ _ hg,Ao,Ah]
abbrev Tn:Stmt:=BW 41 0
def Q4:AG :=
 (AA 0)
def M8:AH :=
 (HL Af Ag 1 0 (AA 4) (m1 CI (AA 5)))
def O5:AH :=
 (AF (GQ (AN MB (AB (AA 1) AD)))
 (AF (GQ (AN MC (AB (AA 2) (AB (AA 1) AD))))
 (AF (GQ (AN MD (AB (AA 3) (AB (BA 2 [] (Ay (AA 2)) (BE 2 (AQ (AE 0) (AQ (AE 1) BG))) (mC (.bl true)) Q4) (AB (AA 1) AD)))))
 (AF (A5 (BU (m2 (Ca λi j=>decide (j<i)) (m1 Bu (AA 2)) (mC LJ)) (m2 (Ca λi j=>decide (j<i)) (m1 Bu (AA 3)) (mC LK))) (By "TooMany" (AB (mC (.str "a machine has at most 64 rooms and at most 200 doors")) AD)) A4)
 (AF (CW Af Ag 0 0 (m1 CI (AA 1)))
 (AF (CW Af Ag 1 0 Fl)
 (AF (Bo (Ay (AA 2)) (BE 2 (AQ (AE 4) (AQ (AE 5) BG))) M8)
 (CW Af Ag 2 0 (m1 CI (AA 3))))))))))
def MK:List T->Option Ru:=DU Af Ag 4 6 O5
abbrev Pg:Fn:=⟨6,["self","watches","rooms","doors"],MK⟩
abbrev zbc:Gx:={ Bc with co:=[("MOST_ROOMS",LJ),("MOST_DOORS",LK)],sf:=some (Af,Ag) }
abbrev zbg:Gm:=gA ["self","watches","rooms","doors","name","stay"] Tn 5 [("check_watches",YV),("check_rooms",YW),("check_doors",YX)] ["len","list"] (ex:=["TooMany"]) (ox:=zbc)
theorem zbl:Ck zbg Pg Tn O5:={}
structure Mc where
 ws:List Str
 rs:List (Str×List T)
 ds:List Dr
abbrev Be(M:Mc):T:=.obj (.ins Af Ag) [.lst (M.ws.map T.str),.obj (.sdc (M.rs.map (·.1))) (M.rs.map λr=>.lst r.2),.lst (M.ds.map BJ)]
structure McOk(M:Mc):Prop where
 w:∀x∈M.ws,Gj x
 wd:M.ws.Nodup
 wl:M.ws.length<=7
 r:RsOk M.ws M.rs
 d:∀d∈M.ds,DrOk M.ws (M.rs.map (·.1)) d
 dl:M.ds.length<=200
theorem McOk.tw{M:Mc}(h:McOk M):B0 M.ws:=λx hx=>IK (h.w x hx)
theorem McOk.tn{M:Mc}(h:McOk M):B0 (M.rs.map (·.1)):=λx hx=>by
 obtain⟨r,hr,rfl⟩:=yag.mp hx;exact UH (h.r.nm r hr).1
theorem McOk.sd{M:Mc}(h:McOk M):AS (M.ds.map BJ)=true:=by
 rw[Bn,yai];intro t ht;obtain⟨d,hd,rfl⟩:=yag.mp ht;exact L6 (h.d d hd)
theorem McOk.ss{M:Mc}(h:McOk M):AS (M.rs.map λr=>T.lst r.2)=true:=by
 rw[Bn,yai];intro t ht;obtain⟨r,hr,rfl⟩:=yag.mp ht;show((!false) && AS r.2)=true;rw[(h.r.lk r hr).1.sh]
 rfl
theorem McOk.sh{M:Mc}(h:McOk M):(Be M).sh=true:=by
 simp![Ah,h.ss,h.sd]
theorem zkc{M:Mc}(h:McOk M):MK [.lst (M.ws.map T.str),EF M.rs,.lst (M.ds.map BJ)]=some (.ok (Be M)):=by
 have cw:=cw_ok h.w h.wd h.wl;have cr:=zl2 h.tw h.r;have cd:=zl6 h.w h.tn h.d;have sr:=UD h.r;have er:=AJ _ sr;have sd:=h.sd;have ed:=AJ _ sd;have h1:=h.r.l1;have h64:=h.r.l64;have h200:=h.dl
 have lc:=JG (b:=BE 2 (AQ (AE 0) (AQ (AE 1) BG))) (me:=Q4) (ts:=M.rs.map AV) (λ_ τ=>∃x y,τ=[x,y]) (λi=>.str ((M.rs.map (·.1)).getD i Str.empty)) ⟨none,none,rfl⟩ λi t τ h1 h2=>by
  obtain⟨x,y,rfl⟩:=h2;have hi:i<M.rs.length:=by simpa using (ya3.mp h1).1
  rw[ya8,ya0 hi]at h1;have et :=(yap h1).symm;subst et;have eg:(M.rs.map (·.1)).getD i Str.empty=M.rs[i].1:=by simp[hi]
  refine⟨[some (.str M.rs[i].1),some (.lst M.rs[i].2)],by simp![],?_,_,_,rfl⟩
  rw[eg];unfold Q4
  simp![]
 have em:(List.range (M.rs.map AV).length).map (λi=>T.str ((M.rs.map (·.1)).getD i Str.empty))=(M.rs.map (·.1)).map T.str:=by
  rw[KU (M.rs.map (·.1)),ya1,ya1]
  rfl
 rw[em]at lc;have ll:(M.rs.map AV).length<=100000:=by rw[ya1];omega
 have g1:decide ((64:Int)<((M.rs.map AV).length:Int))=false:=ydp (by rw[ya1];omega)
 have g2:decide ((200:Int)<((M.ds.map BJ).length:Int))=false:=ydp (by rw[ya1];omega)
 refine NJ λp=>?_
 obtain⟨τ,e,x,y,rfl⟩:=Eh (b:=BE 2 (AQ (AE 4) (AQ (AE 5) BG))) (body:=M8) (ts:=M.rs.map AV) (τ:=[some (.oob p Af Ag [.own (M.ws.map T.str),.osd [] []]),some (.lst (M.ws.map T.str)),some (EF M.rs),some (.lst (M.ds.map BJ)),none,none])
  (λi τ=>∃x y,τ=[some (.oob p Af Ag [.own (M.ws.map T.str),.osd ((M.rs.take i).map (·.1)) ((M.rs.take i).map λr=>.lst r.2)]),some (.lst (M.ws.map T.str)),some (EF M.rs),some (.lst (M.ds.map BJ)),x,y]) ⟨none,none,by rw[List.take_zero];rfl⟩ λi t τ h1 h2=>by
  obtain⟨x,y,rfl⟩:=h2;have hi:i<M.rs.length:=by simpa using (ya3.mp h1).1
  rw[ya8,ya0 hi]at h1;have et :=(yap h1).symm;subst et;have k1:=(h.r.lk _ (yb5 hi)).1.sh
  have hno:M.rs[i].1∉(M.rs.take i).map (·.1):=λhm=>by
   rw[ycv]at hm;obtain⟨j,hj,ej⟩:=List.mem_iff_getElem.mp hm;rw[yat,ya1]at hj;have hnd:=h.r.nd;rw[List.getElem_take]at ej;have e2:(M.rs.map (·.1))[j]'(by rw[ya1];omega)=(M.rs.map (·.1))[i]'(by rw[ya1];exact hi):=by rw[ej,yca]
   have:=(ybc hnd).mp e2
   omega
  have hlen:((M.rs.take i).map (·.1)).length<100000:=by
   rw[ya1,yat]
   omega
  have et2:M.rs.take (i+1)=M.rs.take i++[M.rs[i]]:=by rw[List.take_append_getElem]
  refine⟨[some (.oob p Af Ag [.own (M.ws.map T.str),.osd ((M.rs.take i).map (·.1)) ((M.rs.take i).map λr=>.lst r.2)]),some (.lst (M.ws.map T.str)),some (EF M.rs),some (.lst (M.ds.map BJ)),some (.str M.rs[i].1),some (.lst M.rs[i].2)],by simp![],[some (.oob p Af Ag [.own (M.ws.map T.str),.osd ((M.rs.take (i+1)).map (·.1)) ((M.rs.take (i+1)).map λr=>.lst r.2)]),some (.lst (M.ws.map T.str)),some (EF M.rs),some (.lst (M.ds.map BJ)),some (.str M.rs[i].1),some (.lst M.rs[i].2)],?_,_,_,rfl⟩
  rw[et2,yb1,yb1];unfold M8
  simp![k1,AJ _ k1,hno,hlen]
 rw[ya1,ycw]at e;have es:=AJ _ h.ss;unfold Ey O5 LJ LK
 simp![Ao,Ah,cw,cr,cd,sr,er,sd,ed,lc,ll,g1,g2,e,es]
theorem Eu{α:Type}{f:α->T}{L:List α}(h:∀x∈L,(f x).sh=true):AS (L.map f)=true:=by
 rw[Bn,yai];intro t ht;obtain⟨x,hx,rfl⟩:=yag.mp ht;exact h x hx
theorem sq{f g:AH}{τ τ':AL}{r:Option Out}(h:f τ=some (.nx τ'))(h2:g τ'=r):AF f g τ=r:=by
 unfold AF;rw[h];exact h2
theorem XD{α:Type}{b:T->AL->Option AL}{mt me:AG}(f g:α->T)(p:α->Bool)(I:AL->Prop):∀(L:List α) (τ:AL),I τ->(∀x∈L,∀τ,I τ->∃τ1 bb,b (f x) τ=some τ1/\mt τ1=some (.v (.bl (p x)) bb)/\(p x=true->me τ1=some (.v (g x) false))/\I τ1)->BZ b mt me (L.map f) τ=some ((L.filter p).map g)
 |[],_,_,_=>rfl
 |x::L,τ,h,hs=>by
  obtain⟨τ1,bb,e1,e2,e3,h1⟩:=hs x (ya7 ..) τ h;have k:=XD f g p I L τ1 h1 λu hu=>hs u (ya4 _ hu)
  rw[yaq,ydj];unfold BZ;cases hp:p x with
  |true=>simp_all
  |false=>omega
def Mc.nm(M:Mc):List Str:=M.rs.map (·.1)
theorem Ko{α:Type}(l:List α)(hl:l≠[])(i:Int):∃x∈l,Au l (i.fmod (l.length:Int))=some x:=by
 have hp:0<l.length:=List.length_pos_iff.mpr hl;have h0:=yc1 i (show(0:Int)<(l.length:Int) by omega)
 have h1:=ydb i (show(0:Int)<(l.length:Int) by omega)
 have h2:(i.fmod (l.length:Int)).toNat<l.length:=by omega
 exact⟨l[(i.fmod (l.length:Int)).toNat],yb5 h2,Fx h0 (ya0 h2)⟩
theorem Qa{α:Type}(f:α->T){l:List α}{i:Int}{x:α}(h:Au l i=some x):Au (l.map f) i=some (f x):=by
 unfold Au at h ⊢;rw[ya1];cases hi:Bp l.length i with
 |none=>rw[hi]at h;cases h
 |some j =>
  rw[hi]at h;have h':l[j]?=some x:=h;show(l.map f)[j]?=some (f x);rw[ya8,h']
  rfl
theorem Oj{α:Type}{l:List α}(h:l≠[]):((l.length:Nat):Int)≠0:=λz=>h (List.length_eq_zero_iff.mp (Int.ofNat.inj z))
theorem em_ok:PyData.strOk (Str.ofString "")=true:=by decide +kernel
def Ae(M:Mc):T:=Be M
theorem E8{M:Mc}(h:McOk M):(Ae M).sh=true:=h.sh
theorem Mv{f g:AH}{τ:AL}{r:Option Out}(h:f τ=some (.nx τ))(h2:g τ=r):AF f g τ=r:=sq h h2
theorem sr{f g:AH}{τ:AL}{t:T}(h:f τ=some (.rt t)):AF f g τ=some (.rt t):=by
 unfold AF;rw[h]
theorem E9(M:Mc):BF Af Ag (Ae M)=some [.lst (M.ws.map T.str),.obj (.sdc (M.rs.map (·.1))) (M.rs.map λr=>.lst r.2),.lst (M.ds.map BJ)]:=(show BF Af Ag (Be M)=(if Af=Af/\Ag=Ag then some [.lst (M.ws.map T.str),.obj (.sdc (M.rs.map (·.1))) (M.rs.map λr=>.lst r.2),.lst (M.ds.map BJ)] else none) from rfl).trans (if_pos ⟨rfl,rfl⟩)
abbrev Tg:Stmt:=BW 41 1
def O0:AH :=
 (AM (Bt (m1 CI (Al Af Ag 0 (AA 0))) (Fk (Al Af Ag 0 (AA 0)))))
def Hz:List T->Option Ru:=AX 1 1 O0
abbrev Pe:Fn:=⟨1,["self"],Hz⟩
abbrev zaj:Gx:={ Bc with cl:=[("Machine",Af,Ag)] }
abbrev zao:Gm:=gA ["self"] Tg 0 [] ["list"] (ox:=zaj)
theorem zat:Ck zao Pe Tg O0:={}
theorem Na{M:Mc}(h:McOk M):Hz [Be M]=some (.ok (.own (M.ws.map T.str))):=by
 unfold Hz O0
 simp![Ao,Ah,h.ss,h.sd,AJ _ h.ss,AJ _ h.sd]
abbrev Tj:Stmt:=BW 41 2
def Wq:AH :=
 (AM (Bt (m1 CI (Bt (Al Af Ag 1 (AA 0)) (Al A8 Aa 2 (AA 0)))) (Fk (Bt (Al Af Ag 1 (AA 0)) (Al A8 Aa 2 (AA 0))))))
def De:List T->Option Ru:=AX 1 1 Wq
abbrev Hg:Fn:=⟨1,["self"],De⟩
abbrev zaw:Gx:={ Bc with cl:=[("Machine",Af,Ag),("Sheet",A8,Aa)] }
abbrev zb1:Gm:=gA ["self"] Tj 0 [] ["list"] (ox:=zaw)
theorem zb6:Ck zb1 Hg Tj Wq:={}
theorem GZ{M:Mc}(h:McOk M):De [Be M]=some (.ok (.own ((M.rs.map (·.1)).map T.str))):=by
 rfl
abbrev To:Stmt:=BW 41 3
def O6:AH :=
 (AM (Bt (m1 CI (Al Af Ag 2 (AA 0))) (Fk (Al Af Ag 2 (AA 0)))))
def Jh:List T->Option Ru:=AX 1 1 O6
abbrev Y6:Fn:=⟨1,["self"],Jh⟩
abbrev zax:Gx:={ Bc with cl:=[("Machine",Af,Ag)] }
abbrev zb2:Gm:=gA ["self"] To 0 [] ["list"] (ox:=zax)
theorem zb7:Ck zb2 Y6 To O6:={}
theorem zke{M:Mc}(h:McOk M):Jh [Be M]=some (.ok (.own (M.ds.map BJ))):=by
 unfold Jh O6
 simp![Ao,Ah,h.ss,h.sd,AJ _ h.ss,AJ _ h.sd]
abbrev Ti:Stmt:=BW 41 4
def O4:AH :=
 (AM (m1 CI (DL (Bt (Al Af Ag 1 (AA 0)) (Al A8 Aa 2 (AA 0))) (AA 1))))
def Jg:List T->Option Ru:=AX 2 2 O4
abbrev Y5:Fn:=⟨1,["self","room"],Jg⟩
abbrev zbb:Gx:={ Bc with cl:=[("Machine",Af,Ag),("Sheet",A8,Aa)] }
abbrev zbf:Gm:=gA ["self","room"] Ti 0 [] ["list"] (ox:=zbb)
theorem zbk:Ck zbf Y5 Ti O4:={}
theorem zhl{ws:List Str}(hd:ws.Nodup){i:Nat}(hi:i<ws.length):CK ws ws[i]=some i:=by
 unfold CK;rw[yav];refine⟨hi,@decide_eq_true _ (Classical.propDecidable _) rfl,λj hj q=>?_⟩
 have:=@of_decide_eq_true _ (Classical.propDecidable _) q;have:=(ybc hd).mp this
 omega
theorem zka{M:Mc}(h:McOk M){i:Nat}(hi:i<M.rs.length):Jg [Be M,.str M.rs[i].1]=some (.ok (.own M.rs[i].2)):=by
 have e:=zhl h.r.nd (i:=i) (by simp_all)
 rw[yca]at e;have e2:(M.rs.map λr=>T.lst r.2)[i]?=some (.lst M.rs[i].2):=by simp_all
 have k:=(h.r.lk _ (yb5 hi)).1.sh;unfold Jg O4
 simp![DL,Ao,Ah,h.ss,h.sd,AJ _ h.ss,AJ _ h.sd,e,e2,k,AJ _ k]
abbrev Tz:Stmt:=BW 40 1
def Oe:AH :=
 (AM (Bt (m1 CI (Al BL BS 2 (AA 0))) (Fk (Al BL BS 2 (AA 0)))))
def Jk:List T->Option Ru:=AX 1 1 Oe
abbrev Yg:Fn:=⟨1,["self"],Jk⟩
abbrev zco:Gx:={ Bc with cl:=[("Door",BL,BS)] }
abbrev zcy:Gm:=gA ["self"] Tz 0 [] ["list"] (ox:=zco)
theorem zd9:Ck zcy Yg Tz Oe:={}
theorem zkz{d:Dr}(h:AS d.g=true):Jk [BJ d]=some (.ok (.own d.g)):=by
 unfold Jk Oe
 simp![Ao,Ah,h,AJ _ h]
abbrev Tv:Stmt:=BW 40 2
def Oc:AH :=
 (AM (Bt (m1 CI (Al BL BS 3 (AA 0))) (Fk (Al BL BS 3 (AA 0)))))
def MN:List T->Option Ru:=AX 1 1 Oc
abbrev Yd:Fn:=⟨1,["self"],MN⟩
abbrev zcm:Gx:={ Bc with cl:=[("Door",BL,BS)] }
abbrev zcw:Gm:=gA ["self"] Tv 0 [] ["list"] (ox:=zcm)
theorem zd7:Ck zcw Yd Tv Oc:={}
theorem zkx{d:Dr}(h:AS d.g=true):MN [BJ d]=some (.ok (.own (d.n.map T.str))):=by
 unfold MN Oc
 simp![Ao,Ah,h,AJ _ h]
abbrev Th:Stmt:=BW 41 5
def O3:AH :=
 (AM (m2 B7 (Iz (Al Af Ag 0 (AA 0)) (AA 1)) (mC (.int 1))))
def IA:List T->Option Ru:=AX 2 2 O3
abbrev Pf:Fn:=⟨1,["self","name"],IA⟩
abbrev za0:Gx:={ Bc with cl:=[("Machine",Af,Ag)] }
abbrev za1:Gm:=gA ["self","name"] Th 0 [] [] (ox:=za0)
theorem za2:Ck za1 Pf Th O3:={}
theorem Wh{M:Mc}(h:McOk M){x:Str}{j:Nat}(e:CK M.ws x=some j):IA [Be M,.str x]=some (.ok (.int ((j:Int)+1))):=by
 have l1:M.ws.length<1000000:=by have:=h.wl;omega
 unfold IA O3
 simp![Ao,Ah,Mr,h.ss,h.sd,AJ _ h.ss,AJ _ h.sd,e,l1]
abbrev S9:Stmt:=AI 47
def QC:AG :=
 (BP (AB (Bf Af Ag IA (AA 3) (AB (AA 0) AD)) (AB (AA 1) (AB (AA 2) AD))))
def Ks:AH :=
 (AF (Ac (Bf Af Ag Hz (AA 0) AD) (AE 2))
 (AF (A5 (Ax (AN EW (AB (AA 1) (AB (AA 2) (AB (mC C4) AD))))) (By "NoMark" (AB (mC (.str "a guard is a list of looks at the machine's watches")) AD)) A4)
 (AM (BA 3 [0] (Ay (AA 1)) (BE 3 (AQ (AE 0) (AQ (AE 1) (AQ (AE 2) BG)))) (mC (.bl true)) QC))))
def Ek:List T->Option Ru:=AX 2 3 Ks
abbrev LV:Fn:=⟨5,["machine","guard"],Ek⟩
abbrev zfn:Gx:={ Bc with co:=[("WORDS",C4)],mt:=[("watches",Af,Ag,Pe),("watch_number",Af,Ag,Pf)] }
abbrev zfr:Gm:=gA ["machine","guard","watches"] S9 4 [("is_guard",LX)] [] [] ["machine"] (ex:=["NoMark"]) (ox:=zfn)
theorem zg1:Ck zfr LV S9 Ks:={}
def JC:T->Str
 |.nd _ _ (.str x::_)=>x
 |_=>Str.empty
def JB:T->Str
 |.nd _ _ (_::.str y::_)=>y
 |_=>Str.empty
def JD:T->Int
 |.nd _ _ (_::_::.int n::_)=>n
 |_=>0
theorem lk_is{ws wd:List Str}{t:T}(h:∃x y n,t=.tup [.str x,.str y,.int n]/\x∈ws/\y∈wd/\0<=n):t=.tup [.str (JC t),.str (JB t),.int (JD t)]/\JC t∈ws/\JB t∈wd/\0<=JD t:=by
 obtain⟨x,y,n,rfl,h1,h2,h3⟩:=h;exact⟨rfl,h1,h2,h3⟩
def E4(ws:List Str)(t:T):T:=.tup [.int (((CK ws (JC t)).getD 0:Int)+1),.str (JB t),.int (JD t)]
theorem JN{ws:List Str}{x:Str}(h:x∈ws):∃j,CK ws x=some j/\∃hj:j<ws.length,ws[j]=x:=by
 unfold CK;cases e:List.findIdx? (λy=>@decide (y=x) (Classical.propDecidable _)) ws with
 |none =>
  have:=List.findIdx?_eq_none_iff.mp e x h;simp at this
 |some j =>
  obtain⟨h1,h2,_⟩:=yav.mp e;exact⟨j,rfl,h1,@of_decide_eq_true _ (Classical.propDecidable _) h2⟩
theorem Ed{α:Type}{b:T->AL->Option AL}{me:AG}(f g:α->T)(I:AL->Prop):∀(L:List α) (τ:AL),I τ->(∀x∈L,∀τ,I τ->∃τ1,b (f x) τ=some τ1/\me τ1=some (.v (g x) false)/\I τ1)->BZ b (mC (.bl true)) me (L.map f) τ=some (L.map g)
 |[],_,_,_=>rfl
 |x::L,τ,h,hs=>by
  obtain⟨τ1,e1,e2,h1⟩:=hs x (ya7 ..) τ h;have k:=Ed f g I L τ1 h1 λu hu=>hs u (ya4 _ hu)
  have f1:mC (.bl true) τ1=some (.v (.bl true) false):=rfl;rw[yaq,yaq];unfold BZ
  omega
theorem NQ{M:Mc}(h:McOk M){l:List T}{wd:List Str}(hl:Dh M.ws wd l)(hw:∀y∈wd,y∈CT)(hn:l.length<=1000):Ek [Be M,.lst l]=some (.ok (.own (l.map (E4 M.ws)))):=by
 have hl':Dh M.ws CT l:=λt ht=>by
  obtain⟨x,y,n,e,h1,h2,h3⟩:=hl t ht;exact⟨x,y,n,e,h1,hw y h2,h3⟩
 have hg:=PH h.tw Gw hn hl';have hs:=hl.sh;have es:=AJ _ hs
 have lc:=Ed (b:=BE 3 (AQ (AE 0) (AQ (AE 1) (AQ (AE 2) BG)))) (me:=QC) (λt:T=>t) (E4 M.ws) (λτ=>∃x y z,τ=[x,y,z,some (Be M)]) l [none,none,none,some (Be M)] ⟨none,none,none,rfl⟩ λt ht τ hI=>by
  obtain⟨x,y,z,rfl⟩:=hI;obtain⟨k1,k2,k3,k4⟩:=lk_is (hl' t ht);obtain⟨j,ej,_⟩:=JN k2;have en:=Wh h ej;refine⟨[some (.str (JC t)),some (.str (JB t)),some (.int (JD t)),some (Be M)],by rw[k1];simp![JC,JB,JD],?_,_,_,_,rfl⟩
  unfold QC E4;rw[ej]
  simp![Ao,Ah,h.ss,h.sd,AJ _ h.ss,AJ _ h.sd,en,ydn]
 rw[List.map_id']at lc;have mw:=Na h;have l1:l.length<=100000:=by omega
 unfold Ek Ks
 simp![LD,Ao,Ah,h.ss,h.sd,AJ _ h.ss,AJ _ h.sd,mw,hs,es,hg,l1,lc]
theorem zdd{M:Mc}(h:McOk M){t:T}(ht:t.sh=true)(hg:EW [t,.lst (M.ws.map T.str),C4]=some (.ok (.bl false))):Ek [Be M,t]=some (.exc "NoMark"):=by
 have mw:=Na h;rw[LD]at hg;unfold Ek Ks
 simp![LD,Ao,Ah,h.ss,h.sd,AJ _ h.ss,AJ _ h.sd,mw,hg,ht,AO _ ht]
abbrev S7:Stmt:=AI 66
def Iu:AH :=
 (AF (A5 (BU (Ax (m1 (Bv "tuple") (AA 2))) (m2 Cp (m1 Bu (AA 2)) (mC (.int 2)))) (By "NoMark" (AB (mC (.str "a mark is a tuple of a room and a guard")) AD)) A4)
 (AF (A5 (m2 E7 (Aj (AA 2) (mC (.int 0))) (AA 1)) (By "NoMark" (AB (mC (.str "a mark is in a room of the machine")) AD)) A4)
 (AM (BP (AB (Aj (AA 2) (mC (.int 0))) (AB (AN Ek (AB (AA 0) (AB (Aj (AA 2) (mC (.int 1))) AD))) AD))))))
def Ei:List T->Option Ru:=AX 3 3 Iu
abbrev Xx:Fn:=⟨6,["machine","rooms","mark"],Ei⟩
abbrev zbp:Gm:=gA ["machine","rooms","mark"] S7 5 [("placed",LV)] ["isinstance","tuple","len"] (ex:=["NoMark"])
theorem zbv:Ck zbp Xx S7 Iu:={}
def Jq(ws rn:List Str)(gl:List (Str×List T)):Prop:=∀g∈gl,g.1∈rn/\Dh ws CT g.2/\g.2.length<=2
theorem Jq.sh{ws rn:List Str}{gl:List (Str×List T)}(h:Jq ws rn gl):AS (gl.map AV)=true:=by
 rw[Bn,yai];intro t ht;obtain⟨g,hg,rfl⟩:=yag.mp ht;have:=(h g hg).2.1.sh
 simp![this]
theorem N4{ys:List Str}{x:Str}{o:Bool}{k:Kd}(h:B0 ys)(hx:PyData.strOk x=true):E7 (.str x) (.nd o k (ys.map T.str))=some (.bl (!decide (x∈ys))):=by
 have e:=Fp (o:=o) (k:=k) h hx;unfold C6 at e;unfold E7;simp only at e ⊢;split at e
 .rename_i hk;rw[if_pos hk];simp only[ydi,T.bl.injEq]at e ⊢;rw[e]
 .cases e
theorem Uk{M:Mc}(h:McOk M){g:Str×List T}(hg:g.1∈M.rs.map (·.1)/\Dh M.ws CT g.2/\g.2.length<=2):Ei [Be M,.lst ((M.rs.map (·.1)).map T.str),AV g]=some (.ok (.tup [.str g.1,.lst (g.2.map (E4 M.ws))])):=by
 obtain⟨g1,g2,g3⟩:=hg;have e1:=N4 (o:=false) (k:=.lst) h.tn (h.tn _ g1);rw[ye6 g1]at e1;have e2:=NQ h g2 (λy hy=>hy) (by omega)
 have hs:=g2.sh
 have ps:AS (g.2.map (E4 M.ws))=true:=by
  rw[Bn,yai];intro t ht;obtain⟨u,_,rfl⟩:=yag.mp ht
  rfl
 unfold Ei Iu
 simp![Dq,Ao,Ah,h.ss,h.sd,AJ _ h.ss,AJ _ h.sd,e1,e2,hs,AJ _ hs,ps,AJ _ ps]
theorem zjj{M:Mc}(h:McOk M){x:Str}(hx:PyData.strOk x=true)(hn:x∉M.rs.map (·.1)){l:List T}(hl:AS l=true):Ei [Be M,.lst ((M.rs.map (·.1)).map T.str),.tup [.str x,.lst l]]=some (.exc "NoMark"):=by
 have e1:=N4 (o:=false) (k:=.lst) h.tn hx;rw[ydp hn]at e1;unfold Ei Iu
 simp![Dq,Ao,Ah,h.ss,h.sd,AJ _ h.ss,AJ _ h.sd,e1,hl,AJ _ hl]
theorem zgz{M:Mc}(h:McOk M){x:Str}(hn:x∈M.rs.map (·.1)){t:T}(ht:t.sh=true)(hg:EW [t,.lst (M.ws.map T.str),C4]=some (.ok (.bl false))):Ei [Be M,.lst ((M.rs.map (·.1)).map T.str),.tup [.str x,t]]=some (.exc "NoMark"):=by
 have e1:=N4 (o:=false) (k:=.lst) h.tn (h.tn _ hn);rw[ye6 hn]at e1;have e2:=zdd h ht hg;unfold Ei Iu
 simp![Dq,Ao,Ah,h.ss,h.sd,AJ _ h.ss,AJ _ h.sd,e1,e2,ht,AO _ ht]
abbrev S8:Stmt:=AI 65
def Hj:AG :=
 (AN Ei (AB (AA 1) (AB (AA 2) (AB (AA 0) AD))))
def Kr:AH :=
 (AF (A5 (Ax (m1 (Bv "list") (AA 1))) (By "NoMark" (AB (mC (.str "a goal is a list of marks")) AD)) A4)
 (AF (Ac (Bf Af Ag De (AA 0) AD) (AE 2))
 (AM (BA 1 [0,2] (Ay (AA 1)) (AE 0) (mC (.bl true)) Hj))))
def Ej:List T->Option Ru:=AX 2 3 Kr
abbrev Xy:Fn:=⟨7,["machine","goal"],Ej⟩
abbrev zbm:Gx:={ Bc with mt:=[("rooms",Af,Ag,Hg)] }
abbrev zbq:Gm:=gA ["machine","goal","rooms"] S8 6 [("placed_mark",Xx)] ["isinstance","list"] [] ["machine","rooms"] (ex:=["NoMark"]) (ox:=zbm)
theorem zbw:Ck zbq Xy S8 Kr:={}
theorem XF{b:T->AL->Option AL}{me:AG}{c:Str}{t:T}{l2:List T}(I:AL->Prop)(ht:∀τ,I τ->∃τ1,b t τ=some τ1/\me τ1=some (.x c)):∀(l1:List T) (τ:AL),I τ->(∀u∈l1,∀τ,I τ->∃τ1 v,b u τ=some τ1/\me τ1=some (.v v false)/\I τ1) ->
  BZ b (mC (.bl true)) me (l1++t::l2) τ=none/\Dt b (mC (.bl true)) me (l1++t::l2) τ=some c
 |[],τ,h,_=>by
  obtain⟨τ1,e1,e2⟩:=ht τ h;rw[List.nil_append];unfold BZ Dt;simp only[e1,mC,e2,and_self]
 |u::l1,τ,h,hs=>by
  obtain⟨τ1,v,e1,e2,h1⟩:=hs u (ya7 ..) τ h;obtain⟨k1,k2⟩:=XF (l2:=l2) I ht l1 τ1 h1 λu hu=>hs u (ya4 _ hu)
  have f1:mC (.bl true) τ1=some (.v (.bl true) false):=rfl;rw[ydk];unfold BZ Dt;simp only[e1,f1,e2,k1,k2,and_self]
theorem pg_ok{M:Mc}(h:McOk M){gl:List (Str×List T)}(hg:Jq M.ws (M.rs.map (·.1)) gl)(hn:gl.length<=1000):Ej [Be M,.lst (gl.map AV)]=some (.ok (.own (gl.map λg=>.tup [.str g.1,.lst (g.2.map (E4 M.ws))]))):=by
 have gs:=hg.sh
 have lc:=Ed (b:=AE 0) (me:=Hj) AV (λg=>.tup [.str g.1,.lst (g.2.map (E4 M.ws))]) (λτ=>∃x,τ=[x,some (Be M),some (.lst ((M.rs.map (·.1)).map T.str))]) gl [none,some (Be M),some (.lst ((M.rs.map (·.1)).map T.str))] ⟨none,rfl⟩ λg hm τ hI=>by
  obtain⟨x,rfl⟩:=hI;have k:=hg g hm;have e:=Uk h k;have ks:=k.2.1.sh;refine⟨[some (AV g),some (Be M),some (.lst ((M.rs.map (·.1)).map T.str))],by simp![],?_,_,rfl⟩
  unfold Hj
  simp![Ao,Ah,h.ss,h.sd,AJ _ h.ss,AJ _ h.sd,e,ks,AJ _ ks]
 have mr:=GZ h;have l1:gl.length<=100000:=by omega
 unfold Ej Kr
 simp![Ao,Ah,h.ss,h.sd,AJ _ h.ss,AJ _ h.sd,mr,gs,AJ _ gs,ya1,l1,lc]
theorem pg_no{M:Mc}(h:McOk M){g1:List (Str×List T)}(hg:Jq M.ws (M.rs.map (·.1)) g1){t:T}(ht:t.sh=true)(hb:Ei [Be M,.lst ((M.rs.map (·.1)).map T.str),t]=some (.exc "NoMark")){l2:List T}(h2:AS l2=true)(hn:(g1.map AV++t::l2).length<=1000):Ej [Be M,.lst (g1.map AV++t::l2)]=some (.exc "NoMark"):=by
 have s1:=hg.sh
 have gs:AS (g1.map AV++t::l2)=true:=by
  rw[Bn]at s1 h2 ⊢;rw[yce,s1,ybw,ht,h2]
  rfl
 obtain⟨k1,k2⟩:=XF (b:=AE 0) (me:=Hj) (c:="NoMark") (t:=t) (l2:=l2) (λτ=>∃x,τ=[x,some (Be M),some (.lst ((M.rs.map (·.1)).map T.str))]) (λτ hI=>by
  obtain⟨x,rfl⟩:=hI;refine⟨[some t,some (Be M),some (.lst ((M.rs.map (·.1)).map T.str))],by simp![],?_⟩
  unfold Hj
  simp![Ao,Ah,h.ss,h.sd,AJ _ h.ss,AJ _ h.sd,hb,ht,AO _ ht]) (g1.map AV) [none,some (Be M),some (.lst ((M.rs.map (·.1)).map T.str))] ⟨none,rfl⟩ λu hu τ hI=>by
  obtain⟨x,rfl⟩:=hI;obtain⟨g,hm,rfl⟩:=yag.mp hu;have k:=hg g hm;have e:=Uk h k;have ks:=k.2.1.sh;refine⟨[some (AV g),some (Be M),some (.lst ((M.rs.map (·.1)).map T.str))],.tup [.str g.1,.lst (g.2.map (E4 M.ws))],by simp![],?_,_,rfl⟩
  unfold Hj
  simp![Ao,Ah,h.ss,h.sd,AJ _ h.ss,AJ _ h.sd,e,ks,AJ _ ks]
 have mr:=GZ h;have l1:(g1.map AV++t::l2).length<=100000:=by omega
 generalize g1.map AV++t::l2=G at *;unfold Ej Kr
 simp![Ao,Ah,h.ss,h.sd,AJ _ h.ss,AJ _ h.sd,mr,gs,AJ _ gs,l1,k1,k2]
abbrev T4:Stmt:=AI 15
def OP:AH :=
 (AM (m2 B7 (m2 CD (mC (.int 2)) (AA 0)) (mC (.int 1))))
def Em:List T->Option Ru:=AX 1 1 OP
abbrev Hf:Fn:=⟨1,["number"],Em⟩
abbrev zej:Gm:=gA ["number"] T4 0 [] []
theorem zet:Ck zej Hf T4 OP:={}
theorem Qc(i:Int):Em [.int i]=some (.ok (.int (2 * i+1))):=by
 have m:CF 2 i=true:=HS (FZ (by decide) (by decide))
 unfold Em OP
 simp![m]
theorem J1:Em [.int 0]=some (.ok (.int 1)):=Qc 0
abbrev T3:Stmt:=AI 16
def OO:AH :=
 (AM (m2 CD (mC (.int 2)) (AA 0)))
def Hw:List T->Option Ru:=AX 1 1 OO
abbrev Pb:Fn:=⟨1,["number"],Hw⟩
abbrev zhr:Gm:=gA ["number"] T3 0 [] []
theorem zi5:Ck zhr Pb T3 OO:={}
theorem Z3(i:Int):Hw [.int i]=some (.ok (.int (2 * i))):=by
 have m:CF 2 i=true:=HS (FZ (by decide) (by decide))
 unfold Hw OO
 simp![m]
abbrev Sb:Stmt:=AI 17
def Nk:AH :=
 (AM (m2 B9 (AA 0) (mC (.int 2))))
def Ho:List T->Option Ru:=AX 1 1 Nk
abbrev PY:Fn:=⟨1,["bound"],Ho⟩
abbrev zcq:Gm:=gA ["bound"] Sb 0 [] []
theorem zd1:Ck zcq PY Sb Nk:={}
theorem N1(i:Int):Ho [.int i]=some (.ok (.int (i / 2))):=by
 have m:Bh 2=true:=CB (by decide) (by decide)
 have f:i.fdiv 2=i / 2:=fd (by decide)
 unfold Ho Nk
 simp![m,f]
abbrev Sz:Stmt:=AI 18
def Nz:AH :=
 (AM (m2 Az (m2 Bs (AA 0) (mC (.int 2))) (mC (.int 0))))
def Ht:List T->Option Ru:=AX 1 1 Nz
abbrev P6:Fn:=⟨1,["bound"],Ht⟩
abbrev zeg:Gm:=gA ["bound"] Sz 0 [] []
theorem zeq:Ck zeg P6 Sz Nz:={}
theorem PB(i:Int):Ht [.int i]=some (.ok (.bl (i % 2 == 0))):=by
 have f:i.fmod 2=i % 2:=fm (by decide)
 unfold Ht Nz
 simp![f,ES]
abbrev T7:Stmt:=AI 19
def OT:AH :=
 (AF (A5 (BU (m2 (BQ false) (AA 0) (mC .non)) (m2 (BQ false) (AA 1) (mC .non))) (AM (mC .non)) A4)
 (AF (Ac (m2 B7 (AN Ho (AB (AA 0) AD)) (AN Ho (AB (AA 1) AD))) (AE 2))
 (AF (A5 (BU (AN Ht (AB (AA 0) AD)) (AN Ht (AB (AA 1) AD))) (AM (AN Hw (AB (AA 2) AD))) A4)
 (AM (AN Em (AB (AA 2) AD))))))
def Hy:List T->Option Ru:=AX 2 3 OT
abbrev YZ:Fn:=⟨2,["one","other"],Hy⟩
abbrev zhs:Gm:=gA ["one","other","number"] T7 1 [("number_of",PY),("is_open",P6),("below",Pb),("at_most",Hf)] []
theorem zi6:Ck zhs YZ T7 OT:={}
theorem Zc(a b:Db.B):Hy [bT a,bT b]=some (.ok (bT (Db.add a b))):=by
 unfold Hy OT;cases a with
 |none=>simp![Db.add]
 |some a =>
  cases b with
  |none=>simp![Db.add]
  |some b =>
   have e1:a % 2=0\/a % 2=1:=by omega
   have e2:b % 2=0\/b % 2=1:=by omega
   have d:((1:Int) == 0)=false:=rfl;have m1:min (0:Int) 0=0:=rfl;have m2:min (0:Int) 1=0:=rfl;have m3:min (1:Int) 0=0:=rfl;have m4:min (1:Int) 1=1:=rfl
   rcases e1 with e1|e1<;>rcases e2 with e2|e2<;>simp![N1,PB,e1,e2,d,Z3,Qc,Db.add,Db.bs,m1,m2,m3,m4,Int.add_zero]
abbrev Sh:Stmt:=AI 20
def Nn:AH :=
 (AF (A5 (m2 (BQ false) (AA 0) (mC .non)) (AM (AA 1)) A4)
 (AF (A5 (m2 (BQ false) (AA 1) (mC .non)) (AM (AA 0)) A4)
 (AM (m2 Ir (AA 0) (AA 1)))))
def Lr:List T->Option Ru:=AX 2 2 Nn
abbrev YD:Fn:=⟨1,["one","other"],Lr⟩
abbrev zdl:Gm:=gA ["one","other"] Sh 0 [] ["min"]
theorem zdx:Ck zdl YD Sh Nn:={}
theorem nr_ok(a b:Db.B):Lr [bT a,bT b]=some (.ok (bT (Db.mn a b))):=by
 unfold Lr Nn;cases a with
 |none=>simp![Db.mn]
 |some a =>
  cases b with
  |none=>simp![Db.mn]
  |some b =>
   simp![Db.mn]
   by_cases h:b<a
   .simp[h,As];omega
   .simp[h,As];omega
abbrev TN:Stmt:=AI 50
def OF:AH :=
 (AF (A5 (BU (m2 Az (AA 0) (mC (.int 0))) (m2 Az (AA 0) (AA 1))) (AM (AN Em (AB (mC (.int 0)) AD))) A4)
 (AM (mC .non)))
def Jd:List T->Option Ru:=AX 2 2 OF
abbrev P9:Fn:=⟨2,["i","j"],Jd⟩
abbrev zc4:Gm:=gA ["i","j"] TN 1 [("at_most",Hf)] []
theorem zcb:Ck zc4 P9 TN OF:={}
theorem Yp(i j:Nat):Jd [.int i,.int j]=some (.ok (bT (Db.free i j))):=by
 unfold Jd OF
 by_cases h0:i=0
 .subst h0
  simp![ES,J1,Db.free]
 .by_cases h:i=j
  .subst h;have e1:((i:Int) == 0)=false:=by simp;omega
   simp![ES,e1,J1,Db.free]
  .have e1:((i:Int) == 0)=false:=by simp;omega
   have e2:((i:Int) == (j:Int))=false:=by simp;omega
   simp![ES,e1,e2,Db.free,h0,h]
abbrev SW:Stmt:=AI 54
def MX:AH :=
 (A5 (m2 (BQ false) (AA 5) (mC .non)) (ED 3 (AA 4)) (AF (Ac (m2 Er (m2 B7 (AA 1) (AA 5)) (m2 J0 (m2 JX (AA 1) (AA 5)) (mC (.int 1)))) (AE 6))
 (ED 3 (DK (BU (m2 (BQ false) (AA 4) (mC .non)) (m2 (Ca λi j=>decide (i<j)) (AA 6) (AA 4))) (AA 6) (AA 4)))))
def Ng:AH :=
 (AF (DP 3 (BX AD))
 (AF (Bo (FI (AB (AA 0) (AB (AA 2) AD))) (BE 2 (AQ (AE 4) (AQ (AE 5) BG))) MX)
 (AM (AA 3))))
def J5:List T->Option Ru:=AX 3 7 Ng
abbrev PV:Fn:=⟨1,["row","first","rest"],J5⟩
abbrev zdi:Gm:=gA ["row","first","rest","told","old","more","bound"] SW 0 [] ["zip"] ["told"]
theorem zdu:Ck zdi PV SW Ng:={}
theorem UE{n:Nat}(hn:n<=100000)(r s:Nat->Db.B)(c:Int):J5 [rT n r,.int c,rT n s]=some (.ok (.own (mT n λj=>bT (Db.mn (r j) (Db.add (some c) (s j)))))):=by
 have loop:=Xo (b:=BE 2 (AQ (AE 4) (AQ (AE 5) BG))) (body:=MX) (n:=n) (g:=λi=>.tup [bT (r i),bT (s i)]) (τ:=[some (rT n r),some (.int c),some (rT n s),some (.own []),none,none,none])
  (λi τ=>∃x y z,τ=[some (rT n r),some (.int c),some (rT n s),some (.own (mT i λj=>bT (Db.mn (r j) (Db.add (some c) (s j))))),x,y,z])
  ⟨none,none,none,rfl⟩ (by
   rintro i τ hi ⟨x,y,z,rfl⟩;have l1:i<100000:=by omega
   refine⟨_,by simp![];rfl,?_⟩
   unfold MX;cases hs:s i with
   |none =>
    refine⟨_,by simp![l1];rfl,some (bT (r i)),some .non,z,?_⟩
    rw[<- LA,hs];cases r i<;>rfl
   |some m =>
    have e1:c+m - Builtin.bitAnd (Builtin.bitOr c m) 1=Db.bs c m:=by rw[Db.bor_one,Db.bs_eq]
    cases hr:r i with
    |none =>
     refine⟨_,by simp![e1,l1];rfl,some .non,some (.int m),some (.int (Db.bs c m)),?_⟩
     rw[<- LA,hs,hr]
     rfl
    |some o =>
     by_cases h:Db.bs c m<o
     .refine⟨_,by simp![e1,h,l1];rfl,some (.int o),some (.int m),some (.int (Db.bs c m)),?_⟩
      rw[<- LA,hs,hr];rw[show Db.mn (some o) (Db.add (some c) (some m))=some (Db.bs c m) by show some (min _ _)=_;rw[show min o (Db.bs c m)=Db.bs c m by omega]]
      rfl
     .refine⟨_,by simp![e1,h,l1];rfl,some (.int o),some (.int m),some (.int (Db.bs c m)),?_⟩
      rw[<- LA,hs,hr];rw[show Db.mn (some o) (Db.add (some c) (some m))=some o by show some (min _ _)=_;rw[show min o (Db.bs c m)=o by omega]]
      rfl)
 obtain⟨τ',e1,x,y,z,rfl⟩:=loop;unfold J5 Ng
 simp![IJ,e1]
abbrev TJ:Stmt:=AI 53
def QT:AG :=
 (m2 (Ca λi j=>decide (i<j)) (Aj (AA 1) (AA 0)) (AN Em (AB (mC (.int 0)) AD)))
def OC:AH :=
 (AM (m1 Hl (BA 2 [] (CM (AB (AA 0) AD)) (BE 2 (AQ (AE 0) (AQ (AE 1) BG))) (mC (.bl true)) QT)))
def Lw:List T->Option Ru:=AX 1 1 OC
abbrev YO:Fn:=⟨2,["rows"],Lw⟩
abbrev zct:Gm:=gA ["rows"] TJ 1 [("at_most",Hf)] ["any","enumerate"]
theorem zd4:Ck zct YO TJ OC:={}
theorem zoy{n:Nat}{f:Db.Z}(hn:n<=100000){d:Nat->Int}(hd:∀i,i<n->f i i=some (d i)):Lw [zT n f]=some (.ok (.bl ((List.range n).any λi=>decide (d i<1)))):=by
 have lc:=HY (n:=n) (me:=QT) (x:=none) (y:=none) (cs:=[]) (u:=λi=>.int (i:Int)) (w:=λi=>rT n (f i)) (f:=λi=>.bl (decide (d i<1))) λi hi=>by
  unfold QT
  simp![NP,K4,DJ hi,hd i hi,J1]
 unfold Lw OC;have c:n<=100000:=by omega
 simp![zgh,DC,K4,NP,CM,Gd,lc,c,Gh,List.any_map,Function.comp_def,id_eq]
abbrev Sg:Stmt:=AI 52
def QF:AG :=
 (AN Lr (AB (AA 1) (AB (AN Jd (AB (AA 2) (AB (AA 0) AD))) AD)))
def L9:AG :=
 (BA 2 [0] (CM (AB (AA 1) AD)) (BE 2 (AQ (AE 0) (AQ (AE 1) BG))) (mC (.bl true)) QF)
def QE:AG :=
 (DK (m2 (BQ false) (Aj (AA 0) (AA 1)) (mC .non)) (AA 0) (AN J5 (AB (AA 0) (AB (Aj (AA 0) (AA 1)) (AB (AA 2) AD)))))
def IM:AH :=
 (AF (A5 (AN Lw (AB (AA 1) AD)) (AM (mC .non)) A4)
 (AF (Ac (Aj (AA 1) (AA 2)) (AE 3))
 (Ac (BA 1 [2,3] (Ay (AA 1)) (AE 0) (mC (.bl true)) QE) (AE 1))))
def Nm:AH :=
 (AF (Ac (BA 2 [] (CM (AB (AA 0) AD)) (BE 2 (AQ (AE 0) (AQ (AE 1) BG))) (mC (.bl true)) L9) (AE 1))
 (AF (Bo (DR (AB (m1 Bu (AA 1)) AD)) (AE 2) IM)
 (AM (AA 1))))
def FK:List T->Option Ru:=AX 1 4 Nm
abbrev YC:Fn:=⟨3,["zone"],FK⟩
abbrev zcr:Gm:=gA ["zone","rows","k","over"] Sg 2 [("narrower",YD),("free_bound",P9),("is_broken",YO),("row_over",PV)] ["enumerate","range","len"] [] ["k","over"]
theorem zd2:Ck zcr YC Sg Nm:={}
theorem UG{n:Nat}{f:Db.Z}{d:Nat->Int}(hd:∀i,i<n->f i i=some (d i)):((List.range n).any λi=>decide (d i<1))=true ↔ Db.Brk n f:=by
 rw[List.any_eq_true];constructor
 .rintro⟨i,hi,h⟩;have hi:=ybo.mp hi;refine⟨i,hi,?_⟩;rw[hd i hi];have:=yef h;simp only[Db.le]
  omega
 .rintro⟨i,hi,h⟩;refine⟨i,ybo.mpr hi,ye6 ?_⟩;rw[hd i hi]at h;simp only[Db.le]at h
  omega
theorem zfv(f:Db.Z)(k i:Nat):∃d,Db.fw f k i i=some d:=by
 have:=Db.diag_le f i k;cases h:Db.fw f k i i with
 |none=>rw[h]at this;exact this.elim
 |some d=>exact⟨d,rfl⟩
theorem znk{n:Nat}(hn:n<=100000)(f:Db.Z):(Db.Sound n f->FK [zT n f]=some (.ok (zT n (Db.fw f n))))/\(¬ Db.Sound n f->FK [zT n f]=some (.ok .non)):=by
 have l1:n<=100000:=by omega
 have in1:∀i,i<n->L9 [some (.int (i:Int)),some (rT n (f i))]=some (.v (.own (mT n λj=>bT (Db.z0 f i j))) false):=λi hi=>by
  have lc:=HY (n:=n) (me:=QF) (x:=none) (y:=none) (cs:=[some (.int (i:Int))]) (u:=λj=>.int (j:Int)) (w:=λj=>bT (f i j)) (f:=λj=>bT (Db.z0 f i j)) λj hj=>by
   unfold QF
   simp![Yp,nr_ok]
   rfl
  unfold L9
  simp![CM,Gd,lc,l1]
 have lc0:=HY (n:=n) (me:=L9) (x:=none) (y:=none) (cs:=[]) (u:=λi=>.int (i:Int)) (w:=λi=>rT n (f i)) (f:=λi=>.own (mT n λj=>bT (Db.z0 f i j))) in1
 have loop:=He (b:=AE 2) (body:=IM) (n:=n) (g:=λi=>.int (i:Int)) (τ:=[some (zT n f),some (zT n (Db.fw f 0)),none,none]) (λk=>¬ Db.Brk n (Db.fw f k)) .non
  (λk τ=>∃x y,τ=[some (zT n f),some (zT n (Db.fw f k)),x,y]) ⟨none,none,rfl⟩ (by
   rintro k τ hk - ⟨x,y,rfl⟩;refine⟨_,by simp![];rfl,?_⟩
   have hd:∀i,i<n->Db.fw f k i i=some ((Db.fw f k i i).getD 0):=λi _=>by
    obtain⟨d,e⟩:=zfv f k i;rw[e]
    rfl
   have b1:=zoy hn hd
   by_cases hb:Db.Brk n (Db.fw f k)
   .right;refine⟨λq=>q hb,?_⟩
    rw[(UG hd).mpr hb]at b1;unfold IM
    simp![b1]
   .left;refine⟨hb,?_⟩
    have b2:((List.range n).any λi=>decide ((Db.fw f k i i).getD 0<1))=false:=by
     cases q:((List.range n).any λi=>decide ((Db.fw f k i i).getD 0<1)) with
     |false=>rfl
     |true=>exact absurd ((UG hd).mp q) hb
    rw[b2]at b1;generalize hg:Db.fw f k=g at *
    have lc:=DM (n:=n) (me:=QE) (x:=none) (cs:=[some (.int (k:Int)),some (rT n (g k))]) (g:=λi=>rT n (g i)) (f:=λi=>match g i k with|none=>rT n (g i)|some c=>.own (mT n λj=>bT (Db.mn (g i j) (Db.add (some c) (g k j))))) λi hi=>by
     unfold QE;cases e:g i k with
     |none=>simp![DJ hk,e]
     |some c=>simp![DJ hk,e,UE hn]
    have e2:(mT n λi=>(match g i k with|none=>rT n (g i)|some c=>T.own (mT n λj=>bT (Db.mn (g i j) (Db.add (some c) (g k j))))).share)=mT n λi=>rT n (Db.stp g k i):=DI λi hi=>by
     cases e:g i k with
     |none =>
      simp only[K4];unfold rT;rw[DI λj hj=>?_]
      unfold Db.stp;rw[e];cases g i j<;>rfl
     |some c =>
      simp![]
      rw[DI λj hj=>?_]
      unfold Db.stp;rw[e]
    refine⟨[some (zT n f),some (zT n (Db.stp g k)),some (.int (k:Int)),some (rT n (g k))],.inl ?_,some (.int (k:Int)),some (rT n (g k)),?_⟩
    .unfold IM
     simp![b1,DJ hk,lc,l1]
     rw[e2]
    .rw[show Db.fw f (k+1)=Db.stp g k by rw[<- hg];rfl])
 have hr:Ce (n:Int)=true:=Ik hn
 have st:∀r,B5 (AE 2) IM (mT n λi=>.int (i:Int)) [some (zT n f),some (zT n (Db.fw f 0)),none,none]=r->FK [zT n f]=(match (match r with|some (.nx τ')=>AM (AA 1) τ'|r=>r) with
   |some (.rt t)=>some (Ru.ok t)
   |some (.nx _)=>some (.ok .non)
   |some (.xc c _)=>some (.exc c)
   |_=>none):=by
  rintro _ rfl;unfold FK Nm
  simp![CM,Gd,lc0,l1,hr,F9]
  rfl
 rcases loop with ⟨h1,τ',e,x,y,rfl⟩|⟨⟨i,hi,hb⟩,e⟩
 .refine⟨λ_=>?_,λh=>absurd (λk hk=>h1 k hk) h⟩
  rw[st _ e]
  simp![]
 .refine⟨λh=>absurd (h i hi) hb,λ_=>?_⟩
  rw[st _ e]
abbrev TR:Stmt:=AI 49
def QU:AG :=
 (AN Jd (AB (AA 1) (AB (AA 0) AD)))
def Lb:AG :=
 (BA 1 [0] (DR (AB (m2 B7 (AA 1) (mC (.int 1))) AD)) (AE 0) (mC (.bl true)) QU)
def OI:AH :=
 (AM (BA 1 [0] (DR (AB (m2 B7 (AA 0) (mC (.int 1))) AD)) (AE 0) (mC (.bl true)) Lb))
def Hv:List T->Option Ru:=AX 1 1 OI
abbrev YT:Fn:=⟨3,["many"],Hv⟩
abbrev zc5:Gm:=gA ["many"] TR 2 [("free_bound",P9)] ["range"] [] ["many"]
theorem zcc:Ck zc5 YT TR OI:={}
theorem ev_ok{m:Nat}(hm:m<=1000):Hv [.int m]=some (.ok (.own (mT (m+1) λi=>.own (mT (m+1) λj=>bT (Db.free i j))))):=by
 have l2:m+1<=100000:=by omega
 have o1:Ce ((m:Int)+1)=true:=Ik (n:=m+1) (by omega)
 have o2:((m:Int)+1).toNat=m+1:=by omega
 have in1:∀i,i<m+1->Lb [some (.int (i:Int)),some (.int (m:Int))]=some (.v (.own (mT (m+1) λj=>bT (Db.free i j))) false):=λi hi=>by
  have lc:=DM (n:=m+1) (me:=QU) (x:=none) (cs:=[some (.int (i:Int))]) (g:=λj=>.int (j:Int)) (f:=λj=>bT (Db.free i j)) λj hj=>by
   unfold QU
   simp![Yp]
  unfold Lb
  simp![o1,o2,F9,lc,l2]
 have lc0:=DM (n:=m+1) (me:=Lb) (x:=none) (cs:=[some (.int (m:Int))]) (g:=λj=>.int (j:Int)) (f:=λi=>.own (mT (m+1) λj=>bT (Db.free i j))) in1
 unfold Hv OI
 simp![o1,o2,F9,lc0,l2]
abbrev Ss:Stmt:=AI 56
def Nu:AH :=
 (AF (A5 (m2 (BQ false) (AA 1) (mC .non)) (AM (mC (.bl false))) A4)
 (AM (BU (m2 (BQ false) (AA 0) (mC .non)) (m2 (Ca λi j=>decide (j<i)) (AA 0) (AA 1)))))
def Hq:List T->Option Ru:=AX 2 2 Nu
abbrev P0:Fn:=⟨1,["bound","other"],Hq⟩
abbrev zdn:Gm:=gA ["bound","other"] Ss 0 [] []
theorem zdz:Ck zdn P0 Ss Nu:={}
theorem RI(a b:Db.B):(Db.le a b->Hq [bT a,bT b]=some (.ok (.bl false)))/\(¬ Db.le a b->Hq [bT a,bT b]=some (.ok (.bl true))):=by
 unfold Hq Nu;cases b with
 |none=>exact⟨λ_=>by simp![],λh=>absurd trivial h⟩
 |some b =>
  cases a with
  |none=>exact⟨λh=>h.elim,λ_=>by simp![]⟩
  |some a =>
   constructor
   .intro h;have h':decide (b<a)=false:=ydp (by simp only[Db.le]at h;omega)
    simp![h']
   .intro h;have h':decide (b<a)=true:=ye6 (by simp only[Db.le]at h;omega)
    simp![h']
abbrev SN:Stmt:=AI 55
def MV:AH :=
 (A5 (AN Hq (AB (AA 4) (AB (AA 5) AD))) (AM (mC (.bl false))) A4)
def Ju:AH :=
 (Bo (FI (AB (AA 2) (AB (AA 3) AD))) (BE 2 (AQ (AE 4) (AQ (AE 5) BG))) MV)
def Kq:AH :=
 (AF (Bo (FI (AB (AA 0) (AB (AA 1) AD))) (BE 2 (AQ (AE 2) (AQ (AE 3) BG))) Ju)
 (AM (mC (.bl true))))
def GA:List T->Option Ru:=AX 2 6 Kq
abbrev Xr:Fn:=⟨2,["one","other"],GA⟩
abbrev zfp:Gm:=gA ["one","other","row","other_row","bound","other_bound"] SN 1 [("is_wider",P0)] ["zip"]
theorem zfz:Ck zfp Xr SN Kq:={}
theorem wi_ok{n:Nat}(f g:Db.Z):((∀i j,i<n->j<n->Db.le (f i j) (g i j))->GA [zT n f,zT n g]=some (.ok (.bl true)))/\((¬ ∀i j,i<n->j<n->Db.le (f i j) (g i j))->GA [zT n f,zT n g]=some (.ok (.bl false))):=by
 have loop:=He (b:=BE 2 (AQ (AE 2) (AQ (AE 3) BG))) (body:=Ju) (n:=n) (g:=λi=>.tup [rT n (f i),rT n (g i)]) (τ:=[some (zT n f),some (zT n g),none,none,none,none]) (λi=>∀j,j<n->Db.le (f i j) (g i j)) (.bl false)
  (λi τ=>∃x y z w,τ=[some (zT n f),some (zT n g),x,y,z,w]) ⟨none,none,none,none,rfl⟩ (by
   rintro i τ hi - ⟨x,y,z,w,rfl⟩;refine⟨_,by simp![];rfl,?_⟩
   have loop2:=He (b:=BE 2 (AQ (AE 4) (AQ (AE 5) BG))) (body:=MV) (n:=n) (g:=λj=>.tup [bT (f i j),bT (g i j)]) (τ:=[some (zT n f),some (zT n g),some (rT n (f i)),some (rT n (g i)),z,w]) (λj=>Db.le (f i j) (g i j)) (.bl false)
    (λj τ=>∃z w,τ=[some (zT n f),some (zT n g),some (rT n (f i)),some (rT n (g i)),z,w]) ⟨z,w,rfl⟩ (by
     rintro j τ hj - ⟨z,w,rfl⟩;refine⟨_,by simp![];rfl,?_⟩
     have q:=RI (f i j) (g i j);unfold MV
     by_cases h:Db.le (f i j) (g i j)
     .left;have q:=q.1 h;exact⟨h,_,.inl (by simp![q];rfl),_,_,rfl⟩
     .right;have q:=q.2 h;exact⟨h,by simp![q]⟩)
   rcases loop2 with ⟨h,τ',e,z,w,rfl⟩|⟨⟨j,hj,h⟩,e⟩
   .left;refine⟨h,_,.inl ?_,some (rT n (f i)),some (rT n (g i)),z,w,rfl⟩;unfold Ju
    simp![IJ,e]
   .right;refine⟨λq=>h (q j hj),?_⟩
    unfold Ju
    simp![IJ,e])
 rcases loop with ⟨h,τ',e,x,y,z,w,rfl⟩|⟨⟨i,hi,h⟩,e⟩
 .refine⟨λ_=>?_,λq=>absurd (λi j hi hj=>h i hi j hj) q⟩
  unfold GA Kq
  simp![IJ,e]
 .refine⟨λq=>absurd (λj hj=>q i j hi hj) h,λ_=>?_⟩
  unfold GA Kq
  simp![IJ,e]
abbrev Sn:Stmt:=AI 29
def Nr:AH :=
 (AF (DP 4 (BX AD))
 (AF (A5 (m2 Az (AA 2) (mC (.str "<"))) (ED 4 (BP (AB (AA 0) (AB (AA 1) (AB (AN Hw (AB (AA 3) AD)) AD))))) A4)
 (AF (A5 (BU (m2 Az (AA 2) (mC (.str "<="))) (m2 Az (AA 2) (mC (.str "=")))) (ED 4 (BP (AB (AA 0) (AB (AA 1) (AB (AN Em (AB (AA 3) AD)) AD))))) A4)
 (AF (A5 (m2 Az (AA 2) (mC (.str ">"))) (ED 4 (BP (AB (AA 1) (AB (AA 0) (AB (AN Hw (AB (m1 EK (AA 3)) AD)) AD))))) A4)
 (AF (A5 (BU (m2 Az (AA 2) (mC (.str ">="))) (m2 Az (AA 2) (mC (.str "=")))) (ED 4 (BP (AB (AA 1) (AB (AA 0) (AB (AN Em (AB (m1 EK (AA 3)) AD)) AD))))) A4)
 (AM (AA 4)))))))
def Lu:List T->Option Ru:=AX 4 5 Nr
abbrev YH:Fn:=⟨2,["i","j","word","number"],Lu⟩
abbrev zbr:Gm:=gA ["i","j","word","number","bounds"] Sn 1 [("below",Pb),("at_most",Hf)] [] ["bounds"]
theorem zbx:Ck zbr YH Sn Nr:={}
def EC:Nat->Str
 |0=>"<"
 |1=>"<="
 |2=>">"
 |3=>">="
 |_=>"="
theorem wdNq{w:Nat}(h:w<5):Az (.str (EC w)) (.str "<")=some (.bl (w == 0))/\Az (.str (EC w)) (.str "<=")=some (.bl (w == 1))/\Az (.str (EC w)) (.str ">")=some (.bl (w == 2))/\Az (.str (EC w)) (.str ">=")=some (.bl (w == 3))/\Az (.str (EC w)) (.str "=")=some (.bl (w == 4)):=by
 have:w=0\/w=1\/w=2\/w=3\/w=4:=by omega
 rcases this with rfl|rfl|rfl|rfl|rfl<;>refine⟨?_,?_,?_,?_,?_⟩<;>ext
abbrev DW(l:Nat×Nat×Int):T:=.tup [.int (l.1:Nat),.str (EC l.2.1),.int l.2.2]
def Look(m:Nat)(l:Nat×Nat×Int):Prop:=0<l.1/\l.1<m+1/\l.2.1<5
abbrev JH(x:Dv.Lim):T:=.tup [.int (x.1:Nat),.int (x.2.1:Nat),.int x.2.2]
def Cu:Nat×Nat×Int->List Dv.Lim
 |(p,0,n)=>[(p,0,2 * n)]
 |(p,1,n)=>[(p,0,2 * n+1)]
 |(p,2,n)=>[(0,p,2 * -n)]
 |(p,3,n)=>[(0,p,2 * -n+1)]
 |(p,_,n)=>[(p,0,2 * n+1),(0,p,2 * -n+1)]
theorem lb_ok{l:Nat×Nat×Int}(hw:l.2.1<5):Lu [.int (l.1:Nat),.int 0,.str (EC l.2.1),.int l.2.2]=some (.ok (.own ((Cu l).map JH))):=by
 obtain⟨p,w,n⟩:=l;obtain⟨s0,s1,s2,s3,s4⟩:=wdNq hw
 have:w=0\/w=1\/w=2\/w=3\/w=4:=by
  have:w<5:=hw
  omega
 have z:((0:Nat):Int)=(0:Int):=rfl;unfold Lu Nr
 rcases this with rfl|rfl|rfl|rfl|rfl<;>(simp![s0,s1,s2,s3,s4,Z3,Qc,Cu,z];rfl)
theorem Ol{m:Nat}{l:Nat×Nat×Int}(h:Look m l):Dv.In (m+1) (Cu l):=λx hx=>by
 obtain⟨p,w,n⟩:=l;obtain⟨h1,h2,h3⟩:=h
 have:w=0\/w=1\/w=2\/w=3\/w=4:=by
  have:w<5:=h3
  omega
 have h2':p<m+1:=h2
 rcases this with rfl|rfl|rfl|rfl|rfl<;>simp only[Cu,yaa,yar,yed]at hx
 all_goals first|(rcases hx with rfl|rfl<;>exact⟨by first|exact h2'|exact yd0 m,by first|exact h2'|exact yd0 m⟩)|(subst hx;exact⟨by first|exact h2'|exact yd0 m,by first|exact h2'|exact yd0 m⟩)
abbrev SY:Stmt:=AI 63
def QB:AG :=
 (DK (m2 C6 (AA 0) (AA 1)) (mC (.int 0)) (AA 0))
def QA:AG :=
 (Aj (Aj (AA 2) (AA 1)) (AA 0))
def L8:AG :=
 (BA 1 [0,2] (Ay (AA 1)) (AE 0) (mC (.bl true)) QA)
def Nh:AH :=
 (AF (Ac (BA 1 [1] (DR (AB (m1 Bu (AA 0)) AD)) (AE 0) (mC (.bl true)) QB) (AE 2))
 (AM (BA 1 [2,0] (Ay (AA 2)) (AE 0) (mC (.bl true)) L8)))
def J6:List T->Option Ru:=AX 2 3 Nh
abbrev Xv:Fn:=⟨1,["zone","places"],J6⟩
abbrev zdj:Gm:=gA ["zone","places","sources"] SY 0 [] ["range","len"] [] ["zone","places","sources"]
theorem zdv:Ck zdj Xv SY Nh:={}
abbrev oZ(n:Nat)(f:Db.Z):List T:=mT n λi=>.own (mT n λj=>bT (f i j))
theorem zk6{n:Nat}{f:Db.Z}{a b:Nat}{c:Db.B}:(oZ n f).set a (.own ((mT n λj=>bT (f a j)).set b (bT c)))=oZ n λi j=>if i=a/\j=b then c else f i j:=by
 unfold oZ;rw[Ws,Ws];refine DI λi hi=>?_
 by_cases e:i=a
 .subst e;rw[if_pos rfl,DI λj hj=>?_]
  by_cases e2:j=b
  .simp[e2]
  .simp[e2]
 .rw[if_neg e,DI λj hj=>?_]
  simp[e]
theorem NU{n:Nat}{g:Db.Z}:Ar (oZ n g)=mT n λi=>rT n (g i):=by
 unfold oZ;rw[E1];refine DI λi hi=>?_
 rw[T.share,E1];simp only[Hk]
theorem NV{n:Nat}{f g:Db.Z}(h:∀i j,i<n->j<n->f i j=g i j):oZ n f=oZ n g:=by
 unfold oZ;rw[DI λi hi=>?_]
 rw[DI λj hj=>?_]
 rw[h i j hi hj]
def Bq(ps:List Nat)(i:Nat):Nat:=if i∈ps then 0 else i
abbrev nT(ps:List Nat):T:=.lst (ps.map λ(p:Nat)=>T.int (p:Int))
theorem in_ok(i:Nat):∀ps:List Nat,Ef (.int (i:Int)) (ps.map λ(p:Nat)=>T.int (p:Int))=true:=λps=>by
 unfold Ef C7
 have h1:PyData.canLayAll0 (BD (ps.map λ(p:Nat)=>T.int p))=true:=by
  induction ps with
  |nil=>rfl
  |cons a r ih=>omega
 have h2:Co (ps.map λ(p:Nat)=>T.int p)=true:=by
  induction ps with
  |nil=>rfl
  |cons a r ih=>exact ih (by omega)
 rw[h1];simp[T.data,PyData.canLay0,PyData.depth,h2]
 rfl
theorem Xb(i:Nat):∀ps:List Nat,Fs (.int (i:Int)) (ps.map λ(p:Nat)=>T.int (p:Int))=decide (i∈ps)
 |[]=>by simp[Fs,BD]
 |a::r=>by
  have ih:=Xb i r;unfold Fs at ih ⊢;simp only[yaq,BD,ycu,ih];simp only[T.data,PyData.eqv]
  by_cases e:i=a
  .simp[e]
  .simp[e,show ¬ (a:Int)=(i:Int) by omega]
theorem in_nT(ps:List Nat)(i:Nat):C6 (.int (i:Int)) (nT ps)=some (.bl (decide (i∈ps))):=by
 unfold C6 nT;simp only[in_ok i ps,Xb i ps,ye4]
theorem N8(ps:List Nat):Ar (ps.map λ(p:Nat)=>T.int (p:Int))=ps.map λ(p:Nat)=>T.int (p:Int):=by
 rw[Cc,yba]
 rfl
theorem N9(ps:List Nat):AS (ps.map λ(p:Nat)=>T.int (p:Int))=true:=by
 rw[Bn,yai];intro t ht;obtain⟨p,-,rfl⟩:=yag.mp ht
 rfl
theorem pb_ok{n:Nat}(h0:0<n)(hn:n<=1000)(f:Db.Z)(ps:List Nat):J6 [zT n f,nT ps]=some (.ok (.own (oZ n (Dm.pbk f (Bq ps))))):=by
 have l1:n<=100000:=by omega
 have o1:Ce (n:Int)=true:=Ik (by omega)
 have sl:∀i,i<n->Bq ps i<n:=λi hi=>by
  unfold Bq;split<;>omega
 have lcs:=DM (n:=n) (me:=QB) (x:=none) (cs:=[some (nT ps)]) (g:=λi=>.int (i:Int)) (f:=λi=>.int (Bq ps i:Int)) λi hi=>by
  have q:=in_nT ps i;unfold QB
  by_cases e:i∈ps
  .rw[ye6 e]at q;rw[show Bq ps i=0 from if_pos e]
   simp![q,N8,N9]
  .rw[ydp e]at q;rw[show Bq ps i=i from if_neg e]
   simp![q,N8,N9]
 have in1:∀i,i<n->L8 [some (.int (Bq ps i:Int)),some (.lst (mT n λi=>.int (Bq ps i:Int))),some (zT n f)]=some (.v (.own (mT n λj=>bT (Dm.pbk f (Bq ps) i j))) false):=λi hi=>by
  have lc:=DM (n:=n) (me:=QA) (x:=none) (cs:=[some (.int (Bq ps i:Int)),some (zT n f)]) (g:=λj=>.int (Bq ps j:Int)) (f:=λj=>bT (Dm.pbk f (Bq ps) i j)) λj hj=>by
   unfold QA
   simp![DJ (sl i hi),DJ (sl j hj)]
   rfl
  unfold L8
  simp![lc,l1]
 have lc0:=DM (n:=n) (me:=L8) (x:=none) (cs:=[some (.lst (mT n λi=>.int (Bq ps i:Int))),some (zT n f)]) (g:=λi=>.int (Bq ps i:Int)) (f:=λi=>.own (mT n λj=>bT (Dm.pbk f (Bq ps) i j))) in1
 unfold J6 Nh
 simp![o1,F9,lcs,l1,lc0,N8,N9]
abbrev TV:Stmt:=AI 61
def QV:AG :=
 (m1 CI (AA 0))
def OK:AH :=
 (AM (BA 1 [] (Ay (AA 0)) (AE 0) (mC (.bl true)) QV))
def Je:List T->Option Ru:=AX 1 1 OK
abbrev Pa:Fn:=⟨1,["zone"],Je⟩
abbrev zfs:Gm:=gA ["zone"] TV 0 [] ["list"]
theorem zg2:Ck zfs Pa TV OK:={}
theorem ZN{n:Nat}(hn:n<=1000)(f:Db.Z):Je [zT n f]=some (.ok (.own (oZ n f))):=by
 have lc:=DM (n:=n) (me:=QV) (x:=none) (cs:=[]) (g:=λi=>.nd false .lst (mT n λj=>bT (f i j))) (f:=λi=>.own (mT n λj=>bT (f i j))) λi hi=>by
  unfold QV
  simp![]
 have l1:n<=100000:=by omega
 unfold Je OK
 simp![lc,l1]
abbrev SO:Stmt:=AI 62
def MW:AH :=
 (IY 1 (AA 2) (mC (.int 0)) (mC .non))
def Nd:AH :=
 (AF (DP 1 (AN Je (AB (AA 0) AD)))
 (AF (Bo (G6 (AB (mC (.int 1)) (AB (m1 Bu (AA 1)) AD))) (AE 2) MW)
 (AM (AA 1))))
def J4:List T->Option Ru:=AX 1 3 Nd
abbrev Xs:Fn:=⟨2,["zone"],J4⟩
abbrev zfq:Gm:=gA ["zone","rows","place"] SO 1 [("copied",Pa)] ["range","len"] ["rows"]
theorem zg0:Ck zfq Xs SO Nd:={}
theorem Ow{n i:Nat}(h:i<n):Bp n (i:Int)=some i:=by unfold Bp;simp;omega
theorem zlg{m:Nat}(hm:m<=500)(f:Db.Z):J4 [zT (m+1) f]=some (.ok (.own (oZ (m+1) (Dm.wtd f)))):=by
 have co:=ZN (n:=m+1) (by omega) f
 have loop:=Xo (b:=AE 2) (body:=MW) (n:=m) (g:=λi=>.int (1+(i:Int))) (τ:=[some (zT (m+1) f),some (.own (oZ (m+1) f)),none])
  (λk τ=>∃x,τ=[some (zT (m+1) f),some (.own (oZ (m+1) λi j=>if 0<i/\i<k+1/\j=0 then none else f i j)),x])
  ⟨none,by rw[show oZ (m+1) f=oZ (m+1) (λi j=>if 0<i/\i<0+1/\j=0 then none else f i j) from NV λi j _ _=>by rw[if_neg (by omega)]]⟩ (by
   rintro k τ hk ⟨x,rfl⟩;refine⟨_,by simp![];rfl,?_⟩
   have e1:(1:Int)+(k:Int)=((k+1:Nat):Int):=by omega
   have i1:Bp (m+1) ((k+1:Nat):Int)=some (k+1):=Ow (by omega)
   have i0:Bp (m+1) (0:Int)=some 0:=Ow (i:=0) (by omega)
   generalize hg:(λi j=>if 0<i/\i<k+1/\j=0 then none else f i j:Db.Z)=g
   have hg':∀i j,g i j=if 0<i/\i<k+1/\j=0 then none else f i j:=λi j=>by rw[<- hg]
   have g1:(oZ (m+1) g)[k+1]?=some (.own (mT (m+1) λj=>bT (g (k+1) j))):=Ea (by omega)
   have st:=zk6 (n:=m+1) (f:=g) (a:=k+1) (b:=0) (c:=none);rw[Z9]at st;rw[e1];refine⟨[some (zT (m+1) f),some (.own (oZ (m+1) λi j=>if i=k+1/\j=0 then none else g i j)),some (.int ((k+1:Nat):Int))],?_,some (.int ((k+1:Nat):Int)),?_⟩
   .unfold MW
    simp![i1,i0,g1,st]
   .rw[NV λi j _ _=>?_]
    rw[hg' i j]
    by_cases h1:i=k+1/\j=0
    .rw[if_pos h1,if_pos (by omega)]
    .rw[if_neg h1]
     by_cases h2:0<i/\i<k+1/\j=0
     .rw[if_pos h2,if_pos (by omega)]
     .rw[if_neg h2,if_neg (by omega)])
 obtain⟨τ',e,x,rfl⟩:=loop;have o1:Ce ((m+1:Nat):Int)=true:=Ik (by omega)
 have o2:Ce 1=true:=Ik (n:=1) (by decide)
 have e2:(((m+1:Nat):Int) - 1).toNat=m:=by omega
 have e3:(oZ (m+1) λi j=>if 0<i/\i<m+1/\j=0 then none else f i j)=oZ (m+1) (Dm.wtd f):=NV λi j hi hj=>by
  unfold Dm.wtd
  by_cases h:0<i/\j=0
  .rw[if_pos h,if_pos (by omega)]
  .rw[if_neg h];rw[if_neg (by omega)]
 rw[e3]at e;unfold J4 Nd
 simp![co,o1,o2,e2,UM,e]
abbrev Si:Stmt:=AI 60
def QG:AG :=
 (DK (m2 (BQ false) (Aj (AA 0) (AA 2)) (mC .non)) (AA 0) (AN J5 (AB (AA 0) (AB (AN Hy (AB (Aj (AA 0) (AA 2)) (AB (AA 1) AD))) (AB (Aj (AA 4) (AA 3)) AD)))))
def Iv:AH :=
 (AF (A5 (Ax (AN Hq (AB (Aj (Aj (AA 0) (AA 1)) (AA 2)) (AB (AA 3) AD)))) (AM (AA 0)) A4)
 (AF (Ac (AN Hy (AB (AA 3) (AB (Aj (Aj (AA 0) (AA 2)) (AA 1)) AD))) (AE 4))
 (AF (A5 (Ct (m2 (BQ true) (AA 4) (mC .non)) (m2 (Ca λi j=>decide (i<j)) (AA 4) (AN Em (AB (mC (.int 0)) AD)))) (AM (mC .non)) A4)
 (AM (BA 1 [3,1,2,0] (Ay (AA 0)) (AE 0) (mC (.bl true)) QG)))))
def Gq:List T->Option Ru:=AX 4 5 Iv
abbrev YE:Fn:=⟨3,["zone","i","j","bound"],Gq⟩
abbrev zdm:Gm:=gA ["zone","i","j","bound","ring"] Si 2 [("is_wider",P0),("added",YZ),("at_most",Hf),("row_over",PV)] [] [] ["zone","i","j","bound"]
theorem zdy:Ck zdm YE Si Iv:={}
def HP(n:Nat)(f:Db.Z)(a b:Nat)(c:Int)(i:Nat):T:=match f i a with
 |none=>rT n (f i)
 |some _=>.own (mT n λj=>bT (Dv.ins f a b (some c) i j))
theorem zfb{n:Nat}{f:Db.Z}{a b:Nat}{c:Int}(i:Nat):(HP n f a b c i).share=rT n (Dv.ins f a b (some c) i):=by
 unfold HP;cases e:f i a with
 |none =>
  simp only[T.share,E1,Hk];rw[DI λj hj=>?_]
  unfold Dv.ins;rw[e];cases f i j<;>rfl
 |some d=>simp only[T.share,E1,Hk]
theorem znl{n:Nat}(hn:n<=1000){f:Db.Z}(hf:Db.Nar n f){a b:Nat}(ha:a<n)(hb:b<n){c:Int} :
  (Dk.leB (some 1) (Db.add (f b a) (some c))=true->∃t,Gq [zT n f,.int (a:Int),.int (b:Int),.int c]=some (.ok t)/\t.share=zT n (Dv.ins f a b (some c))/\t.isN=false) /\
  (Dk.leB (some 1) (Db.add (f b a) (some c))=false->Gq [zT n f,.int (a:Int),.int (b:Int),.int c]=some (.ok .non)):=by
 have wk:=RI (f a b) (some c);have a1:=DJ (g:=λi=>rT n (f i)) ha
 have a2:=DJ (g:=λi=>rT n (f i)) hb
 have b1:=DJ (g:=λj=>bT (f a j)) hb
 have b2:=DJ (g:=λj=>bT (f b j)) ha
 have ad:=Zc (some c) (f b a);rw[Db.add_comm]at ad
 by_cases hle:Db.le (f a b) (some c)
 .have w1:=wk.1 hle
  have one:Dk.leB (some 1) (Db.add (f b a) (some c))=true:=by
   rw[Dk.leB_iff,<- hf.diag b hb];exact Db.le_trans (hf.tri b b a hb hb ha) (Db.add_mono (Db.le_refl _) hle)
  refine⟨λ_=>⟨zT n f,?_,?_,rfl⟩,λh=>by rw[one]at h;cases h⟩
  .unfold Gq Iv;rw[Q7]at w1
   simp![a1,b1,w1]
  .have:zT n (Dv.ins f a b (some c))=zT n f:=RC λi j hi hj=>Db.mn_of_le (by
    refine Db.le_trans (hf.tri i j a hi hj ha) (Db.add_mono (Db.le_refl _) ?_);exact Db.le_trans (hf.tri a j b ha hj hb) (Db.add_mono hle (Db.le_refl _)))
   rw[this];simp only[T.share,E1,Hk]
 .have w1:=wk.2 hle;rw[Q7]at w1 ad;have l1:n<=100000:=by omega
  have lc:=DM (n:=n) (me:=QG) (x:=none) (cs:=[some (.int c),some (.int (a:Int)),some (.int (b:Int)),some (zT n f)]) (g:=λi=>rT n (f i)) (f:=λi=>HP n f a b c i) λi hi=>by
   have c1:=DJ (g:=λj=>bT (f i j)) ha
   unfold QG HP;cases e:f i a with
   |none =>
    rw[e]at c1
    simp![c1]
   |some d =>
    rw[e]at c1;have ad2:=Zc (some d) (some c);have ro:=UE (n:=n) l1 (f i) (f b) (Db.bs d c)
    have r2:(λj=>bT (Db.mn (f i j) (Db.add (some (Db.bs d c)) (f b j))))=λj=>bT (Dv.ins f a b (some c) i j):=funext λj=>by
     unfold Dv.ins;rw[e,<- Db.add_assoc]
     rfl
    rw[r2]at ro;have ad3:Hy [.int d,.int c]=some (.ok (.int (Db.bs d c))):=ad2
    simp![c1,ad3,a2,ro]
  have sh:Ar (mT n λi=>HP n f a b c i)=mT n λi=>rT n (Dv.ins f a b (some c) i):=by
   rw[E1];exact DI λi _=>zfb i
  constructor
  .intro h;refine⟨.own (mT n λi=>HP n f a b c i),?_,by simp only[T.share,sh],rfl⟩
   unfold Gq Iv;cases e:Db.add (f b a) (some c) with
   |none =>
    rw[e]at ad
    simp![a1,b1,w1,a2,b2,ad,lc,l1]
   |some r =>
    rw[e]at ad h
    have h':¬ r<1:=by
     have:=Dk.leB_iff.mp h;simp only[Db.le]at this
     omega
    simp![a1,b1,w1,a2,b2,ad,J1,h',lc,l1]
  .intro h;unfold Gq Iv;cases e:Db.add (f b a) (some c) with
   |none=>rw[e]at h;cases h
   |some r =>
    rw[e]at ad h
    have h':r<1:=by
     rcases yd4 r 1 with q|q
     .exact q
     .have:Dk.leB (some 1) (some r)=true:=Dk.leB_iff.mpr q;rw[this]at h;cases h
    simp![a1,b1,w1,a2,b2,ad,J1,h']
abbrev Sl:Stmt:=AI 59
def Gy:AH :=
 (AF (Ac (AN Gq (AB (AA 2) (AB (AA 6) (AB (AA 7) (AB (AA 8) AD))))) (AE 2))
 (A5 (m2 (BQ false) (AA 2) (mC .non)) (AM (mC .non)) A4))
def Jv:AH :=
 (Bo (Ay (AN Lu (AB (AA 3) (AB (mC (.int 0)) (AB (AA 4) (AB (AA 5) AD)))))) (BE 3 (AQ (AE 6) (AQ (AE 7) (AQ (AE 8) BG)))) Gy)
def Kt:AH :=
 (AF (Ac (AN Je (AB (AA 0) AD)) (AE 2))
 (AF (Bo (Ay (AA 1)) (BE 3 (AQ (AE 3) (AQ (AE 4) (AQ (AE 5) BG)))) Jv)
 (AM (AA 2))))
def EB:List T->Option Ru:=AX 2 9 Kt
abbrev LW:Fn:=⟨4,["zone","looks"],EB⟩
abbrev zof:Gm:=gA ["zone","looks","rows","place","word","number","i","j","bound"] Sl 3 [("copied",Pa),("look_bounds",YH),("narrowed",YE)] []
theorem zot:Ck zof LW Sl Kt:={}
theorem Wf{n:Nat}(hn:n<=1000){a0 a1 a3 a4 a5:Option T}:∀(B:List Dv.Lim),Dv.In n B->∀(f:Db.Z),Db.Nar n f->∀x y z:Option T,
  (∀h,Dk.met B f=some h->∃x' y' z',B5 (BE 3 (AQ (AE 6) (AQ (AE 7) (AQ (AE 8) BG)))) Gy (B.map JH) [a0,a1,some (zT n f),a3,a4,a5,x,y,z]=some (.nx [a0,a1,some (zT n h),a3,a4,a5,x',y',z'])) /\
  (Dk.met B f=none->B5 (BE 3 (AQ (AE 6) (AQ (AE 7) (AQ (AE 8) BG)))) Gy (B.map JH) [a0,a1,some (zT n f),a3,a4,a5,x,y,z]=some (.rt .non))
 |[],_,f,_,x,y,z=>⟨λh e=>by
   cases e;exact⟨x,y,z,rfl⟩,λe=>by cases e⟩
 |b::B,hI,f,hf,x,y,z=>by
  have hb:=hI b (ya7 ..);obtain⟨n1,n2⟩:=znl hn hf hb.1 hb.2 (c:=b.2.2);unfold Dk.met;rw[yaq];unfold B5;cases q:Dk.leB (some 1) (Db.add (f b.2.1 b.1) (some b.2.2)) with
  |false =>
   refine⟨λh e=>(by cases e),λ_=>?_⟩
   have n2:=n2 q;unfold Gy
   simp![n2]
  |true =>
   obtain⟨t,e1,e2,e3⟩:=n1 q;simp only[ye4];obtain⟨k1,k2⟩:=Wf hn (a0:=a0) (a1:=a1) (a3:=a3) (a4:=a4) (a5:=a5) B (λy hy=>hI y (ya4 _ hy)) _ (Dv.ins_nar hf hb.1 hb.2 (Dk.leB_iff.mp q)) (some (.int (b.1:Nat))) (some (.int (b.2.1:Nat))) (some (.int b.2.2))
   have st:Gy [a0,a1,some (zT n f),a3,a4,a5,some (.int (b.1:Nat)),some (.int (b.2.1:Nat)),some (.int b.2.2)]=some (.nx [a0,a1,some (zT n (Dv.ins f b.1 b.2.1 (some b.2.2))),a3,a4,a5,some (.int (b.1:Nat)),some (.int (b.2.1:Nat)),some (.int b.2.2)]):=by
    unfold Gy
    simp![e1,e2]
   refine⟨λh e=>?_,λe=>?_⟩
   .obtain⟨x',y',z',k⟩:=k1 h e;exact⟨x',y',z',by simp![st];exact k⟩
   .have k:=k2 e
    simp![st]
    exact k
def ET(l:Nat->Nat×Nat×Int):Nat->List Dv.Lim
 |0=>[]
 |k+1=>ET l k++Cu (l k)
theorem ZV{m:Nat}{l:Nat->Nat×Nat×Int}:∀{K:Nat},(∀k,k<K->Look m (l k))->Dv.In (m+1) (ET l K)
 |0,_=>λx hx=>by cases hx
 |K+1,h=>λx hx=>by
  rcases yax.mp hx with hy|hy
  .exact ZV (λk hk=>h k (by omega)) x hy
  .exact Ol (h K (by omega)) x hy
theorem Wm{l:Nat->Nat×Nat×Int}{f:Db.Z}{i:Nat}(h:Dk.met (ET l i) f=none):∀K,i<=K->Dk.met (ET l K) f=none
 |0,e=>by
  have:i=0:=by omega
  subst this;exact h
 |K+1,e=>by
  by_cases q:i=K+1
  .subst q;exact h
  .show Dk.met (ET l K++Cu (l K)) f=none;rw[Dk.met_app,Wm h K (by omega)]
   rfl
theorem We{m K:Nat}(hm:m<=500){f:Db.Z}(hf:Db.Nar (m+1) f){l:Nat->Nat×Nat×Int}(hl:∀k,k<K->Look m (l k)) :
  (∀h,Dk.met (ET l K) f=some h->EB [zT (m+1) f,.lst (mT K λk=>DW (l k))]=some (.ok (zT (m+1) h)))/\(Dk.met (ET l K) f=none->EB [zT (m+1) f,.lst (mT K λk=>DW (l k))]=some (.ok .non)):=by
 have co:=ZN (n:=m+1) (by omega) f
 have loop:=He (b:=BE 3 (AQ (AE 3) (AQ (AE 4) (AQ (AE 5) BG)))) (body:=Jv) (n:=K) (g:=λk=>DW (l k)) (τ:=[some (zT (m+1) f),some (.lst (mT K λk=>DW (l k))),some (zT (m+1) f),none,none,none,none,none,none])
  (λk=>Dk.met (ET l (k+1)) f≠none) .non
  (λk τ=>∃h x3 x4 x5 x6 x7 x8,Dk.met (ET l k) f=some h/\τ=[some (zT (m+1) f),some (.lst (mT K λk=>DW (l k))),some (zT (m+1) h),x3,x4,x5,x6,x7,x8])
  ⟨f,none,none,none,none,none,none,rfl,rfl⟩ (by
   rintro k τ hk - ⟨h,x3,x4,x5,x6,x7,x8,eh,rfl⟩;refine⟨_,by simp![];rfl,?_⟩
   have hk':=hl k hk;have nh:=((Dk.met_ok (n:=m+1) _ f hf (ZV λi hi=>hl i (by omega))).1 h eh).1
   have lb:=lb_ok (l:=l k) hk'.2.2;obtain⟨k1,k2⟩:=Wf (n:=m+1) (by omega) (a0:=some (zT (m+1) f)) (a1:=some (.lst (mT K λk=>DW (l k)))) (a3:=some (.int ((l k).1:Nat))) (a4:=some (.str (EC (l k).2.1))) (a5:=some (.int (l k).2.2)) (Cu (l k)) (Ol hk') h nh x6 x7 x8
   have e2:Dk.met (ET l (k+1)) f=Dk.met (Cu (l k)) h:=by
    show Dk.met (ET l k++Cu (l k)) f=_;rw[Dk.met_app,eh]
    rfl
   have sh:Ar ((Cu (l k)).map JH)=(Cu (l k)).map JH:=by
    rw[Cc,yba];exact List.map_congr_left λx _=>rfl
   rw[e2];cases q:Dk.met (Cu (l k)) h with
   |none =>
    refine .inr ⟨λc=>c rfl,?_⟩
    unfold Jv
    simp![lb,sh]
    exact k2 q
   |some h' =>
    obtain⟨x',y',z',k3⟩:=k1 h' q;refine .inl ⟨(by intro c;cases c),_,.inl ?_,h',some (.int ((l k).1:Nat)),some (.str (EC (l k).2.1)),some (.int (l k).2.2),x',y',z',rfl,rfl⟩
    unfold Jv
    simp![lb,sh]
    exact k3)
 have shl:Ar (mT K λk=>DW (l k))=mT K λk=>DW (l k):=by
  rw[E1]
  rfl
 have shr:AS (mT K λk=>DW (l k))=true:=by
  rw[Bn,yai];intro t ht;obtain⟨i,-,rfl⟩:=Of ht
  rfl
 rcases loop with ⟨-,τ',e,h,x3,x4,x5,x6,x7,x8,eh,rfl⟩|⟨⟨i,hi,ni⟩,e⟩
 .refine⟨λh' e'=>?_,λe'=>by rw[eh]at e';cases e'⟩
  rw[eh]at e';cases e';unfold EB Kt
  simp![co,shl,shr,e]
 .have no:=Wm (Classical.not_not.mp ni) K (by omega)
  refine⟨λh' e'=>(by rw[no]at e';cases e'),λ_=>?_⟩
  unfold EB Kt
  simp![co,shl,shr,e]
abbrev Sd:Stmt:=AI 69
def QD:AG :=
 (Bf Af Ag IA (AA 1) (AB (AA 0) AD))
def Nl:AH :=
 (AM (BA 1 [0] (Ay (Bf BL BS MN (AA 1) AD)) (AE 0) (mC (.bl true)) QD))
def Lq:List T->Option Ru:=AX 2 2 Nl
abbrev YB:Fn:=⟨2,["machine","door"],Lq⟩
abbrev zau:Gx:={ Bc with mt:=[("sets",BL,BS,Yd),("watch_number",Af,Ag,Pf)] }
abbrev zay:Gm:=gA ["machine","door"] Sd 1 [] [] [] ["machine"] (ox:=zau)
theorem zb3:Ck zay YB Sd Nl:={}
def C1(ws ns:List Str):List Nat:=ns.map λx=>(CK ws x).getD 0+1
abbrev Fh(l:List Nat):List T:=l.map λp:Nat=>T.int (p:Int)
theorem Km(l:List Nat):AS (Fh l)=true:=Eu λ_ _=>rfl
theorem np_ok{M:Mc}(h:McOk M){d:Dr}(hd:d∈M.ds):Lq [Ae M,BJ d]=some (.ok (.own (Fh (C1 M.ws d.n)))):=by
 have D:=h.d d hd;have sg:=D.g.sh;have sm:=E8 h;have sets:=zkx sg
 have lc:=Ed (b:=AE 0) (me:=QD) T.str (λx=>.int ((CK M.ws x).getD 0+1:Nat)) (λτ=>∃x,τ=[x,some (Ae M)]) d.n [none,some (Ae M)] ⟨none,rfl⟩ λx hx τ hI=>by
  obtain⟨y,rfl⟩:=hI;obtain⟨j,ej,_⟩:=JN (D.n x hx);have en:IA [Ae M,.str x]=some (.ok (.int (j+1))):=Wh h ej;refine⟨[some (.str x),some (Ae M)],by simp![],?_,_,rfl⟩
  unfold QD;rw[ej]
  simp![-BF,E9,sm,AO _ sm,en,ydn,Int.natCast_add]
 have e1:Fh (C1 M.ws d.n)=d.n.map λx=>.int ((CK M.ws x).getD 0+1:Nat):=by
  unfold Fh C1
  simp_all
 have nl:d.n.length<=100000:=by have:=D.nl;omega
 rw[e1];unfold Lq Nl
 simp![sm,AO _ sm,sets,sg,AJ _ sg,Ah,Ao,ya1,nl,lc]
abbrev S6:Stmt:=AI 68
def MY:AH :=
 (HJ 1 (AA 2) (AN Ek (AB (AA 0) (AB (Bf Af Ag Jg (AA 0) (AB (AA 2) AD)) AD))))
def Ni:AH :=
 (AF (DP 1 Fl)
 (AF (Bo (Ay (Bf Af Ag De (AA 0) AD)) (AE 2) MY)
 (AM (AA 1))))
def Lp:List T->Option Ru:=AX 1 3 Ni
abbrev Xw:Fn:=⟨6,["machine"],Lp⟩
abbrev zba:Gx:={ Bc with mt:=[("rooms",Af,Ag,Hg),("stay",Af,Ag,Y5)] }
abbrev zbd:Gm:=⟨["machine","stays","room"],(Bl S6).names,[],5,[("placed",LV)],[],[],["stays"],[],false,[],[],["stays"],zba⟩
theorem zbi:Ck zbd Xw S6 Ni:={}
def II(M:Mc):Prop:=∀r∈M.rs,r.2=[]
theorem zmm{M:Mc}(h:McOk M)(hs:II M):Lp [Ae M]=some (.ok (.osd M.nm (M.nm.map λ_=>.own []))):=by
 have sm:=E8 h;have nd:M.nm.Nodup:=h.r.nd;have l64:=h.r.l64;have ln:M.nm.length=M.rs.length:=ya1 _;have mr:De [Ae M]=some (.ok (.own (M.nm.map T.str))):=GZ h;have pl:Ek [Ae M,.lst []]=some (.ok (.own [])):=NQ h (l:=[]) (wd:=CT) (λ_ h=>by cases h) (λ_ h=>h) (ybg _)
 obtain⟨τ,e,y,rfl⟩:=Eh (b:=AE 2) (body:=MY) (ts:=M.nm.map T.str) (τ:=[some (Ae M),some (.osd [] []),none]) (λi τ=>∃y,τ=[some (Ae M),some (.osd (M.nm.take i) ((M.nm.take i).map λ_=>.own [])),y]) ⟨none,rfl⟩ λi t τ h1 h2=>by
  obtain⟨y,rfl⟩:=h2;have hi:i<M.nm.length:=by simpa using (ya3.mp h1).1
  have hr:i<M.rs.length:=by omega
  rw[ya8,ya0 hi]at h1;have et:=(yap h1).symm;subst et;have en:M.nm[i]=M.rs[i].1:=yca _
  have ms:Jg [Ae M,.str M.nm[i]]=some (.ok (.own [])):=by
   rw[en];have:=zka h hr;rw[hs _ (yb5 hr)]at this;exact this
  have nk:M.nm[i]∉M.nm.take i:=λz=>by
   obtain⟨j,hj,e⟩:=ycf.mp z;have:=(ybc nd).mp e
   omega
  have lk:(M.nm.take i).length<100000:=by rw[yat];omega
  refine⟨[some (Ae M),some (.osd (M.nm.take i) ((M.nm.take i).map λ_=>.own [])),some (.str M.nm[i])],by simp![],[some (Ae M),some (.osd (M.nm.take i++[M.nm[i]]) ((M.nm.take i).map (λ_=>.own [])++[.own []])),some (.str M.nm[i])],?_,some (.str M.nm[i]),?_⟩
  .unfold MY;generalize M.nm[i]=x at *;generalize M.nm.take i=l at *
   simp![-BF,E9,sm,AO _ sm,ms,pl,yd9,yda,nk,lk,yem]
  .rw[ybt hi,yb1]
   rfl
 rw[ya1,ycw]at e;have l1:M.nm.length<=100000:=by omega
 unfold Lp Ni
 simp![-BF,E9,sm,AO _ sm,mr,Ao,Ah,ya1,l1,e]
abbrev TU:Stmt:=AI 70
def M1:AH :=
 (HJ 1 (AA 2) (BX AD))
def Jy:AH :=
 (A5 (m2 Az (Al BL BS 4 (AA 4)) (mC (.str ""))) (AF (Ac (BP (AB (AA 3) (AB (Al BL BS 1 (AA 4)) (AB (AN Ek (AB (AA 0) (AB (Bf BL BS Jk (AA 4) AD) AD))) (AB (AN Lq (AB (AA 0) (AB (AA 4) AD))) AD))))) (AE 5))
 (Ia 1 (Al BL BS 0 (AA 4)) (AA 5))) A4)
def OJ:AH :=
 (AF (DP 1 Fl)
 (AF (Bo (Ay (Bf Af Ag De (AA 0) AD)) (AE 2) M1)
 (AF (Bo (CM (AB (Bf Af Ag Jh (AA 0) AD) AD)) (BE 2 (AQ (AE 3) (AQ (AE 4) BG))) Jy)
 (AM (AA 1)))))
def MA:List T->Option Ru:=AX 1 6 OJ
abbrev YU:Fn:=⟨6,["machine"],MA⟩
abbrev zcl:Gx:={ Bc with cl:=[("Door",BL,BS)],mt:=[("rooms",Af,Ag,Hg),("doors",Af,Ag,Y6),("asks",BL,BS,Yg)] }
abbrev zcu:Gm:=⟨["machine","told","room","number","door","way"],(Bl TU).names,[],5,[("placed",LV),("nought_places",YB)],["enumerate"],[],["told"],[],false,[],[],["told"],zcl⟩
theorem zd5:Ck zcu YU TU OJ:={}
abbrev Bz(M:Mc)(d:Dr):T:=.tup [.int 0,.str d.e,.lst [],.lst (Fh (C1 M.ws d.n))]
def IL(M:Mc)(d:Dr):List T:=M.nm.map λx=>.lst (if x=d.s then [Bz M d] else [])
theorem zj1{s:Str}{w:T}{l:List Str}{j:Nat}{hj:j<l.length}(e1:l[j]=s)(nd:l.Nodup):(l.map λ_=>T.own []).set j (.own [w])=l.map λx=>.own (if x=s then [w] else []):=by
 refine List.ext_getElem (by simp) λi h1 h2=>?_
 rw[yca]
 by_cases q:i=j
 .subst q;rw[List.getElem_set_self,if_pos e1]
 .rw[List.getElem_set_ne (yao q),yca,if_neg λz=>q ((ybc nd).mp (z.trans e1.symm))]
theorem zky(d:Dr):BF BL BS (BJ d)=some [.str d.s,.str d.e,.lst d.g,.lst (d.n.map T.str),.str d.z]:=(show BF BL BS (BJ d)=(if BL=BL/\BS=BS then some [.str d.s,.str d.e,.lst d.g,.lst (d.n.map T.str),.str d.z] else none) from rfl).trans (if_pos ⟨rfl,rfl⟩)
theorem do_ok{M:Mc}(h:McOk M){d:Dr}(hd:M.ds=[d])(hg:d.g=[])(hz:d.z=""):MA [Ae M]=some (.ok (.osd M.nm (M.nm.map λx=>.own (if x=d.s then [Bz M d] else [])))):=by
 have sm:=E8 h;have nd:M.nm.Nodup:=h.r.nd;have l64:=h.r.l64;have ln:M.nm.length=M.rs.length:=ya1 _;have D:=h.d d (by rw[hd];exact .head _)
 have mr:De [Ae M]=some (.ok (.own (M.nm.map T.str))):=GZ h
 have md:Jh [Ae M]=some (.ok (.own [BJ d])):=by
  have:=zke h;rw[hd]at this;exact this
 have sd:(BJ d).sh=true:=L6 D;have sg:AS d.g=true:=D.g.sh;have pl:Ek [Ae M,.lst []]=some (.ok (.own [])):=NQ h (l:=[]) (wd:=CT) (λ_ h=>by cases h) (λ_ h=>h) (ybg _)
 have np:=np_ok h (d:=d) (by rw[hd];exact .head _)
 have da:Jk [BJ d]=some (.ok (.own [])):=by
  have:=zkz sg;rw[hg]at this;exact this
 obtain⟨j,ej,hj,e1⟩:=JN (ws:=M.nm) (x:=d.s) D.s
 obtain⟨τ,e,y,rfl⟩:=Eh (b:=AE 2) (body:=M1) (ts:=M.nm.map T.str) (τ:=[some (Ae M),some (.osd [] []),none,none,none,none]) (λi τ=>∃y,τ=[some (Ae M),some (.osd (M.nm.take i) ((M.nm.take i).map λ_=>.own [])),y,none,none,none]) ⟨none,rfl⟩ λi t τ h1 h2=>by
  obtain⟨y,rfl⟩:=h2;have hi:i<M.nm.length:=by simpa using (ya3.mp h1).1
  rw[ya8,ya0 hi]at h1;have et:=(yap h1).symm;subst et
  have nk:M.nm[i]∉M.nm.take i:=λz=>by
   obtain⟨j,hj,e⟩:=ycf.mp z;have:=(ybc nd).mp e
   omega
  have lk:(M.nm.take i).length<100000:=by rw[yat];omega
  refine⟨[some (Ae M),some (.osd (M.nm.take i) ((M.nm.take i).map λ_=>.own [])),some (.str M.nm[i]),none,none,none],by simp![],[some (Ae M),some (.osd (M.nm.take i++[M.nm[i]]) ((M.nm.take i).map (λ_=>.own [])++[.own []])),some (.str M.nm[i]),none,none,none],?_,some (.str M.nm[i]),?_⟩
  .unfold M1;generalize M.nm[i]=x at *;generalize M.nm.take i=l at *
   simp![yd9,yda,nk,lk,yem]
  .rw[ybt hi,yb1]
   rfl
 rw[ya1,ycw]at e;have l1:M.nm.length<=100000:=by omega
 have zq:Az (.str d.z) (.str "")=some (.bl true):=by rw[hz];ext
 have ow:Fd (M.nm.map λ_=>T.own []) j=some []:=by
  unfold Fd;rw[ya8,ya0 hj]
  rfl
 have so:=zj1 (w:=Bz M d) e1 nd;have sn:=Km (C1 M.ws d.n);have di:=zky d;generalize BJ d=DD at *
 have w2:Jy [some (Ae M),some (.osd M.nm (M.nm.map λ_=>.own [])),y,some (.int 0),some (DD),none]=some (.nx [some (Ae M),some (.osd M.nm (M.nm.map λx=>.own (if x=d.s then [Bz M d] else []))),y,some (.int 0),some (DD),some (Bz M d)]):=by
  rw[<- so];unfold Bz;unfold Jy;generalize Fh (C1 M.ws d.n)=N at *;generalize (M.nm.map λ_=>T.own [])=L at *
  simp![-BF,-Fd,E9,di,sm,AO _ sm,sd,AO _ sd,zq,da,pl,np,sn,AJ _ sn,ej,ow,yd9,yda]
 unfold MA OJ;have en:DY 0 [DD]=[.tup [.int 0,DD]]:=rfl;have b2:BE 2 (AQ (AE 3) (AQ (AE 4) BG)) (.tup [.int 0,DD]) [some (Ae M),some (.osd M.nm (M.nm.map λ_=>.own [])),y,none,none,none]=some [some (Ae M),some (.osd M.nm (M.nm.map λ_=>.own [])),y,some (.int 0),some (DD),none]:=by simp![sd,AO _ sd]
 have f2:B5 (BE 2 (AQ (AE 3) (AQ (AE 4) BG))) Jy [.tup [.int 0,DD]] [some (Ae M),some (.osd M.nm (M.nm.map λ_=>.own [])),y,none,none,none]=some (.nx [some (Ae M),some (.osd M.nm (M.nm.map λx=>.own (if x=d.s then [Bz M d] else []))),y,some (.int 0),some (DD),some (Bz M d)]):=by
  unfold B5;simp only[b2,w2];unfold B5
  rfl
 generalize (M.nm.map λx=>T.own (if x=d.s then [Bz M d] else []))=L2 at *
 simp![-BF,E9,sm,AO _ sm,mr,md,Ao,Ah,ya1,l1,e,CM,en,sd,AO _ sd,f2]
abbrev SQ:Stmt:=AI 13
def Nf:AH :=
 (AM (m2 (Ca λi j=>decide (i<j)) (m2 CD (Aj (AA 0) (mC (.int 0))) (Aj (AA 1) (mC (.int 1)))) (m2 CD (Aj (AA 1) (mC (.int 0))) (Aj (AA 0) (mC (.int 1))))))
def Gp:List T->Option Ru:=AX 2 2 Nf
abbrev PU:Fn:=⟨1,["one","other"],Gp⟩
abbrev zho:Gm:=gA ["one","other"] SQ 0 [] []
theorem zi2:Ck zho PU SQ Nf:={}
theorem RW{a b c d:Int}(h1:CF a d=true)(h2:CF c b=true):Gp [fr a b,fr c d]=some (.ok (.bl (decide (a * d<c * b)))):=by
 unfold Gp Nf
 simp![h1,h2]
abbrev TM:Stmt:=AI 10
def HE:AG :=
 (m2 Cp (AA 3) (mC (.int 0)))
def M0:AH :=
 (AF (Ac (m2 Bs (AA 2) (AA 3)) (AE 4))
 (AF (Ac (AA 3) (AE 2))
 (Ac (AA 4) (AE 3))))
def OE:AH :=
 (AF (Ac (m1 Hm (AA 0)) (AE 2))
 (AF (Ac (m1 Hm (AA 1)) (AE 3))
 (AF (Ew HE M0)
 (AM (AA 2)))))
def Ly:List T->Option Ru:=AX 2 5 OE
abbrev YR:Fn:=⟨1,["one","other"],Ly⟩
abbrev zab:Gm:=gA ["one","other","greater","lesser","rest"] TM 0 [] ["abs"]
theorem zae:Ck zab YR TM OE:={}
theorem gd_ok(a b:Int):Ly [.int a,.int b]=some (.ok (.int (Zm.gd a b))):=by
 have loop:=zj6 (mc:=HE) (body:=M0)
  (λτ=>∃(g l:Int) (r:Option T),τ=[some (.int a),some (.int b),some (.int g),some (.int l),r]/\0<=g/\0<=l/\Zm.gd g l=Zm.gd a b)
  (λτ=>match τ with|[_,_,_,some (.int l),_]=>l.natAbs|_=>0)
  ⟨_,_,none,rfl,by split<;>omega,by split<;>omega,Zm.gd_abs a b⟩ (by
   rintro τ ⟨g,l,r,rfl,hg,hl,e⟩
   by_cases h0:l=0
   .right;exact⟨false,by unfold HE;simp![Dq,h0]⟩
   .left;refine⟨false,by unfold HE;simp![Dq];simp[h0],[some (.int a),some (.int b),some (.int l),some (.int (g.fmod l)),some (.int (g.fmod l))],by unfold M0;simp![h0],⟨_,_,_,rfl,hl,?_,?_⟩,?_⟩
    .exact yc1 g (by omega)
    .exact Zm.gd_turn e
    .exact Zm.fmod_less g h0)
 obtain⟨τ',e1,⟨g,l,r,rfl,hg,hl,e⟩,bb,e2⟩:=loop
 have hl0 :=by
  have e3:HE [some (.int a),some (.int b),some (.int g),some (.int l),r]=some (.v (.bl (!(l == 0))) false):=by unfold HE;simp![Dq]
  rw[e3]at e2;exact(by simpa using e2:l=0/\bb=false).1
 have hgd:g=Zm.gd a b:=by
  rw[<- e,hl0];unfold Zm.gd;rw[Int.gcd_zero_right]
  omega
 unfold Ly OE
 simp![e1]
 rw[hgd]
abbrev TQ:Stmt:=AI 11
def OH:AH :=
 (AF (A5 (BU (Ax (AN Hr (AB (AA 0) AD))) (Ax (AN Hr (AB (AA 1) AD)))) (By "NoNumber" (AB (mC (.str "a fraction is made of two whole numbers")) AD)) A4)
 (AF (A5 (m2 Az (AA 1) (mC (.int 0))) (By "NoNumber" (AB (mC (.str "the bottom of a fraction is not 0")) AD)) A4)
 (AF (Ac (AN Ly (AB (AA 0) (AB (AA 1) AD))) (AE 2))
 (AF (A5 (m2 (Ca λi j=>decide (i<j)) (AA 1) (mC (.int 0))) (Ac (m1 EK (AA 2)) (AE 2)) A4)
 (AM (BP (AB (m2 B9 (AA 0) (AA 2)) (AB (m2 B9 (AA 1) (AA 2)) AD))))))))
def Lz:List T->Option Ru:=AX 2 3 OH
abbrev YS:Fn:=⟨2,["top","bottom"],Lz⟩
abbrev zdq:Gm:=gA ["top","bottom","divisor"] TQ 1 [("is_whole",P1),("greatest_divisor",YR)] [] (ex:=["NoNumber"])
theorem ze2:Ck zdq YS TQ OH:={}
theorem fr_ok{t b:Int}(hb:0<b)(hs:b<10 ^ 70):Lz [.int t,.int b]=some (.ok (fr (Zm.lt t b) (Zm.lb t b))):=by
 have g0:0<Zm.gd t b:=Zm.gd_pos (by omega)
 have g1:Zm.gd t b<=b:=Zm.gd_le hb;have gs :=CB (by omega) (by omega (config:={}))
 have n0:(b == 0)=false:=by omega
 have n1:decide (b<0)=false:=by omega
 have n2:(Zm.gd t b≠0)=True:=by omega
 unfold Lz OH
 simp![zew,gd_ok,ES,n0,n1,gs,n2]
 rfl
abbrev Sk:Stmt:=AI 12
def Nq:AH :=
 (AM (AN Lz (AB (m2 Er (m2 CD (Aj (AA 0) (mC (.int 0))) (Aj (AA 1) (mC (.int 1)))) (m2 CD (Aj (AA 1) (mC (.int 0))) (Aj (AA 0) (mC (.int 1))))) (AB (m2 CD (Aj (AA 0) (mC (.int 1))) (Aj (AA 1) (mC (.int 1)))) AD))))
def J8:List T->Option Ru:=AX 2 2 Nq
abbrev YG:Fn:=⟨3,["one","other"],J8⟩
abbrev zhp:Gm:=gA ["one","other"] Sk 2 [("fraction",YS)] []
theorem zi3:Ck zhp YG Sk Nq:={}
theorem zhb{a b c d:Int}(hb:0<b)(hd:0<d)(h1:CF a d=true)(h2:CF c b=true)(h3:CF b d=true)(hs:b * d<10 ^ 70):J8 [fr a b,fr c d]=some (.ok (fr (Zm.lt (a * d - c * b) (b * d)) (Zm.lb (a * d - c * b) (b * d)))):=by
 unfold J8 Nq
 simp![h1,h2,h3,fr_ok (t:=a * d - c * b) (Int.mul_pos hb hd) hs]
abbrev Sr:Stmt:=AI 21
def Nt:AH :=
 (AF (A5 (m2 (BQ false) (AA 0) (mC .non)) (AM (mC (.bl true))) A4)
 (AF (Ac (BP (AB (AN Ho (AB (AA 0) AD)) (AB (mC (.int 1)) AD))) (AE 2))
 (AF (A5 (AN Ht (AB (AA 0) AD)) (AM (AN Gp (AB (AA 1) (AB (AA 2) AD)))) A4)
 (AM (Ax (AN Gp (AB (AA 2) (AB (AA 1) AD))))))))
def J9:List T->Option Ru:=AX 2 3 Nt
abbrev YJ:Fn:=⟨2,["bound","value"],J9⟩
abbrev zkt:Gm:=gA ["bound","value","edge"] Sr 1 [("number_of",PY),("is_open",P6),("under",PU)] []
theorem zl4:Ck zkt YJ Sr Nt:={}
theorem zki{c:Db.B}{t b:Int}(hm:∀x,c=some x->CF (x / 2) b=true):J9 [bT c,fr t b]=some (.ok (.bl (Db.satB b c t))):=by
 unfold J9 Nt;cases c with
 |none=>simp![Db.satB]
 |some c =>
  have m1:CF t 1=true:=zk9 (FZ (by decide) (by decide))
  have m2:=hm c rfl;have m3:CF (c / 2) b=true:=m2;have e0:c % 2=0\/c % 2=1:=by omega
  have u1:=RW (a:=t) (b:=b) (c:=c / 2) (d:=1) m1 m2;have u2:=RW (a:=c / 2) (b:=1) (c:=t) (d:=b) m2 m1
  rcases e0 with e|e
  .simp![N1,PB,e,u1]
   show _=Ru.ok (.bl (decide (t<=c / 2 * b - 1+c % 2)));rw[e,Int.mul_one]
   congr 2
   rw[decide_eq_decide]
   omega
  .simp![N1,PB,e,show((1:Int) == 0)=false from rfl,u2]
   show _=Ru.ok (.bl (decide (t<=c / 2 * b - 1+c % 2)));rw[e,Int.mul_one]
   congr 2
   rw[<- decide_not,decide_eq_decide]
   omega
abbrev So:Stmt:=AI 51
def MZ:AH :=
 (A5 (Ax (AN J9 (AB (AA 6) (AB (AN J8 (AB (Aj (AA 2) (AA 3)) (AB (Aj (AA 2) (AA 5)) AD))) AD)))) (AM (mC (.bl false))) A4)
def Jw:AH :=
 (Bo (CM (AB (AA 4) AD)) (BE 2 (AQ (AE 5) (AQ (AE 6) BG))) MZ)
def Ku:AH :=
 (AF (Ac (m2 B7 (BX (BB (BP (AB (mC (.int 0)) (AB (mC (.int 1)) AD))) AD)) (AA 1)) (AE 2))
 (AF (Bo (CM (AB (AA 0) AD)) (BE 2 (AQ (AE 3) (AQ (AE 4) BG))) Jw)
 (AM (mC (.bl true)))))
def Gr:List T->Option Ru:=AX 2 7 Ku
abbrev YI:Fn:=⟨4,["zone","values"],Gr⟩
abbrev zed:Gm:=gA ["zone","values","told","i","row","j","bound"] So 3 [("lets",YJ),("minus",YG)] ["enumerate"]
theorem zen:Ck zed YI So Ku:={}
structure Szv(n:Nat)(p:Nat->Int×Int)(f:Db.Z):Prop where
 pos:∀i,i<n->0<(p i).2
 mul:∀i j,i<n->j<n->CF (p i).1 (p j).2=true/\CF (p i).2 (p j).2=true/\(p i).2 * (p j).2<10 ^ 70
 num:∀i j c,i<n->j<n->f i j=some c->∀b,0<b->b<=(p i).2 * (p j).2->CF (c / 2) b=true
theorem li_ok{m:Nat}(hm:m<=1000){f:Db.Z}{v:Nat->Int×Int}(hz:Szv (m+1) (GG v) f){D:Int}{X:Nat->Int}(hD:0<D)(hX:∀i,i<m+1->X i * (GG v i).2=(GG v i).1 * D) :
  (Db.Lie (m+1) D X f->Gr [zT (m+1) f,vT m v]=some (.ok (.bl true)))/\(¬ Db.Lie (m+1) D X f->Gr [zT (m+1) f,vT m v]=some (.ok (.bl false))):=by
 generalize hp:GG v=p at *;have hc:(fr 0 1)::mT m (λi=>fr (v i).1 (v i).2)=mT (m+1) λi=>fr (p i).1 (p i).2:=by rw[zin,hp]
 have key:∀i j,i<m+1->j<m+1->∃t b,J8 [fr (p i).1 (p i).2,fr (p j).1 (p j).2]=some (.ok (fr t b))/\J9 [bT (f i j),fr t b]=some (.ok (.bl (Db.satB b (f i j) t)))/\(Db.sat b (f i j) t ↔ Db.sat D (f i j) (X i - X j)):=by
  intro i j hi hj;have bi:=hz.pos i hi;have bj:=hz.pos j hj;have q0:=Int.mul_pos bi bj;refine⟨_,_,zhb bi bj (hz.mul i j hi hj).1 (hz.mul j i hj hi).1 (hz.mul i j hi hj).2.1 (hz.mul i j hi hj).2.2,zki λx e=>hz.num i j x hi hj e _ (Zm.lb_pos q0) (Zm.lb_le q0),?_⟩
  refine Db.sat_scale (Zm.lb_pos q0) hD ?_ _;have e1:=Zm.lt_mul (t:=(p i).1 * (p j).2 - (p j).1 * (p i).2) (show(p i).2 * (p j).2≠0 by omega)
  have e2:=Zm.lb_mul (t:=(p i).1 * (p j).2 - (p j).1 * (p i).2) (show(p i).2 * (p j).2≠0 by omega)
  have g0:=Zm.gd_pos (a:=(p i).1 * (p j).2 - (p j).1 * (p i).2) (show(p i).2 * (p j).2≠0 by omega)
  have x1:=hX i hi;have x2:=hX j hj;generalize Zm.lt ((p i).1 * (p j).2 - (p j).1 * (p i).2) ((p i).2 * (p j).2)=T1 at *;generalize Zm.lb ((p i).1 * (p j).2 - (p j).1 * (p i).2) ((p i).2 * (p j).2)=B1 at *;generalize Zm.gd ((p i).1 * (p j).2 - (p j).1 * (p i).2) ((p i).2 * (p j).2)=G at *;refine Int.eq_of_mul_eq_mul_right (show G≠0 by omega) ?_
  rw[yas (X i - X j),e2,yas T1,ybm D G,<- yas T1,e1,Int.sub_mul,Int.sub_mul];have y1:X i * ((p i).2 * (p j).2)=(p i).1 * (p j).2 * D:=by rw[<- yas,x1,yas,ybm D,<- yas]
  have y2:X j * ((p i).2 * (p j).2)=(p j).1 * (p i).2 * D:=by rw[ybm (p i).2,<- yas,x2,yas,ybm D,<- yas]
  rw[y1,y2]
 have l1:1+m<=100000:=by omega
 have loop:=He (b:=BE 2 (AQ (AE 3) (AQ (AE 4) BG))) (body:=Jw) (n:=m+1) (g:=λi=>.tup [.int (i:Int),rT (m+1) (f i)]) (τ:=[some (zT (m+1) f),some (vT m v),some (vT (m+1) p),none,none,none,none]) (λi=>∀j,j<m+1->Db.sat D (f i j) (X i - X j)) (.bl false)
  (λi τ=>∃x y z w,τ=[some (zT (m+1) f),some (vT m v),some (vT (m+1) p),x,y,z,w]) ⟨none,none,none,none,rfl⟩ (by
   rintro i τ hi - ⟨x,y,z,w,rfl⟩;refine⟨_,by simp![];rfl,?_⟩
   have loop2:=He (b:=BE 2 (AQ (AE 5) (AQ (AE 6) BG))) (body:=MZ) (n:=m+1) (g:=λj=>.tup [.int (j:Int),bT (f i j)]) (τ:=[some (zT (m+1) f),some (vT m v),some (vT (m+1) p),some (.int (i:Int)),some (rT (m+1) (f i)),z,w]) (λj=>Db.sat D (f i j) (X i - X j)) (.bl false)
    (λj τ=>∃z w,τ=[some (zT (m+1) f),some (vT m v),some (vT (m+1) p),some (.int (i:Int)),some (rT (m+1) (f i)),z,w]) ⟨z,w,rfl⟩ (by
     rintro j τ hj - ⟨z,w,rfl⟩;refine⟨_,by simp![];rfl,?_⟩
     obtain⟨t,b,k1,k2,k3⟩:=key i j hi hj;unfold MZ
     by_cases h:Db.sat D (f i j) (X i - X j)
     .left;rw[Db.satB_iff.mpr (k3.mpr h)]at k2;exact⟨h,_,.inl (by simp![DJ hi,DJ hj,k1,k2];rfl),_,_,rfl⟩
     .right
      have k4:Db.satB b (f i j) t=false:=by
       cases q:Db.satB b (f i j) t with
       |false=>rfl
       |true=>exact absurd (k3.mp (Db.satB_iff.mp q)) h
      rw[k4]at k2;exact⟨h,by simp![DJ hi,DJ hj,k1,k2]⟩)
   rcases loop2 with ⟨h,τ',e,z,w,rfl⟩|⟨⟨j,hj,h⟩,e⟩
   .left;refine⟨h,_,.inl ?_,some (.int (i:Int)),some (rT (m+1) (f i)),z,w,rfl⟩;unfold Jw
    simp![CM,Gd,e]
   .right;refine⟨λq=>h (q j hj),?_⟩
    unfold Jw
    simp![CM,Gd,e])
 rcases loop with ⟨h,τ',e,x,y,z,w,rfl⟩|⟨⟨i,hi,h⟩,e⟩
 .refine⟨λ_=>?_,λq=>absurd (λi j hi hj=>h i hi j hj) q⟩
  unfold Gr Ku
  simp![CM,Gd,l1,hc,e]
 .refine⟨λq=>absurd (λj hj=>q i j hi hj) h,λ_=>?_⟩
  unfold Gr Ku
  simp![CM,Gd,l1,hc,e]
abbrev SU:Stmt:=AI 28
def Wp:AH :=
 (AF (Ac (BP (AB (AA 2) (AB (mC (.int 1)) AD))) (AE 3))
 (AF (Ac (AN Gp (AB (AA 0) (AB (AA 3) AD))) (AE 4))
 (AF (Ac (AN Gp (AB (AA 3) (AB (AA 0) AD))) (AE 5))
 (AF (A5 (m2 Az (AA 1) (mC (.str "<"))) (AM (AA 4)) A4)
 (AF (A5 (m2 Az (AA 1) (mC (.str "<="))) (AM (Ax (AA 5))) A4)
 (AF (A5 (m2 Az (AA 1) (mC (.str ">"))) (AM (AA 5)) A4)
 (AF (A5 (m2 Az (AA 1) (mC (.str ">="))) (AM (Ax (AA 4))) A4)
 (AM (Ct (Ax (AA 4)) (Ax (AA 5)))))))))))
def Ze:List T->Option Ru:=AX 3 6 Wp
abbrev Xu:Fn:=⟨2,["value","word","number"],Ze⟩
abbrev zcp:Gm:=gA ["value","word","number","edge","less","more"] SU 1 [("under",PU)] []
theorem zd0:Ck zcp Xu SU Wp:={}
abbrev TK:Stmt:=AI 58
def zge:AG :=
 (AN Ze (AB (Aj (AA 3) (m2 Er (AA 0) (mC (.int 1)))) (AB (AA 1) (AB (AA 2) AD))))
def OD:AH :=
 (AM (m1 DB (BA 3 [1] (Ay (AA 0)) (BE 3 (AQ (AE 0) (AQ (AE 1) (AQ (AE 2) BG)))) (mC (.bl true)) zge)))
def Lx:List T->Option Ru:=AX 2 2 OD
abbrev YQ:Fn:=⟨3,["looks","values"],Lx⟩
abbrev zhq:Gm:=gA ["looks","values"] TK 2 [("stands_so",Xu)] ["all"] [] ["values"]
theorem zi4:Ck zhq YQ TK OD:={}
theorem hd0{l:List T}(h:AS l=true):Lx [.lst [],.lst l]=some (.ok (.bl true)):=by
 unfold Lx OD
 simp![h,AJ _ h,BZ,DA,List.all_nil]
abbrev Sj:Stmt:=AI 73
def PD:AG :=
 (m2 Az (AA 0) (AA 2))
def QI:AG :=
 (AN FK (AB (AA 1) AD))
def PC:AG :=
 (m2 (BQ true) (AA 0) (mC .non))
def QH:AG :=
 (AA 0)
def Np:AH :=
 (AF (Ac (BA 2 [1] (Ay (AA 0)) (BE 2 (AQ (AE 0) (AQ (AE 1) BG))) PD QI) (AE 2))
 (AM (BA 1 [] (Ay (AA 2)) (AE 0) PC QH)))
def Ls:List T->Option Ru:=AX 2 3 Np
abbrev YF:Fn:=⟨4,["paper","room"],Ls⟩
abbrev zak:Gm:=gA ["paper","room","told"] Sj 3 [("narrowest",YC)] [] [] ["room"]
theorem zap:Ck zak YF Sj Np:={}
abbrev Ap(Z:T)(x:Str):T:=.tup [.str x,Z]
theorem Yi{r:Str}:∀{ns:List Str},ns.Nodup->r∈ns->ns.filter (λx=>decide (x=r))=[r]
 |[],_,h=>by cases h
 |a::l,nd,h=>by
  rw[ycc]at nd
  by_cases e:a=r
  .subst e
   have e:l.filter (λx=>decide (x=a))=[]:=List.filter_eq_nil_iff.mpr λx hx z=>by
    have z:x=a:=by simpa using z
    exact nd.1 (z▸hx)
   rw[List.filter_cons_of_pos (by simp),e]
  .rw[List.filter_cons_of_neg (by simpa using e)]
   exact Yi nd.2 ((yaa.mp h).resolve_left (yao e))
theorem Fc{Z:T}(h:Z.sh=true)(ns:List Str):AS (ns.map (Ap Z))=true:=Eu λx _=>by simp![h]
theorem nz_ok{Z:T}(hZ:FK [Z]=some (.ok Z))(sZ:Z.sh=true)(nZ:BQ true Z .non=some (.bl true)){ns:List Str}(ht:B0 ns)(nd:ns.Nodup)(hl:ns.length<=1000){r:Str}(hr:r∈ns):Ls [.lst (ns.map (Ap Z)),.str r]=some (.ok (.own [Z])):=by
 have sp:=Fc sZ ns
 have lc:=XD (b:=BE 2 (AQ (AE 0) (AQ (AE 1) BG))) (mt:=PD) (me:=QI) (Ap Z) (λ_=>Z) (λx=>decide (x=r)) (λτ=>∃x y,τ=[x,y,some (.str r)]) ns [none,none,some (.str r)] ⟨_,_,rfl⟩ λx hx τ hI=>by
  obtain⟨a,b,rfl⟩:=hI;have eq:=JT (ht x hx) (ht r hr);refine⟨[some (.str x),some Z,some (.str r)],false,by simp![sZ,AO _ sZ],?_,λ_=>?_,_,_,rfl⟩
  .unfold PD
   simp![eq]
  .unfold QI
   simp![sZ,AO _ sZ,hZ]
 rw[Yi nd hr,yaq,List.map_nil]at lc;have l1:ns.length<=100000:=by omega
 have b2:PC [some Z]=some (.v (.bl true) false):=by
  unfold PC
  simp![-BQ,sZ,AO _ sZ,nZ]
 have c2:QH [some Z]=some (.v Z false):=by
  unfold QH
  simp![sZ]
 unfold Ls Np
 simp![sp,AJ _ sp,ya1,l1,lc,sZ,AO _ sZ,BZ,b2,c2]
abbrev T9:Stmt:=BW 72 0
def Q1:AG :=
 (BP (AB (mC (.int 0)) (AB (mC (.int 1)) AD)))
def M5:AH :=
 (HL A8 Aa 4 0 (AA 3) (AN Ls (AB (AA 2) (AB (AA 3) AD))))
def Ky:AH :=
 (AF (CW A8 Aa 0 0 (Aj (Bf Af Ag De (AA 1) AD) (mC (.int 0))))
 (AF (CW A8 Aa 1 0 (BA 1 [] (Ay (Bf Af Ag Hz (AA 1) AD)) (AE 0) (mC (.bl true)) Q1))
 (AF (CW A8 Aa 2 0 (AN Lp (AB (AA 1) AD)))
 (AF (CW A8 Aa 3 0 (AN MA (AB (AA 1) AD)))
 (AF (CW A8 Aa 4 0 Fl)
 (Bo (Ay (Bf Af Ag De (AA 1) AD)) (AE 3) M5))))))
def Qh:List T->Option Ru:=DU A8 Aa 3 4 Ky
abbrev Pc:Fn:=⟨7,["self","machine","paper"],Qh⟩
abbrev zc3:Gx:={ Bc with mt:=[("rooms",Af,Ag,Hg),("watches",Af,Ag,Pe)],sf:=some (A8,Aa) }
abbrev zc7:Gm:=gA ["self","machine","paper","room"] T9 6 [("placed_stays",Xw),("doors_out",YU),("narrow_zones_of",YF)] [] (ox:=zc3)
theorem zce:Ck zc7 Pc T9 Ky:={}
def Di(M:Mc)(d:Dr)(Z:T):List T:=[.str (M.nm.headD ""),.lst (M.ws.map λ_=>fr 0 1),.obj (.sdc M.nm) (M.nm.map λ_=>.lst []),.obj (.sdc M.nm) (IL M d),.obj (.sdc M.nm) (M.nm.map λ_=>.lst [Z])]
def Et(M:Mc)(d:Dr)(Z:T):T:=.obj (.ins A8 Aa) (Di M d Z)
theorem FU{α:Type}(f g:α->T)(h:∀x,(f x).share=g x)(l:List α):Ar (l.map f)=l.map g:=by
 rw[Cc,yba];exact List.map_congr_left λx _=>h x
theorem RK(M:Mc)(d:Dr):(Bz M d).sh=true:=by
 have:=Km (C1 M.ws d.n)
 simp![this]
theorem zlv{M:Mc}(h:McOk M)(hs:II M){d:Dr}(hd:M.ds=[d])(hg:d.g=[])(hz:d.z=""){Z:T}(hZ:FK [Z]=some (.ok Z))(sZ:Z.sh=true)(nZ:BQ true Z .non=some (.bl true)):Qh [Ae M,.lst (M.nm.map (Ap Z))]=some (.ok (Et M d Z)):=by
 have sm:=E8 h;have nd:M.nm.Nodup:=h.r.nd;have l1:=h.r.l1;have l64:=h.r.l64;have ln:M.nm.length=M.rs.length:=ya1 _;have wl:=h.wl;have mr:De [Ae M]=some (.ok (.own (M.nm.map T.str))):=GZ h;have mw:Hz [Ae M]=some (.ok (.own (M.ws.map T.str))):=Na h;have ps:=zmm h hs;have dt:=do_ok h hd hg hz;have sp:=Fc sZ M.nm
 obtain⟨a,ha,hb⟩:∃a,Au (M.nm.map T.str) 0=some (.str a)/\M.nm.headD ""=a:=by
  cases e:M.nm with
  |nil=>rw[e,ybi]at ln;omega
  |cons a r=>exact⟨a,Gi rfl,rfl⟩
 have lc:=Ed (b:=AE 0) (me:=Q1) T.str (λ_=>fr 0 1) (λτ=>∃x,τ=[x]) M.ws [none] ⟨none,rfl⟩ λx _ τ hI=>by
  obtain⟨y,rfl⟩:=hI;exact⟨[some (.str x)],by simp![],by unfold Q1;simp![],_,rfl⟩
 have w1:M.ws.length<=100000:=by omega
 have r1:M.nm.length<=100000:=by omega
 refine NJ λp=>?_
 have key:∃y,Ky [some (.oob p A8 Aa []),some (Ae M),some (.lst (M.nm.map (Ap Z))),none]=some (.nx [some (.oob p A8 Aa [.str a,.own (M.ws.map λ_=>fr 0 1),.osd M.nm (M.nm.map λ_=>.own []),.osd M.nm (M.nm.map λx=>.own (if x=d.s then [Bz M d] else [])),.osd M.nm (M.nm.map λ_=>.lst [Z])]),some (Ae M),some (.lst (M.nm.map (Ap Z))),y]):=by
  unfold Ky;generalize hw:(M.ws.map λ_=>fr 0 1)=W at *
  generalize hS:(M.nm.map λ_=>T.own [])=SS at *
  generalize hY:(M.nm.map λx=>T.own (if x=d.s then [Bz M d] else []))=Y at *
  obtain⟨τ,e,y,rfl⟩:=Eh (b:=AE 3) (body:=M5) (ts:=M.nm.map T.str) (τ:=[some (.oob p A8 Aa [.str a,.own W,.osd M.nm SS,.osd M.nm Y,.osd [] []]),some (Ae M),some (.lst (M.nm.map (Ap Z))),none]) (λi τ=>∃y,τ=[some (.oob p A8 Aa [.str a,.own W,.osd M.nm SS,.osd M.nm Y,.osd (M.nm.take i) ((M.nm.take i).map λ_=>.lst [Z])]),some (Ae M),some (.lst (M.nm.map (Ap Z))),y]) ⟨none,rfl⟩ λi t τ h1 h2=>by
   obtain⟨y,rfl⟩:=h2;have hi:i<M.nm.length:=by simpa using (ya3.mp h1).1
   rw[ya8,ya0 hi]at h1;have et:=(yap h1).symm;subst et
   have nk:M.nm[i]∉M.nm.take i:=λz=>by
    obtain⟨j,hj,e⟩:=ycf.mp z;have:=(ybc nd).mp e
    omega
   have lk:(M.nm.take i).length<100000:=by rw[yat];omega
   have nz:=nz_ok hZ sZ nZ (ns:=M.nm) h.tn nd (by omega) (yb5 hi)
   refine⟨[some (.oob p A8 Aa [.str a,.own W,.osd M.nm SS,.osd M.nm Y,.osd (M.nm.take i) ((M.nm.take i).map λ_=>.lst [Z])]),some (Ae M),some (.lst (M.nm.map (Ap Z))),some (.str M.nm[i])],by simp![],[some (.oob p A8 Aa [.str a,.own W,.osd M.nm SS,.osd M.nm Y,.osd (M.nm.take i++[M.nm[i]]) ((M.nm.take i).map (λ_=>.lst [Z])++[.lst [Z]])]),some (Ae M),some (.lst (M.nm.map (Ap Z))),some (.str M.nm[i])],?_,some (.str M.nm[i]),?_⟩
   .unfold M5;generalize M.nm[i]=x at *;generalize M.nm.take i=l at *;generalize M.nm.map (Ap Z)=PP at *
    simp![sp,AJ _ sp,nz,nk,lk,yem,sZ,AO _ sZ]
   .rw[ybt hi,yb1]
    rfl
  rw[ya1,ycw]at e;refine⟨y,?_⟩;generalize M.nm.map (Ap Z)=PP at *;refine sq (τ':=[some (.oob p A8 Aa [.str a]),some (Ae M),some (.lst PP),none]) (by simp![-BF,E9,sm,AO _ sm,mr,ha,Ao,Ah]) ?_
  refine sq (τ':=[some (.oob p A8 Aa [.str a,.own W]),some (Ae M),some (.lst PP),none]) (by simp![-BF,E9,sm,AO _ sm,mw,Ao,Ah,ya1,w1,lc]) ?_
  refine sq (τ':=[some (.oob p A8 Aa [.str a,.own W,.osd M.nm SS]),some (Ae M),some (.lst PP),none]) (by simp![sm,AO _ sm,ps]) ?_
  refine sq (τ':=[some (.oob p A8 Aa [.str a,.own W,.osd M.nm SS,.osd M.nm Y]),some (Ae M),some (.lst PP),none]) (by simp![sm,AO _ sm,dt]) ?_
  refine sq (τ':=[some (.oob p A8 Aa [.str a,.own W,.osd M.nm SS,.osd M.nm Y,.osd [] []]),some (Ae M),some (.lst PP),none]) (by simp![]) ?_
  simp![-BF,E9,sm,AO _ sm,mr,Ao,Ah,ya1,r1,e]
 obtain⟨y,key⟩:=key;unfold Ey;have e1:Ar (M.ws.map λ_=>fr 0 1)=M.ws.map λ_=>fr 0 1:=FU _ _ (λ_=>rfl) _
 have e2:Ar (M.nm.map λ_=>T.own [])=M.nm.map λ_=>.lst []:=FU _ _ (λ_=>rfl) _
 have e3:Ar (M.nm.map λx=>T.own (if x=d.s then [Bz M d] else []))=IL M d:=FU _ _ (λx=>by
  split
  .have:=RK M d;rw[T.share,Ar,AO _ this]
   rfl
  .rfl) _
 have e4:Ar (M.nm.map λ_=>T.lst [Z])=M.nm.map λ_=>.lst [Z]:=FU _ _ (λ_=>by rw[T.share,Ar,AO _ sZ];rfl) _
 unfold Et Di;rw[hb]
 simp![key,e1,e2,e3,e4]
abbrev Te:Stmt:=BW 72 1
def Q2:AG :=
 (AN Gr (AB (AA 0) (AB (Al A8 Aa 1 (AA 1)) AD)))
def OY:AH :=
 (AF (A5 (Ax (AN Lx (AB (DL (Bt (Al Af Ag 1 (AA 0)) (Al A8 Aa 2 (AA 0))) (Al A8 Aa 0 (AA 0))) (AB (Al A8 Aa 1 (AA 0)) AD)))) (AM (mC (.bl true))) A4)
 (AM (m1 Hl (BA 1 [0] (Ay (DL (Al A8 Aa 4 (AA 0)) (Al A8 Aa 0 (AA 0)))) (AE 0) (mC (.bl true)) Q2))))
def MI:List T->Option Ru:=AX 1 1 OY
abbrev Y3:Fn:=⟨5,["self"],MI⟩
abbrev za6:Gx:={ Bc with cl:=[("Machine",Af,Ag),("Sheet",A8,Aa)] }
abbrev za7:Gm:=gA ["self"] Te 4 [("holds",YQ),("lies_in",YI)] ["any"] [] ["self"] (ox:=za6)
theorem za8:Ck za7 Y3 Te OY:={}
theorem HR(n:Nat):Db.Nar n Db.free:=by
 refine⟨λi _=>if_pos (.inr rfl),λj _=>?_,λi j l _ _ _=>?_⟩
 .rw[show Db.free 0 j=some 1 from if_pos (.inl rfl)];exact Db.le_refl _
 .unfold Db.free
  by_cases a:i=0\/i=l
  .rw[if_pos a]
   by_cases b:l=0\/l=j
   .rw[if_pos b,if_pos (by omega),Db.add_one]
    exact Db.le_refl _
   .rw[if_neg b,Db.add_comm];exact Dm.le_none _
  .rw[if_neg a];exact Dm.le_none _
theorem znq{n:Nat}{f:Db.Z}(h:Db.Nar n f):∀i j,i<n->j<n->Db.le (f i j) (Db.free i j):=λi j hi hj=>by
 unfold Db.free;split
 .rename_i q
  rcases q with rfl|rfl
  .exact h.row j hj
  .rw[h.diag i hi];exact Db.le_refl _
 .exact Dm.le_none _
abbrev Zf(m:Nat):T:=zT (m+1) Db.free
theorem zld{m:Nat}(hm:m<=500):FK [Zf m]=some (.ok (Zf m)):=by
 have:=(znk (n:=m+1) (by omega) Db.free).1 (Db.nar_sound (HR _))
 rw[RC (g:=Db.free) λi j hi hj=>Db.nar_fw (HR _) _ (ya9 _) i j hi hj]at this
 exact this
theorem RB{m:Nat}{f:Db.Z}(h:Db.Nar (m+1) f):GA [zT (m+1) f,Zf m]=some (.ok (.bl true)):=(wi_ok f Db.free).1 (znq h)
theorem ziw(M:Mc)(d:Dr)(Z:T):BF A8 Aa (Et M d Z)=some (Di M d Z):=(show BF A8 Aa (Et M d Z)=(if A8=A8/\Aa=Aa then some (Di M d Z) else none) from rfl).trans (if_pos ⟨rfl,rfl⟩)
theorem zlw(M:Mc)(d:Dr)(Z:T):BF Af Ag (Et M d Z)=none:=(show BF Af Ag (Et M d Z)=(if A8=Af/\Aa=Ag then some (Di M d Z) else none) from rfl).trans (if_neg λz=>by
 have:=z.1
 revert this
 decide)
structure ShK(M:Mc)(d:Dr)(Z S:T):Prop where
 i:BF A8 Aa S=some (Di M d Z)
 n:BF Af Ag S=none
 s:S.sh=true
 v:AS (M.ws.map λ_=>fr 0 1)=true
 t:AS (M.nm.map λ_=>T.lst [])=true
 w:AS (IL M d)=true
 z:AS (M.nm.map λ_=>T.lst [Z])=true
theorem shK(M:Mc)(d:Dr){Z:T}(sZ:Z.sh=true):ShK M d Z (Et M d Z):=by
 have e1:AS (M.ws.map λ_=>fr 0 1)=true:=Eu λ_ _=>rfl
 have e2:AS (M.nm.map λ_=>T.lst [])=true:=Eu λ_ _=>rfl
 have e3:AS (IL M d)=true:=Eu λx _=>by
  have:=Km (C1 M.ws d.n);split
  .simp![this]
  .rfl
 have e4:AS (M.nm.map λ_=>T.lst [Z])=true:=Eu λ_ _=>by simp![sZ]
 refine⟨ziw M d Z,zlw M d Z,?_,e1,e2,e3,e4⟩;unfold Et Di
 simp![e1,e2,e3,e4]
theorem Ft{m mk:AG}{τ:AL}{ks:List Str}{f:Str->T}{r:Str}{b b2:Bool}(h1:m τ=some (.v (.obj (.sdc ks) (ks.map f)) b))(h2:mk τ=some (.v (.str r) b2))(hr:r∈ks)(hf:(f r).sh=true):DL m mk τ=some (.v (f r) false):=by
 obtain⟨j,ej,hj,e⟩:=JN hr;have e2:(ks.map f)[j]?=some (f r):=by rw[ya8,ya0 hj,e];rfl
 unfold DL;simp only[h1,h2,ej,e2,hf,ye4]
theorem Wb{M:Mc}(h:McOk M):M.nm.headD ""∈M.nm:=by
 have l1:=h.r.l1;have ln:M.nm.length=M.rs.length:=ya1 _;cases e:M.nm with
 |nil=>rw[e,ybi]at ln;omega
 |cons a r=>exact .head _
theorem li0{m:Nat}(hm:m<=500):Gr [Zf m,vT m λ_=>(0,1)]=some (.ok (.bl true)):=by
 have z1:∀i,GG (λ_=>(0,1)) i=(0,1):=λi=>by cases i<;>rfl
 have m0:∀b,CF 0 b=true:=λb=>HS (FZ (by decide) (by decide))
 refine(li_ok (m:=m) (by omega) (f:=Db.free) (v:=λ_=>(0,1)) ⟨λi _=>?_,λi j _ _=>?_,λi j c _ _ e b b0 bl=>?_⟩ (D:=1) (X:=λ_=>0) (by decide) λi _=>?_).1 λi j _ _=>?_
 .rw[z1];decide
 .rw[z1,z1];exact⟨m0 _,HS (FZ (by decide) (by decide)),by decide⟩
 .unfold Db.free at e;split at e
  .cases e;exact m0 _
  .cases e
 .rw[z1]
 .unfold Db.free;split
  .exact Db.satB_iff.mp (show Db.satB 1 (some 1) (0 - 0)=true by decide)
  .trivial
theorem vs_eq(l:List Str):T.lst (l.map λ_=>fr 0 1)=vT l.length λ_=>(0,1):=by
 show T.lst _=T.lst ((List.range l.length).map λ_=>fr 0 1)
 rw[List.map_const',List.map_const',ycp]
section
variable {M:Mc}{d:Dr}{Z S:T}(k:ShK M d Z S)
include k
theorem ShK.f0{τ:AL}{m:AG}{b:Bool}(e:m τ=some (.v S b)):Al A8 Aa 0 m τ=some (.v (.str (M.nm.headD "")) false):=by simp![-BF,e,k.i,Di]
theorem ShK.f1{τ:AL}{m:AG}{b:Bool}(e:m τ=some (.v S b)):Al A8 Aa 1 m τ=some (.v (.lst (M.ws.map λ_=>fr 0 1)) false):=by simp![-BF,e,k.i,Di,k.v]
theorem ShK.f2{τ:AL}{m:AG}{b:Bool}(e:m τ=some (.v S b)):Bt (Al Af Ag 1 m) (Al A8 Aa 2 m) τ=some (.v (.obj (.sdc M.nm) (M.nm.map λ_=>.lst [])) false):=by simp![-BF,e,k.i,k.n,Di,k.t]
theorem ShK.f3{τ:AL}{m:AG}{b:Bool}(e:m τ=some (.v S b)):Al A8 Aa 3 m τ=some (.v (.obj (.sdc M.nm) (IL M d)) false):=by simp![-BF,e,k.i,Di,k.w]
theorem ShK.f4{τ:AL}{m:AG}{b:Bool}(e:m τ=some (.v S b)):Al A8 Aa 4 m τ=some (.v (.obj (.sdc M.nm) (M.nm.map λ_=>.lst [Z])) false):=by simp![-BF,e,k.i,Di,k.z]
end
theorem hs_ok{M:Mc}(h:McOk M){d:Dr}{S:T}(k:ShK M d (Zf M.ws.length) S):MI [S]=some (.ok (.bl true)):=by
 have hm:=h.wl;have sS:=k.s;have sZ:(Zf M.ws.length).sh=true:=DC _ _;have li:=li0 (m:=M.ws.length) (by omega)
 rw[<- vs_eq]at li;have v0:AA 0 [some S]=some (.v S false):=by simp![sS]
 have g2:=Ft (f:=λ_=>T.lst []) (k.f2 v0) (k.f0 v0) (Wb h) rfl
 have g4:=Ft (f:=λ_=>T.lst [Zf M.ws.length]) (k.f4 v0) (k.f0 v0) (Wb h) (by simp![sZ])
 have c3:Q2 [some (Zf M.ws.length),some S]=some (.v (.bl true) false):=by
  have v1:AA 1 [some (Zf M.ws.length),some S]=some (.v S false):=by simp![sS]
  have f1:=k.f1 v1;unfold Q2;have sv:=k.v;generalize (M.ws.map λ_=>fr 0 1)=V at *
  generalize Zf M.ws.length=Z at *
  simp![sZ,AO _ sZ,-Al,f1,sv,AJ _ sv,li]
 have f1:=k.f1 v0;have sv:=k.v;have h0:=hd0 sv;unfold MI OY;generalize (M.ws.map λ_=>fr 0 1)=V at *
 generalize Zf M.ws.length=Z at *
 simp![-Al,-Bt,g2,f1,sv,AJ _ sv,h0,g4,sZ,AO _ sZ,BZ,sS,AO _ sS,c3,DA,ycu,id_eq]
abbrev Ta:Stmt:=BW 72 2
def M6:AH :=
 (A5 (AN GA (AB (AA 2) (AB (AA 3) AD))) (AM (mC (.bl true))) A4)
def OV:AH :=
 (AF (A5 (m2 (BQ false) (AA 2) (mC .non)) (AM (mC (.bl true))) A4)
 (AF (Bo (Ay (DL (Al A8 Aa 4 (AA 0)) (AA 1))) (AE 3) M6)
 (AM (mC (.bl false)))))
def Jf:List T->Option Ru:=AX 3 4 OV
abbrev Pd:Fn:=⟨3,["self","room","zone"],Jf⟩
abbrev za3:Gx:={ Bc with cl:=[("Sheet",A8,Aa)] }
abbrev za4:Gm:=gA ["self","room","zone","other"] Ta 2 [("within",Xr)] [] (ox:=za3)
theorem za5:Ck za4 Pd Ta OV:={}
theorem Xa{M:Mc}{d:Dr}{Z S:T}(k:ShK M d Z S)(sZ:Z.sh=true){r:Str}(hr:r∈M.nm){t:T}(st:t.sh=true)(nt:BQ false t .non=some (.bl false))(wt:GA [t,Z]=some (.ok (.bl true))):Jf [S,.str r,t]=some (.ok (.bl true)):=by
 have sS:=k.s;have v0:AA 0 [some S,some (.str r),some t,none]=some (.v S false):=by simp![sS]
 have v1:AA 1 [some S,some (.str r),some t,none]=some (.v (.str r) false):=by simp![]
 have g4:=Ft (f:=λ_=>T.lst [Z]) (k.f4 v0) v1 hr (by simp![sZ])
 have w:M6 [some S,some (.str r),some t,some Z]=some (.rt (.bl true)):=by
  unfold M6
  simp![st,AO _ st,sZ,AO _ sZ,wt]
 unfold Jf OV
 simp![-Al,-BQ,st,AO _ st,nt,g4,sZ,AO _ sZ,B5,w]
abbrev Td:Stmt:=BW 72 3
def OX:AH :=
 (AM (Bf A8 Aa Jf (AA 0) (AB (AA 1) (AB (AN EB (AB (AN J4 (AB (AA 2) AD)) (AB (DL (Bt (Al Af Ag 1 (AA 0)) (Al A8 Aa 2 (AA 0))) (AA 1)) AD))) AD))))
def MH:List T->Option Ru:=AX 3 3 OX
abbrev Y2:Fn:=⟨5,["self","room","zone"],MH⟩
abbrev za9:Gx:={ Bc with cl:=[("Machine",Af,Ag),("Sheet",A8,Aa)],mt:=[("holds_within",A8,Aa,Pd)] }
abbrev zac:Gm:=gA ["self","room","zone"] Td 4 [("met",LW),("waited",Xs)] [] (ox:=za9)
theorem zaf:Ck zac Y2 Td OX:={}
theorem Kn{m:Nat}(hm:m<=500){f:Db.Z}(hf:Db.Nar (m+1) f):EB [zT (m+1) f,.lst []]=some (.ok (zT (m+1) f)):=(We (K:=0) hm hf (l:=λ_=>(0,0,0)) λk hk=>absurd hk (Nat.not_lt_zero k)).1 f rfl
theorem Kj(n:Nat)(f:Db.Z):BQ false (zT n f) .non=some (.bl false):=rfl
theorem zoc{M:Mc}(h:McOk M){d:Dr}{S:T}(k:ShK M d (Zf M.ws.length) S){r:Str}(hr:r∈M.nm):MH [S,.str r,Zf M.ws.length]=some (.ok (.bl true)):=by
 have hm:=h.wl;have sS:=k.s;have sZ:(Zf M.ws.length).sh=true:=DC _ _;have nw:=Dm.wtd_nar (HR (M.ws.length+1));have wa:J4 [Zf M.ws.length]=some (.ok (.own (oZ (M.ws.length+1) (Dm.wtd Db.free)))):=zlg (m:=M.ws.length) (by omega) Db.free
 have e:(T.own (oZ (M.ws.length+1) (Dm.wtd Db.free))).share=zT (M.ws.length+1) (Dm.wtd Db.free):=by rw[T.share,NU]
 have mt:=Kn (m:=M.ws.length) (by omega) nw
 have hw:=Xa k sZ hr (DC _ _) (Kj _ _) (RB nw);have v0:AA 0 [some S,some (.str r),some (Zf M.ws.length)]=some (.v S false):=by simp![sS]
 have v1:AA 1 [some S,some (.str r),some (Zf M.ws.length)]=some (.v (.str r) false):=by simp![]
 have g2:=Ft (f:=λ_=>T.lst []) (k.f2 v0) v1 hr rfl
 have sw:(zT (M.ws.length+1) (Dm.wtd Db.free)).sh=true:=DC _ _;have ii:=k.i;generalize zT (M.ws.length+1) (Dm.wtd Db.free)=W at *;generalize T.own (oZ (M.ws.length+1) (Dm.wtd Db.free))=O at *;unfold MH OX;generalize Zf M.ws.length=Z at *
 simp![-Al,-Bt,-BF,ii,sS,AO _ sS,sZ,AO _ sZ,wa,e,g2,mt,sw,AO _ sw,hw]
abbrev Tc:Stmt:=BW 72 4
def OW:AH :=
 (AF (Ac (Aj (AA 2) (mC (.int 1))) (AE 3))
 (AF (Ac (AN EB (AB (AA 1) (AB (Aj (AA 2) (mC (.int 2))) AD))) (AE 4))
 (AF (A5 (m2 (BQ false) (AA 4) (mC .non)) (AM (mC (.bl true))) A4)
 (AM (Bf A8 Aa Jf (AA 0) (AB (AA 3) (AB (AN EB (AB (AN J6 (AB (AA 4) (AB (Aj (AA 2) (mC (.int 3))) AD))) (AB (DL (Bt (Al Af Ag 1 (AA 0)) (Al A8 Aa 2 (AA 0))) (AA 3)) AD))) AD)))))))
def MG:List T->Option Ru:=AX 3 5 OW
abbrev Y1:Fn:=⟨5,["self","zone","way"],MG⟩
abbrev zai:Gx:={ Bc with cl:=[("Machine",Af,Ag),("Sheet",A8,Aa)],mt:=[("holds_within",A8,Aa,Pd)] }
abbrev zan:Gm:=gA ["self","zone","way","end","left"] Tc 4 [("met",LW),("put_back",Xv)] [] (ox:=zai)
theorem zas:Ck zan Y1 Tc OW:={}
theorem zob{M:Mc}(h:McOk M){d:Dr}(hd:M.ds=[d]){S:T}(k:ShK M d (Zf M.ws.length) S):MG [S,Zf M.ws.length,Bz M d]=some (.ok (.bl true)):=by
 have hm:=h.wl;have sS:=k.s;have D:=h.d d (by rw[hd];exact .head _)
 have hr:d.e∈M.nm:=D.e;have sZ:(Zf M.ws.length).sh=true:=DC _ _;have nf:=HR (M.ws.length+1);have m1:EB [Zf M.ws.length,.lst []]=some (.ok (Zf M.ws.length)):=Kn (m:=M.ws.length) (by omega) nf
 have pb:=pb_ok (n:=M.ws.length+1) (by omega) (by omega) Db.free (C1 M.ws d.n)
 have np:Db.Nar (M.ws.length+1) (Dm.pbk Db.free (Bq (C1 M.ws d.n))):=Dm.pbk_nar nf (λi hi=>by unfold Bq;split<;>omega) (by unfold Bq;split<;>rfl)
 have e:(T.own (oZ (M.ws.length+1) (Dm.pbk Db.free (Bq (C1 M.ws d.n))))).share=zT (M.ws.length+1) (Dm.pbk Db.free (Bq (C1 M.ws d.n))):=by rw[T.share,NU]
 have mt:=Kn (m:=M.ws.length) (by omega) np
 have hw:=Xa k sZ hr (DC _ _) (Kj _ _) (RB np);have sw:(zT (M.ws.length+1) (Dm.pbk Db.free (Bq (C1 M.ws d.n)))).sh=true:=DC _ _;have sn:=Km (C1 M.ws d.n);have nZ:BQ false (Zf M.ws.length) .non=some (.bl false):=Kj _ _;have pb:J6 [Zf M.ws.length,.lst (Fh (C1 M.ws d.n))]=some (.ok (.own (oZ (M.ws.length+1) (Dm.pbk Db.free (Bq (C1 M.ws d.n)))))):=pb;have ii:=k.i;have v0:AA 0 [some S,some (Zf M.ws.length),some (Bz M d),some (.str d.e),some (Zf M.ws.length)]=some (.v S false):=by simp![sS]
 have v3:AA 3 [some S,some (Zf M.ws.length),some (Bz M d),some (.str d.e),some (Zf M.ws.length)]=some (.v (.str d.e) false):=by simp![]
 have g2:=Ft (f:=λ_=>T.lst []) (k.f2 v0) v3 hr rfl
 generalize zT (M.ws.length+1) (Dm.pbk Db.free (Bq (C1 M.ws d.n)))=W at *;generalize T.own (oZ (M.ws.length+1) (Dm.pbk Db.free (Bq (C1 M.ws d.n))))=O at *;have a3:∀N,Au [T.int 0,T.str d.e,T.lst [],T.lst N] 3=some (T.lst N):=λN=>Fx (by decide) rfl
 unfold MG OW;unfold Bz at *;generalize Fh (C1 M.ws d.n)=N at *;generalize Zf M.ws.length=Z at *
 simp![-Al,-Bt,-BF,-BQ,a3,ii,sS,AO _ sS,sZ,AO _ sZ,sn,AJ _ sn,m1,nZ,pb,e,g2,mt,sw,AO _ sw,hw]
abbrev Tf:Stmt:=BW 72 5
def Q3:AG :=
 (Bf A8 Aa MG (AA 1) (AB (AA 2) (AB (AA 0) AD)))
def M7:AH :=
 (AF (A5 (Ax (Bf A8 Aa MH (AA 0) (AB (AA 1) (AB (AA 2) AD)))) (AM (mC (.bl false))) A4)
 (A5 (Ax (m1 DB (BA 1 [0,2] (Ay (DL (Al A8 Aa 3 (AA 0)) (AA 1))) (AE 0) (mC (.bl true)) Q3))) (AM (mC (.bl false))) A4))
def OZ:AH :=
 (AF (Bo (Ay (DL (Al A8 Aa 4 (AA 0)) (AA 1))) (AE 2) M7)
 (AM (mC (.bl true))))
def MJ:List T->Option Ru:=AX 2 3 OZ
abbrev Y4:Fn:=⟨6,["self","room"],MJ⟩
abbrev zaa:Gx:={ Bc with cl:=[("Sheet",A8,Aa)],mt:=[("holds_wait",A8,Aa,Y2),("holds_way",A8,Aa,Y1)] }
abbrev zad:Gm:=gA ["self","room","zone"] Tf 5 [] ["all"] [] ["self","zone"] (ox:=zaa)
theorem zag:Ck zad Y4 Tf OZ:={}
theorem hr_ok{M:Mc}(h:McOk M){d:Dr}(hd:M.ds=[d]){S:T}(k:ShK M d (Zf M.ws.length) S){r:Str}(hr:r∈M.nm):MJ [S,.str r]=some (.ok (.bl true)):=by
 have sS:=k.s;have sZ:(Zf M.ws.length).sh=true:=DC _ _;have wt:=zoc h k hr;have wy:=zob h hd k;have sw:=RK M d;have ii:=k.i;generalize Zf M.ws.length=Z at *;have v0:AA 0 [some S,some (.str r),some Z]=some (.v S false):=by simp![sS]
 have v1:AA 1 [some S,some (.str r),some Z]=some (.v (.str r) false):=by simp![]
 have u0:AA 0 [some S,some (.str r),none]=some (.v S false):=by simp![sS]
 have u1:AA 1 [some S,some (.str r),none]=some (.v (.str r) false):=by simp![]
 have g4:=Ft (f:=λ_=>T.lst [Z]) (k.f4 u0) u1 hr (by simp![sZ])
 have g3:=Ft (f:=λx=>T.lst (if x=d.s then [Bz M d] else [])) (k.f3 v0) v1 hr (by
  split
  .exact(show((!false) && ((Bz M d).sh && true))=true by rw[sw];rfl)
  .rfl)
 have c4:Q3 [some (Bz M d),some S,some Z]=some (.v (.bl true) false):=by
  unfold Q3;generalize Bz M d=W at *
  simp![-BF,ii,sS,AO _ sS,sZ,AO _ sZ,sw,AO _ sw,wy]
 have w1:M7 [some S,some (.str r),some Z]=some (.nx [some S,some (.str r),some Z]):=by
  unfold M7
  by_cases q:r=d.s
  .rw[if_pos q]at g3;generalize Bz M d=W at *
   simp![-Al,-BF,ii,sS,AO _ sS,sZ,AO _ sZ,sw,AO _ sw,wt,g3,BZ,c4,DA,ybw,List.all_nil,id_eq]
  .rw[if_neg q]at g3
   simp![-Al,-BF,ii,sS,AO _ sS,sZ,AO _ sZ,wt,g3,BZ,DA,List.all_nil]
 unfold MJ OZ
 simp![-Al,g4,sZ,AO _ sZ,B5,w1]
abbrev T8:Stmt:=BW 72 6
def Q0:AG :=
 (m2 (BQ false) (AN EB (AB (AA 0) (AB (AA 1) AD))) (mC .non))
def OU:AH :=
 (AM (m1 DB (BA 1 [2] (Ay (DL (Al A8 Aa 4 (AA 0)) (AA 1))) (AE 0) (mC (.bl true)) Q0)))
def MF:List T->Option Ru:=AX 3 3 OU
abbrev Y0:Fn:=⟨5,["self","room","looks"],MF⟩
abbrev zah:Gx:={ Bc with cl:=[("Sheet",A8,Aa)] }
abbrev zam:Gm:=gA ["self","room","looks"] T8 4 [("met",LW)] ["all"] [] ["looks"] (ox:=zah)
theorem zar:Ck zam Y0 T8 OU:={}
def Ep(l:Nat×Nat×Int):Int:=match l.2.1 with
 |0=>0
 |1=>0
 |2=>l.2.2+1
 |_=>l.2.2
theorem zhc{m:Nat}{l:Nat×Nat×Int}(hl:Look m l)(h1:1<=l.2.2):∃f,Dk.met (Cu l) Db.free=some f:=by
 have nf:=HR (m+1);have hi:=Ol hl;cases e:Dk.met (Cu l) Db.free with
 |some f=>exact⟨f,rfl⟩
 |none =>
  exfalso
  have p1:=hl.1;have v0:0<=Ep l:=by unfold Ep;split<;>omega
  have X0:(λi=>if i=l.1 then Ep l else 0) 0=0:=if_neg (by omega)
  have Xp:∀i,0<=(λi=>if i=l.1 then Ep l else 0) i:=λi=>by simp only;split<;>omega
  refine(Dk.met_fw nf hi).2 e (Db.lie_sound (D:=1) (X:=λi=>if i=l.1 then Ep l else 0) (by decide) X0 (λi _=>Xp i) ((Dk.lie_puts (by decide) (Cu l) Db.free hi).mpr ⟨λi j _ _=>?_,λx hx=>?_⟩))
  .unfold Db.free;split
   .rename_i q;show _<=(1:Int) / 2 * 1 - 1+1 % 2
    rcases q with rfl|rfl
    .rw[X0];have:=Xp j
     omega
    .omega
   .trivial
  .obtain⟨p,w,n⟩:=l;obtain⟨_,_,hw⟩:=hl;have pp:(λi=>if i=p then Ep (p,w,n) else 0) p=Ep (p,w,n):=if_pos rfl
   have hw:w<5:=hw;have h1:1<=n:=h1;have:w=0\/w=1\/w=2\/w=3\/w=4:=by omega
   rcases this with rfl|rfl|rfl|rfl|rfl<;>simp only[Cu,yaa,yar,yed]at hx
   all_goals first
    |(subst hx;show _<=_;simp only at X0 pp ⊢;rw[X0,pp];simp only[Ep];omega)
    |(rcases hx with rfl|rfl<;>show _<=_<;>simp only at X0 pp ⊢<;>rw[X0,pp]<;>simp only[Ep]<;>omega)
theorem ko_ok{M:Mc}(h:McOk M){d:Dr}{S:T}(k:ShK M d (Zf M.ws.length) S){r:Str}(hr:r∈M.nm){L:List T}(hL:L=[]\/∃l,Look M.ws.length l/\1<=l.2.2/\L=[DW l]):MF [S,.str r,.lst L]=some (.ok (.bl false)):=by
 have hm:=h.wl;have sS:=k.s;have sZ:(Zf M.ws.length).sh=true:=DC _ _;have nf:=HR (M.ws.length+1)
 have sL:AS L=true:=by
  rcases hL with rfl|⟨l,_,_,rfl⟩<;>rfl
 obtain⟨f,mt⟩:∃f,EB [Zf M.ws.length,.lst L]=some (.ok (zT (M.ws.length+1) f)):=by
  rcases hL with rfl|⟨l,h1,h2,rfl⟩
  .exact⟨_,Kn (by omega) nf⟩
  .obtain⟨f,e⟩:=zhc h1 h2;exact⟨f,(We (K:=1) (m:=M.ws.length) (by omega) nf (l:=λ_=>l) λ_ _=>h1).1 f e⟩
 have nz:=Kj (M.ws.length+1) f;have sf:(zT (M.ws.length+1) f).sh=true:=DC _ _;generalize zT (M.ws.length+1) f=F at *;generalize Zf M.ws.length=Z at *;have v0:AA 0 [some S,some (.str r),some (.lst L)]=some (.v S false):=by simp![sS]
 have v1:AA 1 [some S,some (.str r),some (.lst L)]=some (.v (.str r) false):=by simp![]
 have g4:=Ft (f:=λ_=>T.lst [Z]) (k.f4 v0) v1 hr (by simp![sZ])
 have c1:Q0 [some Z,some (.lst L)]=some (.v (.bl false) false):=by
  unfold Q0
  simp![-BQ,sZ,AO _ sZ,sL,AJ _ sL,mt,sf,AO _ sf,nz]
 unfold MF OU
 simp![-Al,g4,sL,AJ _ sL,sZ,AO _ sZ,BZ,c1,DA,ybw,id_eq]
abbrev Sq:Stmt:=AI 74
def QL:AG :=
 (m2 C6 (AA 0) (AA 2))
def QK:AG :=
 (Bf A8 Aa MF (AA 2) (AB (AA 0) (AB (AA 1) AD)))
def QJ:AG :=
 (Bf A8 Aa MJ (AA 1) (AB (AA 0) AD))
def HV:AH :=
 (AF (Ac (AN Ej (AB (AA 0) (AB (AA 1) AD))) (AE 3))
 (AF (Ac (Bf Af Ag De (AA 0) AD) (AE 4))
 (AF (A5 (Ax (m1 DB (BA 2 [4] (Ay (AA 2)) (BE 2 (AQ (AE 0) (AQ (AE 1) BG))) (mC (.bl true)) QL))) (By "NoRoom" (AB (mC (.str "a paper tells of the machine's rooms")) AD)) A4)
 (AF (Ac (G4 Qh [] (AB (AA 0) (AB (AA 2) AD))) (AE 5))
 (AF (A5 (BU (Ax (Bf A8 Aa MI (AA 5) AD)) (Ax (m1 DB (BA 2 [5] (Ay (AA 3)) (BE 2 (AQ (AE 0) (AQ (AE 1) BG))) (mC (.bl true)) QK)))) (AM (mC (.bl false))) A4)
 (AM (m1 DB (BA 1 [5] (Ay (AA 4)) (AE 0) (mC (.bl true)) QJ))))))))
def Dd:List T->Option Ru:=AX 3 6 HV
abbrev PZ:Fn:=⟨9,["machine","goal","paper"],Dd⟩
abbrev zec:Gx:={ Bc with mt:=[("rooms",Af,Ag,Hg),("holds_start",A8,Aa,Y3),("keeps_off",A8,Aa,Y0),("holds_room",A8,Aa,Y4)],nw:=[("Sheet",Pc,[(2,[])])] }
abbrev zee:Gm:=gA ["machine","goal","paper","marks","rooms","sheet"] Sq 8 [("placed_goal",Xy)] ["all"] [] ["rooms","sheet"] (ex:=["NoRoom"]) (ox:=zec)
theorem zeo:Ck zee PZ Sq HV:={}
theorem JY{α:Type}(f:α->Bool):∀L:List α,DA (L.map λx=>T.bl (f x))=some (L.map f)
 |[]=>rfl
 |x::L=>by
  rw[yaq,yaq];unfold DA;rw[JY f L]
section
variable {M:Mc}(h:McOk M)
include h
theorem lb_no{G P:T}(sG:G.sh=true)(sP:P.sh=true)(hg:Ej [Ae M,G]=some (.exc "NoMark")):Dd [Ae M,G,P]=some (.exc "NoMark"):=by
 have sm:=E8 h;unfold Dd HV
 simp![sm,AO _ sm,sG,AO _ sG,hg]
theorem XI{Z:T}(sZ:Z.sh=true){ps:List Str}(hp:B0 ps)(hl:ps.length<=1000):BZ (BE 2 (AQ (AE 0) (AQ (AE 1) BG))) (mC (.bl true)) QL (ps.map (Ap Z)) [none,none,some (.lst (M.nm.map T.str))]=some (ps.map λx=>.bl (decide (x∈M.nm))):=by
 refine Ed (Ap Z) (λx=>.bl (decide (x∈M.nm))) (λτ=>∃x y,τ=[x,y,some (.lst (M.nm.map T.str))]) ps _ ⟨_,_,rfl⟩ λx hx τ hI=>?_
 obtain⟨a,b,rfl⟩:=hI;have e:=Fp (o:=false) (k:=.lst) (ys:=M.nm) h.tn (hp x hx);refine⟨[some (.str x),some Z,some (.lst (M.nm.map T.str))],by simp![sZ,AO _ sZ],?_,_,_,rfl⟩
 unfold QL
 simp![Ao,Ah,e]
theorem zkm{G:T}{gs:List T}(sG:G.sh=true)(sg:AS gs=true)(hg:Ej [Ae M,G]=some (.ok (.own gs))){Z:T}(sZ:Z.sh=true){ps:List Str}(hp:B0 ps)(hl:ps.length<=1000)(hx:∃x∈ps,x∉M.nm):Dd [Ae M,G,.lst (ps.map (Ap Z))]=some (.exc "NoRoom"):=by
 have sm:=E8 h;have lc:=XI h sZ hp hl;have mr:De [Ae M]=some (.ok (.own (M.nm.map T.str))):=GZ h;have bo:=JY (λx=>decide (x∈M.nm)) ps
 have ea:(ps.map λx=>decide (x∈M.nm)).all id=false:=by
  obtain⟨x,h1,h2⟩:=hx;rw[ydo,List.all_eq_false];exact⟨x,h1,by simpa using h2⟩
 have sp:=Fc sZ ps;have sb:Ar (ps.map λx=>T.bl (decide (x∈M.nm)))=ps.map λx=>T.bl (decide (x∈M.nm)):=FU _ _ (λ_=>rfl) _
 have l1:ps.length<=100000:=by omega
 unfold Dd HV
 simp![sb,-BF,E9,sm,AO _ sm,sG,AO _ sG,hg,sg,AJ _ sg,mr,Ao,Ah,sp,AJ _ sp,ya1,l1,lc,bo,ea]
theorem XH(hs:II M){d:Dr}(hd:M.ds=[d])(hg:d.g=[])(hz:d.z=""){G:T}{ms:List (Str×List T)}(sG:G.sh=true)(hp:Ej [Ae M,G]=some (.ok (.own (ms.map AV))))(hm:∀g∈ms,g.1∈M.nm/\(g.2=[]\/∃l,Look M.ws.length l/\1<=l.2.2/\g.2=[DW l]))(hl:ms.length<=1000):Dd [Ae M,G,.lst (M.nm.map (Ap (Zf M.ws.length)))]=some (.ok (.bl (decide (ms=[])))):=by
 have sm:=E8 h;have wl:=h.wl;have l64:=h.r.l64;have ln:M.nm.length=M.rs.length:=ya1 _;have sZ:(Zf M.ws.length).sh=true:=DC _ _;have lc:=XI h sZ (ps:=M.nm) h.tn (by omega)
 have mr:De [Ae M]=some (.ok (.own (M.nm.map T.str))):=GZ h;have bo:=JY (λx=>decide (x∈M.nm)) M.nm
 have ea:(M.nm.map λx=>decide (x∈M.nm)).all id=true:=by
  rw[ydo,yai];intro x hx
  simpa using hx
 have sp:=Fc sZ M.nm;have sb:Ar (M.nm.map λx=>T.bl (decide (x∈M.nm)))=M.nm.map λx=>T.bl (decide (x∈M.nm)):=FU _ _ (λ_=>rfl) _
 have l1:M.nm.length<=100000:=by omega
 have l2:ms.length<=100000:=by omega
 have st:=zlv h hs hd hg hz (zld (m:=M.ws.length) (by omega)) sZ rfl
 have k:=shK M d (Z:=Zf M.ws.length) sZ;have sS:=k.s;generalize Et M d (Zf M.ws.length)=S at *;have h0:=hs_ok h k;have kr:=λr hr=>hr_ok h hd k (r:=r) hr
 have gsh:∀g∈ms,(AV g).sh=true/\AS g.2=true:=λg hg=>by
  have:AS g.2=true:=by
   rcases(hm g hg).2 with e|⟨l,_,_,e⟩<;>rw[e]<;>rfl
  exact⟨by simp![this],this⟩
 have sg:AS (ms.map AV)=true:=Eu λg hg=>(gsh g hg).1
 have ii:=k.i
 have lk:=Ed (b:=BE 2 (AQ (AE 0) (AQ (AE 1) BG))) (me:=QK) AV (λ_=>.bl false) (λτ=>∃x y,τ=[x,y,some S]) ms [none,none,some S] ⟨_,_,rfl⟩ λg hgm τ hI=>by
  obtain⟨a,b,rfl⟩:=hI;have s2:=(gsh g hgm).2;have ko:=ko_ok h k (hm g hgm).1 (hm g hgm).2;refine⟨[some (.str g.1),some (.lst g.2),some S],by simp![s2,AJ _ s2],?_,_,_,rfl⟩
  unfold QK
  simp![-BF,ii,sS,AO _ sS,s2,AJ _ s2,ko]
 have lr:=Ed (b:=AE 0) (me:=QJ) T.str (λ_=>.bl true) (λτ=>∃x,τ=[x,some S]) M.nm [none,some S] ⟨_,rfl⟩ λr hr τ hI=>by
  obtain⟨a,rfl⟩:=hI;refine⟨[some (.str r),some S],by simp![],?_,_,rfl⟩
  unfold QJ
  simp![-BF,ii,sS,AO _ sS,kr r hr]
 have b6:=JY (λ_:Str×List T=>false) ms
 have b8:=JY (λ_:Str=>true) M.nm
 have s6:Ar (ms.map λ_=>T.bl false)=ms.map λ_=>T.bl false:=FU _ _ (λ_=>rfl) _
 have s8:Ar (M.nm.map λ_=>T.bl true)=M.nm.map λ_=>T.bl true:=FU _ _ (λ_=>rfl) _
 have a8:(M.nm.map λ_=>true).all id=true:=by rw[ydo,yai];exact λ_ _=>rfl
 have a6:(ms.map λ_=>false).all id=decide (ms=[]):=by
  cases ms with
  |nil=>rfl
  |cons a l=>rfl
 have e:HV [some (Ae M),some G,some (.lst (M.nm.map (Ap (Zf M.ws.length)))),none,none,none]=some (.rt (.bl (decide (ms=[])))):=by
  unfold HV;generalize Zf M.ws.length=Z at *;refine sq (τ':=[some (Ae M),some G,some (.lst (M.nm.map (Ap Z))),some (.lst (ms.map AV)),none,none]) (by simp![sm,AO _ sm,sG,AO _ sG,hp,sg,AJ _ sg]) ?_
  refine sq (τ':=[some (Ae M),some G,some (.lst (M.nm.map (Ap Z))),some (.lst (ms.map AV)),some (.lst (M.nm.map T.str)),none]) (by simp![-BF,E9,sm,AO _ sm,mr,Ao,Ah]) ?_
  refine Mv (by simp![sp,AJ _ sp,Ao,Ah,ya1,l1,lc,sb,bo,ea]) ?_
  refine sq (τ':=[some (Ae M),some G,some (.lst (M.nm.map (Ap Z))),some (.lst (ms.map AV)),some (.lst (M.nm.map T.str)),some S]) (by simp![sm,AO _ sm,sp,AJ _ sp,st,sS,AO _ sS]) ?_
  cases hq:decide (ms=[]) with
  |true =>
   rw[hq]at a6;refine Mv (by simp![-BF,ii,sS,AO _ sS,h0,sg,AJ _ sg,ya1,l2,lk,s6,b6,a6]) ?_
   simp![sS,AO _ sS,Ao,Ah,ya1,l1,lr,s8,b8,a8]
  |false =>
   rw[hq]at a6;exact sr (by simp![-BF,ii,sS,AO _ sS,h0,sg,AJ _ sg,ya1,l2,lk,s6,b6,a6])
 unfold Dd
 simp![e]
end
abbrev Tp:Stmt:=AI 77
def Jz:AH :=
 (A5 (m2 Az (AA 5) (m2 Bs (m2 B9 (AA 0) (mC (.int 8))) (AA 3))) (Ac (m2 B7 (AA 4) (Aj (AA 2) (m2 Bs (m2 B7 (m2 B9 (AA 0) (mC (.int 64))) (AA 1)) (mC (.int 26))))) (AE 4)) (Ac (m2 B7 (AA 4) (Aj (AA 2) (m2 Bs (m2 B9 (AA 0) (m2 B7 (mC (.int 64)) (m2 CD (mC (.int 37)) (AA 5)))) (mC (.int 26))))) (AE 4)))
def O7:AH :=
 (AF (Ac (mC (.str "abcdefghijklmnopqrstuvwxyz")) (AE 2))
 (AF (Ac (m2 B7 (mC (.int 1)) (m2 Bs (AA 0) (mC (.int 8)))) (AE 3))
 (AF (Ac (mC (.str "")) (AE 4))
 (AF (Bo (DR (AB (AA 3) AD)) (AE 5) Jz)
 (AM (AA 4))))))
def Gs:List T->Option Ru:=AX 2 6 O7
abbrev Y7:Fn:=⟨1,["_law_cell","_law_k"],Gs⟩
abbrev zht:Gm:=gA ["_law_cell","_law_k","_law_letters","_law_size","_law_word_here","_law_j"] Tp 0 [] ["range"]
theorem zi7:Ck zht Y7 Tp O7:={}
noncomputable def Dj(c:Int)(k j:Nat):Int:=if ((j:Int) == (c.fdiv 8).fmod (1+c.fmod 8))=true then (c.fdiv 64+(k:Int)).fmod 26 else (c.fdiv (64+37 * (j:Int))).fmod 26
def E2(c:Int)(k j:Nat):Nat:=97+(Dj c k j).toNat
def Ff(c:Int)(k n:Nat):Str:=⟨((List.range n).map (E2 c k)).toArray⟩
def FA(c:Int):Nat:=(1+c.fmod 8).toNat
theorem Io(c:Int):1<=FA c/\FA c<=8/\(1+c.fmod 8)=(FA c:Int):=by
 unfold FA;rw[fm (j:=8) (by decide)]
 omega
theorem IW(c:Int)(k j:Nat):0<=Dj c k j/\Dj c k j<26:=by
 unfold Dj;split<;>rw[fm (j:=26) (by decide)]<;>omega
theorem abc:(Str.ofString "abcdefghijklmnopqrstuvwxyz").cps.toList=(List.range 26).map (97 + ·):=by rfl
theorem zp6{i:Int}(h0:0<=i)(h1:i<26):Au (Str.ofString "abcdefghijklmnopqrstuvwxyz").cps.toList i=some (97+i.toNat):=by
 rw[abc];refine Fx h0 ?_;rw[ya8,ybu (by omega)]
 rfl
theorem Zd:(Str.ofString "abcdefghijklmnopqrstuvwxyz").length<=100000:=by decide +kernel
theorem W8(c:Int)(k n:Nat):Ff c k n++⟨#[E2 c k n]⟩=Ff c k (n+1):=by
 show Str.mk (((List.range n).map (E2 c k)).toArray++#[E2 c k n])=Str.mk _;rw[List.range_succ];simp
theorem zk7(c:Int)(k n:Nat):(Ff c k n).length=n:=by
 show((List.range n).map (E2 c k)).toArray.size=n;simp
theorem w4_ok{c:Int}{k i:Nat}(hi:i<8)(hk:k<30):Jz [some (.int c),some (.int (k:Int)),some (.str "abcdefghijklmnopqrstuvwxyz"),some (.int (1+c.fmod 8)),some (.str (Ff c k i)),some (.int i)]
  = some (.nx [some (.int c),some (.int (k:Int)),some (.str "abcdefghijklmnopqrstuvwxyz"),some (.int (1+c.fmod 8)),some (.str (Ff c k (i+1))),some (.int i)]):=by
 obtain⟨n1,n8,ne⟩:=Io c;have m1:CF 37 i=true:=HS (FZ (by omega) (by omega))
 have s1:Bh (64+37 * (i:Int))=true:=CB (by omega) (by omega)
 have s2:Bh 64=true:=CB (by decide) (by decide)
 have s3:Bh (1+c.fmod 8)=true:=CB (by omega) (by omega)
 have z1:(64+37 * (i:Int)≠0)=True:=eq_true (by omega)
 have z2:(1+c.fmod 8≠0)=True:=eq_true (by omega)
 have s4:Bh 8=true:=CB (by decide) (by decide)
 have ea:Au (Str.ofString "abcdefghijklmnopqrstuvwxyz").cps.toList (Dj c k i)=some (E2 c k i):=zp6 (IW c k i).1 (IW c k i).2
 have el:(Ff c k i).length+(Str.mk #[E2 c k i]).length<=100000:=by
  rw[zk7];show i+1<=100000
  omega
 unfold Jz;cases q:((i:Int) == (c.fdiv 8).fmod (1+c.fmod 8)) with
 |true =>
  have e:Dj c k i=(c.fdiv 64+(k:Int)).fmod 26:=by unfold Dj;rw[if_pos q]
  rw[e]at ea
  simp![ES,s4,z2,s3,q,s2,ea,Zd,el,W8]
 |false =>
  have e:Dj c k i=(c.fdiv (64+37 * (i:Int))).fmod 26:=by unfold Dj;rw[if_neg (by rw[q];decide)]
  rw[e]at ea
  simp![ES,s4,z2,s3,q,m1,s1,z1,ea,Zd,el,W8]
abbrev Aw(c:Int)(k:Nat):Str:=Ff c k (FA c)
theorem MT(c:Int){k:Nat}(hk:k<30):Gs [.int c,.int (k:Int)]=some (.ok (.str (Aw c k))):=by
 obtain⟨n1,n8,ne⟩:=Io c
 obtain⟨τ,e,z,rfl⟩:=Eh (b:=AE 5) (body:=Jz) (ts:=mT (FA c) λi=>.int i) (τ:=[some (.int c),some (.int (k:Int)),some (.str "abcdefghijklmnopqrstuvwxyz"),some (.int (1+c.fmod 8)),some (.str ""),none])
  (λi τ=>∃x,τ=[some (.int c),some (.int (k:Int)),some (.str "abcdefghijklmnopqrstuvwxyz"),some (.int (1+c.fmod 8)),some (.str (Ff c k i)),x]) ⟨none,by rfl⟩ λi t τ h1 h2=>by
   obtain⟨hi,rfl⟩:=G2 h1;obtain⟨x,rfl⟩:=h2;exact⟨_,by simp![],_,w4_ok (i:=i) (by omega) hk,_,rfl⟩
 rw[Cs]at e;have ok:Ce (1+c.fmod 8)=true:=@decide_eq_true _ (Classical.propDecidable _) ⟨by omega,by omega⟩
 have er:EG 0 (1+c.fmod 8).toNat=mT (FA c) λi=>.int i:=F9
 have s4:Bh 8=true:=CB (by decide) (by decide)
 unfold Gs O7
 simp![s4,ok,er,e]
theorem Kl(c:Int)(k:Nat):Tx.cs (Aw c k)=(List.range (FA c)).map (E2 c k):=rfl
theorem zno(c:Int)(k:Nat):∀s∈Tx.cs (Aw c k),97<=s/\s<=122:=λs hs=>by
 rw[Kl]at hs;obtain⟨j,_,rfl⟩:=yag.mp hs;have:=IW c k j;unfold E2
 omega
theorem zk8(c:Int)(k:Nat):(Tx.cs (Aw c k)).length<=8:=by
 rw[Kl,ya1,ycp];exact(Io c).2.1
theorem znn(c:Int)(k:Nat):1<=(Tx.cs (Aw c k)).length:=by
 rw[Kl,ya1,ycp];exact(Io c).1
theorem Wa{c:Int}{j k:Nat}(hj:j<26)(hk:k<26)(h:Aw c j=Aw c k):j=k:=by
 obtain⟨n1,n8,ne⟩:=Io c
 have ha:0<=(c.fdiv 8).fmod (1+c.fmod 8)/\(c.fdiv 8).fmod (1+c.fmod 8)<1+c.fmod 8:=by
  rw[fm (by omega)]
  exact⟨yd6 _ (by omega),ydf _ (by omega)⟩
 obtain⟨a,ea⟩:=Int.eq_ofNat_of_zero_le ha.1;have hn:a<FA c:=by omega
 have e :=by
  have e1:=congrArg (λl =>l[a]?) (congrArg Tx.cs h)
  simp only[Kl,ya8,ybu hn]at e1;exact yap e1
 have s1:=IW c j a;have s2:=IW c k a;unfold E2 at e;have e2:Dj c j a=Dj c k a:=by omega
 have t:((a:Int) == (c.fdiv 8).fmod (1+c.fmod 8))=true:=by rw[ea];exact yej _
 unfold Dj at e2;rw[if_pos t,if_pos t,fm (j:=26) (by decide),fm (j:=26) (by decide)]at e2
 omega
def Qe(x:Str):Prop:=Fz x/\1<=x.cps.size/\x.cps.size<=8
theorem SF{x:Str}(h:Qe x):Gj x:=.inr h
theorem ziu{x:Str}(h:Fz x):Lo x:=λi hi=>.inr (h i hi)
theorem W7(c:Int)(k:Nat):Qe (Aw c k):=by
 refine⟨λi hi=>?_,znn c k,zk8 c k⟩
 refine zno c k _ ?_;show(Aw c k).cps.getD i 0∈(Aw c k).cps.toList;rw[yc8,yb7 hi];exact Array.getElem_mem_toList hi
theorem HQ(c:Int)(k:Nat):PyData.strOk (Aw c k)=true:=IK (SF (W7 c k))
abbrev Ts:Stmt:=AI 78
def O9:AH :=
 (AF (Ac (BX (BB (mC (.str "<")) (BB (mC (.str "<=")) (BB (mC (.str ">")) (BB (mC (.str ">=")) (BB (mC (.str "=")) AD)))))) (AE 2))
 (AM (BP (AB (Aj (AA 0) (m2 Bs (AA 1) (m1 Bu (AA 0)))) (AB (Aj (AA 2) (m2 Bs (m2 B9 (AA 1) (mC (.int 2))) (mC (.int 5)))) (AB (m2 B7 (mC (.int 1)) (m2 Bs (m2 B9 (AA 1) (mC (.int 10))) (m2 Ig (mC (.int 10)) (mC (.int 40))))) AD))))))
def Jj:List T->Option Ru:=AX 2 3 O9
abbrev Ph:Fn:=⟨1,["_law_watches","_law_cell"],Jj⟩
abbrev zhv:Gm:=gA ["_law_watches","_law_cell","_law_words"] Ts 0 [] ["len"]
theorem zi9:Ck zhv Ph Ts O9:={}
def MQ(ws:List Str)(t:T):Prop:=∃x y n,t=.tup [.str x,.str y,.int n]/\x∈ws/\y∈CT/\1<=n
theorem Wx{ws:List Str}(hw:ws≠[])(c:Int):∃t,Jj [.lst (ws.map T.str),.int c]=some (.ok t)/\MQ ws t:=by
 obtain⟨x,hx,ex⟩:=Ko ws hw c;have ex:=Qa T.str ex;obtain⟨y,hy,ey⟩:=Ko CT (by decide) (c.fdiv 2)
 have ey:=Qa T.str ey;have l0:=Oj hw;have s2:Bh 2=true:=CB (by decide) (by decide)
 have s10:Bh 10=true:=CB (by decide) (by decide)
 have p0:((10:Int) ^ 40≠0)=True:=eq_true (by decide)
 have n1:1<=1+(c.fdiv 10).fmod (10 ^ 40):=by
  rw[fm (j:=10 ^ 40) (by decide)]
  have:=yd6 (c.fdiv 10) (b:=10 ^ 40) (by decide)
  omega
 refine⟨.tup [.str x,.str y,.int (1+(c.fdiv 10).fmod (10 ^ 40))],?_,x,y,_,rfl,hx,hy,n1⟩;have ey:Au [T.str "<",T.str "<=",T.str ">",T.str ">=",T.str "="] ((c.fdiv 2).fmod 5)=some (.str y):=ey;have p40:(0:Int)<=40/\(40:Int)<=1000000/\F6 10=true:=⟨by decide,by decide,FZ (by decide) (by decide)⟩
 have r40:Int.toNat 40=40:=rfl;unfold Jj O9
 simp![Ao,Ah,ya1,l0,ex,s2,s10,ey,p0,p40,r40]
abbrev Tr:Stmt:=AI 79
def O8:AH :=
 (AF (Ac (AN Jj (AB (AA 0) (AB (AA 2) AD))) (BE 3 (AQ (AE 4) (AQ (AE 5) (AQ (AE 6) BG)))))
 (AF (Ac (BX (BB (BP (AB (AA 1) (AB (AA 5) (AB (AA 6) AD)))) (BB (BP (AB (AA 4) (AB (mC (.str "==")) (AB (AA 6) AD)))) (BB (BP (AB (AA 4) (AB (AA 5) (AB (m2 Er (m2 Er (mC (.int 0)) (mC (.int 1))) (AA 6)) AD)))) (BB (BP (AB (AA 4) (AB (AA 5) (AB (mC (.bl true)) AD)))) AD))))) (AE 3))
 (AM (Aj (m2 B7 (AA 3) (BX (BB (BP (AB (AA 4) (AB (AA 5) AD))) (BB (BX (BB (AA 4) (BB (AA 5) (BB (AA 6) AD)))) (BB (BP (AB (AA 4) (AB (mC (.str "")) (AB (AA 6) AD)))) (BB (mC .non) AD)))))) (m2 Bs (m2 B9 (AA 2) (mC (.int 7))) (mC (.int 8)))))))
def Ji:List T->Option Ru:=AX 3 7 O8
abbrev Y9:Fn:=⟨2,["_law_watches","_law_stranger","_law_cell"],Ji⟩
abbrev zcv:Gm:=gA ["_law_watches","_law_stranger","_law_cell","_law_some","_law_watch","_law_word_here","_law_number"] Tr 1 [("_law_look",Ph)] []
theorem zd6:Ck zcv Y9 Tr O8:={}
structure FitS(t:T)(n:Nat):Prop where
 fit:C7 t=true
 sf:PyData.eqv t.data t.data=true
 dep:t.data.depth<=n
theorem Bk{t:T}{n:Nat}(h:Fit t n):FitS t n:=⟨h.fit,(Yu _ _ h.nb h.nb).mpr rfl,h.dep⟩
theorem FitS.bl(b:Bool)(n:Nat):FitS (.bl b) n:=⟨rfl,by cases b<;>rfl,by simp[T.data,PyData.depth]⟩
theorem Yl:∀{l:List T} {n:Nat},(∀t∈l,FitS t n)->(Co l=true/\PyData.canLayAll0 (BD l)=true)/\PyData.eqvAll (BD l) (BD l)=true/\PyData.depthAll (BD l)<=n
 |[],n,_=>⟨⟨rfl,rfl⟩,rfl,ybg _⟩
 |t::r,n,h=>by
  obtain⟨h1,h2,h3⟩:=h t (ya7 ..);obtain⟨⟨g0,g1⟩,g2,g3⟩:=Yl λx hx=>h x (ya4 _ hx)
  unfold C7 at h1;rw[ya2]at h1;refine⟨⟨by rw[Co,h1.1,g0];rfl,by rw[BD,PyData.canLayAll0,h1.2,g1];rfl⟩,by rw[BD,PyData.eqvAll,h2,g2];rfl,?_⟩
  rw[BD,PyData.depthAll]
  omega
theorem FitS.nd{l:List T}{n:Nat}{o:Bool}{k:Kd}(h:∀t∈l,FitS t n):FitS (.nd o k l) (n+1):=by
 obtain⟨g1,g2,g3⟩:=Yl h;cases k<;>exact⟨by simpa[C7,T.data,T.pln,PyData.canLay0] using g1,by simpa[T.data,PyData.eqv] using g2,by simpa[T.data,PyData.depth] using g3⟩
theorem FitS.mono{t:T}{n m:Nat}(h:FitS t n)(hm:n<=m):FitS t m:=⟨h.fit,h.sf,yak h.dep hm⟩
theorem FitS.ne{t u:T}{n:Nat}(h:FitS t n)(hn:n<=60)(e:u.data=t.data)(hu:C7 u=true):Cp t u=some (.bl false):=by
 have ok:Gc t u=true:=by
  unfold Gc;rw[h.fit,hu,ye6 (by have:=h.dep;omega)]
  rfl
 unfold Cp L4;rw[if_pos ok,e,h.sf]
 rfl
def Ql(ws:List Str)(t:T):Prop:=t.sh=true/\El [t,.lst (ws.map T.str),C4]=some (.ok (.bl false))/\FitS t 2
theorem znt{ws:List Str}(h:B0 ws){x y:Str}(hx:x∈ws)(hy:y∈CT):PyData.strOk x=true/\PyData.strOk y=true:=⟨h x hx,Gw y hy⟩
theorem Ga{a b c:T}{n:Nat}(h1:FitS a n)(h2:FitS b n)(h3:FitS c n):∀t∈[a,b,c],FitS t n:=λt ht=>by
 simp only[yaa,yar,yed]at ht
 rcases ht with rfl|rfl|rfl<;>assumption
theorem zni{ws:List Str}(hw:ws≠[])(ht:B0 ws){z:Str}(hz:PyData.strOk z=true)(nz:z∉ws)(c:Int):∃t,Ji [.lst (ws.map T.str),.str z,.int c]=some (.ok t)/\Ql ws t.share:=by
 obtain⟨l,el,x,y,n,rfl,hx,hy,hn⟩:=Wx hw c;obtain⟨tx,ty⟩:=znt ht hx hy;have t1:PyData.strOk (Str.ofString "==")=true:=by decide +kernel
 have t2:PyData.strOk (Str.ofString "")=true:=em_ok;have b1:(Str.ofString "==")∉CT:=by decide +kernel
 have b2:(Str.ofString "")∉CT:=by decide +kernel
 obtain⟨t,hm,et⟩:=Ko [T.tup [.str z,.str y,.int n],.tup [.str x,.str "==",.int n],.tup [.str x,.str y,.int (0 - 1 - n)],.tup [.str x,.str y,.bl true],.tup [.str x,.str y],.lst [.str x,.str y,.int n],.tup [.str x,.str "",.int n],.non] (by simp) (c.fdiv 7)
 have s7:Bh 7=true:=CB (by decide) (by decide)
 have et:Au [T.tup [.str z,.str y,.int n],.tup [.str x,.str "==",.int n],.tup [.str x,.str y,.int (0 - 1 - n)],.tup [.str x,.str y,.bl true],.tup [.str x,.str y],.lst [.str x,.str y,.int n],.tup [.str x,.str "",.int n],.non] ((c.fdiv 7).fmod 8)=some t:=et;refine⟨t,?_,?_⟩
 .unfold Ji O8
  simp![Ao,Ah,el,s7,et]
 .have n0:decide (0<=n)=true:=ye6 (by omega)
  simp only[yaa,yar,yed]at hm
  rcases hm with rfl|rfl|rfl|rfl|rfl|rfl|rfl|rfl
  .refine⟨rfl,(HW ht hz ty rfl (HN n)).trans ?_,FitS.nd (Ga (Bk (Fit.str hz 1)) (Bk (Fit.str ty 1)) (Bk (Fit.int n 1)))⟩;rw[ydp nz];rfl
  .refine⟨rfl,(HW ht tx t1 rfl (HN n)).trans ?_,FitS.nd (Ga (Bk (Fit.str tx 1)) (Bk (Fit.str t1 1)) (Bk (Fit.int n 1)))⟩;rw[ydp b1,ycn,ybq]
  .refine⟨rfl,(HW ht tx ty rfl (HN (0 - 1 - n))).trans ?_,FitS.nd (Ga (Bk (Fit.str tx 1)) (Bk (Fit.str ty 1)) (Bk (Fit.int _ 1)))⟩;rw[ydp (show ¬ 0<=0 - 1 - n by omega),ybq,ybq]
  .refine⟨rfl,(HW ht tx ty rfl (znj (.inr (.inl ⟨true,rfl⟩)))).trans ?_,FitS.nd (Ga (Bk (Fit.str tx 1)) (Bk (Fit.str ty 1)) (FitS.bl _ 1))⟩;rw[ybq,ybq]
  .have f2:FitS (.tup [.str x,.str y]) 2:=FitS.nd λt ht=>by
    simp only[yaa,yar,yed]at ht
    rcases ht with rfl|rfl
    .exact Bk (Fit.str tx 1)
    .exact Bk (Fit.str ty 1)
   exact⟨rfl,Oi (.inr (.inr (.inr ⟨[.str x,.str y],rfl,by simp,rfl⟩))),f2⟩
  .exact⟨rfl,Oi (.inl ⟨_,rfl,rfl⟩),FitS.nd (Ga (Bk (Fit.str tx 1)) (Bk (Fit.str ty 1)) (Bk (Fit.int n 1)))⟩
  .refine⟨rfl,(HW ht tx t2 rfl (HN n)).trans ?_,FitS.nd (Ga (Bk (Fit.str tx 1)) (Bk (Fit.str t2 1)) (Bk (Fit.int n 1)))⟩;rw[ydp b2,ycn,ybq]
  .exact⟨rfl,Oi (.inr (.inl rfl)),(Bk (Fit.non 2))⟩
abbrev Tt:Stmt:=AI 80
def IP:AH :=
 (AF (Ac (m2 CD (BX (BB (AN Jj (AB (AA 2) (AB (m2 B7 (m2 B9 (AA 0) (mC (.int 3))) (m2 CD (mC (.int 5)) (AA 6))) AD))) AD)) (m2 Bs (m2 B9 (AA 0) (mC (.int 4))) (mC (.int 2)))) (AE 8))
 (ED 5 (BP (AB (Aj (AA 1) (m2 Bs (m2 B9 (AA 0) (m2 B7 (mC (.int 5)) (AA 6))) (m1 Bu (AA 1)))) (AB (AA 8) AD)))))
def Kz:AH :=
 (AF (DP 5 (BX AD))
 (AF (Bo (DR (AB (m2 B7 (mC (.int 1)) (m2 Bs (AA 0) (mC (.int 2)))) AD)) (AE 6) IP)
 (AF (Ac (m2 Bs (m2 B9 (AA 0) (mC (.int 8))) (m1 Bu (AA 5))) (AE 7))
 (AF (Ac (Aj (AA 5) (AA 7)) (BE 2 (AQ (AE 9) (AQ (AE 8) BG))))
 (AF (A5 (m2 Az (AA 4) (mC (.int 1))) (FY 5 (AA 7) (BP (AB (AA 3) (AB (AA 8) AD)))) A4)
 (AF (A5 (m2 Az (AA 4) (mC (.int 2))) (FY 5 (AA 7) (BP (AB (AA 9) (AB (m2 B7 (AA 8) (BX (BB (AN Ji (AB (AA 2) (AB (AA 3) (AB (m2 B9 (AA 0) (mC (.int 16))) AD)))) AD))) AD)))) A4)
 (AF (A5 (m2 Az (AA 4) (mC (.int 3))) (DP 5 (BX AD)) A4)
 (AM (AA 5)))))))))
def IB:List T->Option Ru:=AX 5 10 Kz
abbrev Yb:Fn:=⟨3,["_law_cell","_law_rooms","_law_watches","_law_stranger","_law_way"],IB⟩
abbrev zhw:Gm:=gA ["_law_cell","_law_rooms","_law_watches","_law_stranger","_law_way","_law_goal_here","_law_k","_law_at","_law_looks","_law_room"] Tt 2 [("_law_look",Ph),("_law_odd_look",Y9)] ["range","len"] ["_law_goal_here"]
theorem zia:Ck zhw Yb Tt Kz:={}
def G1(ws rn:List Str)(g:Str×List T):Prop:=g.1∈rn/\(g.2=[]\/∃t,g.2=[t]/\MQ ws t)
theorem G1.lks{ws rn:List Str}{g:Str×List T}(h:G1 ws rn g):g.1∈rn/\Dh ws CT g.2/\g.2.length<=2:=by
 refine⟨h.1,?_,?_⟩
 .rcases h.2 with e|⟨t,e,x,y,n,q,h1,h2,h3⟩
  .rw[e];exact λ_ z=>by cases z
  .rw[e];intro u hu;cases yab.mp hu;exact⟨x,y,n,q,h1,h2,by omega⟩
 .rcases h.2 with e|⟨t,e,_⟩<;>rw[e]<;>simp
theorem G1.gls{ws rn:List Str}{gl:List (Str×List T)}(h:∀g∈gl,G1 ws rn g):Jq ws rn gl:=λg hg=>(h g hg).lks
theorem w2_ok{ws rn:List Str}(hw:ws≠[])(hr:rn≠[])(hl:rn.length<=100){c:Int}{gl:List (Str×List T)}(hg:gl.length<=10)(hG:∀g∈gl,G1 ws rn g){i:Nat}(hi:i<=10){z:Str}{w:Int}{x7 x8 x9:Option T}:∃g y8,G1 ws rn g/\IP [some (.int c),some (.lst (rn.map T.str)),some (.lst (ws.map T.str)),some (.str z),some (.int w),some (.own (gl.map AV)),some (.int i),x7,x8,x9]=some (.nx [some (.int c),some (.lst (rn.map T.str)),some (.lst (ws.map T.str)),some (.str z),some (.int w),some (.own ((gl++[g]).map AV)),some (.int i),x7,y8,x9]):=by
 obtain⟨t,et,hk⟩:=Wx hw (c.fdiv 3+5 * (i:Int))
 have st:t.sh=true:=by
  obtain⟨x,y,n,rfl,_⟩:=hk
  rfl
 obtain⟨r,hr1,er⟩:=Ko rn hr (c.fdiv (5+(i:Int)));have er:=Qa T.str er;have l0:=Oj hr;have s3:Bh 3=true:=CB (by decide) (by decide)
 have s4:Bh 4=true:=CB (by decide) (by decide)
 have s5:Bh (5+(i:Int))=true:=CB (by omega) (by omega)
 have z5:(5+(i:Int)≠0)=True:=eq_true (by omega)
 have m5:CF 5 i=true:=HS (FZ (by decide) (by decide))
 have ll:(gl.map AV).length<100000:=by rw[ya1];omega
 have hb:(c.fdiv 4).fmod 2=0\/(c.fdiv 4).fmod 2=1:=by
  rw[fm (j:=2) (by decide)]
  omega
 have k0:LL 0=true:=@decide_eq_true _ (Classical.propDecidable _) ⟨by decide,by decide⟩
 have k1:LL 1=true:=@decide_eq_true _ (Classical.propDecidable _) ⟨by decide,by decide⟩
 have mu0:∀o,CD (.nd o .lst [t]) (.int 0)=some (.own []):=λo=>by
  unfold CD;simp only[k0]
  rfl
 have mu1:∀o,CD (.nd o .lst [t]) (.int 1)=some (.own [t]):=λo=>by
  unfold CD;simp only[k1]
  rfl
 have mu5:CD (.int 5) (.int (i:Int))=some (.int (5 * (i:Int))):=by
  unfold CD;simp only[m5]
  rfl
 rcases hb with e|e
 .refine⟨(r,[]),some (.lst []),⟨hr1,.inl rfl⟩,?_⟩;rw[yb1];generalize gl.map AV=G at *;unfold IP
  simp![-CD,mu0,mu5,s3,Ao,Ah,et,st,AO _ st,s4,e,s5,z5,ya1,l0,er,ll]
 .refine⟨(r,[t]),some (.lst [t]),⟨hr1,.inr ⟨t,rfl,hk⟩⟩,?_⟩;rw[yb1];generalize gl.map AV=G at *;unfold IP
  simp![-CD,mu1,mu5,s3,Ao,Ah,et,st,AO _ st,s4,e,s5,z5,ya1,l0,er,ll]
def IF(ws rn:List Str)(z:Str)(w:Int)(L:List T):Prop :=
 (w≠1/\w≠2/\w≠3/\∃gl:List (Str×List T),L=gl.map AV/\gl≠[]/\gl.length<=2/\∀g∈gl,G1 ws rn g) \/
 (w=1/\∃(g1 g2:List (Str×List T)) (g:Str×List T),L=g1.map AV++AV (z,g.2)::g2.map AV/\(∀x∈g1,G1 ws rn x)/\(∀x∈g2,G1 ws rn x)/\G1 ws rn g/\g1.length<=2/\g2.length<=2) \/
 (w=2/\∃(g1 g2:List (Str×List T)) (g:Str×List T) (o:T),L=g1.map AV++AV (g.1,g.2++[o])::g2.map AV/\(∀x∈g1,G1 ws rn x)/\(∀x∈g2,G1 ws rn x)/\G1 ws rn g/\Ql ws o/\g1.length<=2/\g2.length<=2) \/
 (w=3/\L=[])
theorem Xf{ws rn:List Str}(hw:ws≠[])(ht:B0 ws)(hr:rn≠[])(hl:rn.length<=100)(c:Int){z:Str}(hz:PyData.strOk z=true)(w:Int)(nz:w=2->z∉ws):∃L,IB [.int c,.lst (rn.map T.str),.lst (ws.map T.str),.str z,.int w]=some (.ok (.own L))/\IF ws rn z w L:=by
 obtain⟨m,hm,p1,p2⟩:∃m:Nat,1+c.fmod 2=(m:Int)/\1<=m/\m<=2:=by
  rw[fm (j:=2) (by decide)]
  exact⟨(1+c % 2).toNat,by omega,by omega,by omega⟩
 obtain⟨τ,e,gl,x6,x8,ll,hG,rfl⟩:=Eh (b:=AE 6) (body:=IP) (ts:=mT m λi=>.int i) (τ:=[some (.int c),some (.lst (rn.map T.str)),some (.lst (ws.map T.str)),some (.str z),some (.int w),some (.own []),none,none,none,none])
  (λi τ=>∃(gl:List (Str×List T)) (x6 x8:Option T),gl.length=i/\(∀g∈gl,G1 ws rn g)/\τ=[some (.int c),some (.lst (rn.map T.str)),some (.lst (ws.map T.str)),some (.str z),some (.int w),some (.own (gl.map AV)),x6,none,x8,none]) ⟨[],none,none,rfl,λ_ z=>(by cases z),rfl⟩ λi t τ h1 h2=>by
   obtain⟨hi,rfl⟩:=G2 h1;obtain⟨gl,x6,x8,ll,hG,rfl⟩:=h2;obtain⟨g,y8,h1,h2⟩:=w2_ok (c:=c) (gl:=gl) (i:=i) (z:=z) (w:=w) (x7:=none) (x8:=x8) (x9:=none) hw hr hl (by omega) hG (by omega)
   exact⟨_,by simp![],_,h2,gl++[g],_,_,by simp[ll],λx hx=>(yax.mp hx).elim (hG x) λq=>yab.mp q▸h1,rfl⟩
 rw[Cs]at ll;have gne:gl≠[]:=λq=>by rw[q,ybi]at ll;omega
 have l0:=Oj gne
 obtain⟨a,ha,ea⟩:∃a:Nat,a<gl.length/\(c.fdiv 8).fmod (gl.length:Int)=(a:Int):=by
  have l1:0<gl.length:=by omega
  rw[fm (by omega)]
  have q1:=yd6 (c.fdiv 8) (b:=(gl.length:Int)) (by omega)
  have q2:=ydf (c.fdiv 8) (b:=(gl.length:Int)) (by omega)
  exact⟨((c.fdiv 8) % (gl.length:Int)).toNat,by omega,by omega⟩
 have hg:=hG _ (yb5 ha);have sg:AS (gl[a]).2=true:=hg.lks.2.1.sh;have Fy:Au (gl.map AV) (a:Int)=some (AV gl[a]):=Gi (by rw[ya8,ya0 ha];rfl)
 have sG:AS (gl.map AV)=true:=(G1.gls hG).sh;have ixn:Bp gl.length (a:Int)=some a:=Ow ha;have ok:Ce (m:Int)=true:=@decide_eq_true _ (Classical.propDecidable _) ⟨by omega,by omega⟩
 have er:EG 0 m=mT m λi=>.int i:=F9
 have s8:Bh 8=true:=CB (by decide) (by decide)
 have s16:Bh 16=true:=CB (by decide) (by decide)
 have h1:∀x∈gl.take a,G1 ws rn x:=λx hx=>hG x (List.mem_of_mem_take hx)
 have h2:∀x∈gl.drop (a+1),G1 ws rn x:=λx hx=>hG x (List.mem_of_mem_drop hx)
 have b1:(gl.take a).length<=2:=by rw[yat];omega
 have b2:(gl.drop (a+1)).length<=2:=by rw[ydm];omega
 have set_is:∀t,(gl.map AV).set a t=(gl.take a).map AV++t::(gl.drop (a+1)).map AV:=λt=>by
  rw[List.set_eq_take_append_cons_drop,if_pos (by rw[ya1];exact ha),<- ycv,<- List.map_drop]
 have key:∀L,(∀τ0,(AF (A5 (m2 Az (AA 4) (mC (.int 1))) (FY 5 (AA 7) (BP (AB (AA 3) (AB (AA 8) AD)))) A4) (AF (A5 (m2 Az (AA 4) (mC (.int 2))) (FY 5 (AA 7) (BP (AB (AA 9) (AB (m2 B7 (AA 8) (BX (BB (AN Ji (AB (AA 2) (AB (AA 3) (AB (m2 B9 (AA 0) (mC (.int 16))) AD)))) AD))) AD)))) A4) (AF (A5 (m2 Az (AA 4) (mC (.int 3))) (DP 5 (BX AD)) A4) (AM (AA 5))))) τ0=some (.rt (.own L))->τ0=[some (.int c),some (.lst (rn.map T.str)),some (.lst (ws.map T.str)),some (.str z),some (.int w),some (.own (gl.map AV)),x6,some (.int (a:Int)),some (.lst (gl[a]).2),some (.str (gl[a]).1)]->IB [.int c,.lst (rn.map T.str),.lst (ws.map T.str),.str z,.int w]=some (.ok (.own L))):=λL τ0 h0 h1=>by
  subst h1
  have:Kz [some (.int c),some (.lst (rn.map T.str)),some (.lst (ws.map T.str)),some (.str z),some (.int w),none,none,none,none,none]=some (.rt (.own L)):=by
   unfold Kz;refine sq (τ':=[some (.int c),some (.lst (rn.map T.str)),some (.lst (ws.map T.str)),some (.str z),some (.int w),some (.own []),none,none,none,none]) (by simp![]) ?_
   refine sq (τ':=[some (.int c),some (.lst (rn.map T.str)),some (.lst (ws.map T.str)),some (.str z),some (.int w),some (.own (gl.map AV)),x6,none,x8,none]) (by simp![hm,ok,er,e]) ?_
   refine sq (τ':=[some (.int c),some (.lst (rn.map T.str)),some (.lst (ws.map T.str)),some (.str z),some (.int w),some (.own (gl.map AV)),x6,some (.int (a:Int)),x8,none]) (by simp![s8,AJ _ sG,ya1,l0,ea]) ?_
   refine sq (τ':=[some (.int c),some (.lst (rn.map T.str)),some (.lst (ws.map T.str)),some (.str z),some (.int w),some (.own (gl.map AV)),x6,some (.int (a:Int)),some (.lst (gl[a]).2),some (.str (gl[a]).1)]) (by simp![Fy,sg,AJ _ sg,sG]) ?_
   exact h0
  unfold IB
  simp![this]
 have ei:∀i j:Int,Az (.int i) (.int j)=some (.bl (i == j)):=λi j=>ES
 by_cases w1:w=1
 .subst w1;refine⟨_,key ((gl.map AV).set a (AV (z,(gl[a]).2))) _ ?_ rfl,.inr (.inl ⟨rfl,gl.take a,gl.drop (a+1),gl[a],set_is _,h1,h2,hg,b1,b2⟩)⟩;have ixn:Bp (gl.map AV).length (a:Int)=some a:=by rw[ya1];exact ixn
  generalize (gl[a]).2=Q at *;generalize gl.map AV=G at *
  simp![ei,sg,AJ _ sg,ixn]
 .have q1:(w == 1)=false:=by simpa using w1
  by_cases w2:w=2
  .subst w2;obtain⟨o,eo,ho⟩:=zni hw ht hz (nz rfl) (c.fdiv 16);refine⟨_,key ((gl.map AV).set a (AV ((gl[a]).1,(gl[a]).2++[o.share]))) _ ?_ rfl,.inr (.inr (.inl ⟨rfl,gl.take a,gl.drop (a+1),gl[a],o.share,set_is _,h1,h2,hg,ho,b1,b2⟩))⟩;have ixn:Bp (gl.map AV).length (a:Int)=some a:=by rw[ya1];exact ixn
   have lq:(gl[a]).2.length+1<=100000:=by have:=hg.lks.2.2;omega
   have so1:Ar ((gl[a]).2++[o])=(gl[a]).2++[o.share]:=by rw[Cc,yb1,<- Cc,AJ _ sg];rfl
   have so2:Ar ((gl[a]).2++[o.share])=(gl[a]).2++[o.share]:=by rw[Cc,yb1,<- Cc,AJ _ sg];simp[zdc]
   generalize (gl[a]).2=Q at *;generalize gl.map AV=G at *
   simp![ei,sg,AJ _ sg,ixn,Ao,Ah,s16,eo,lq,so1,so2]
  .have q2:(w == 2)=false:=by simpa using w2
   by_cases w3:w=3
   .subst w3;refine⟨[],key [] _ ?_ rfl,.inr (.inr (.inr ⟨rfl,rfl⟩))⟩;generalize gl.map AV=G at *
    simp![ei]
   .have q3:(w == 3)=false:=by simpa using w3
    refine⟨_,key (gl.map AV) _ ?_ rfl,.inl ⟨w1,w2,w3,gl,rfl,gne,by omega,hG⟩⟩
    generalize gl.map AV=G at *
    simp![ei,q1,q2,q3]
abbrev Tq:Stmt:=AI 81
def Iy:AH :=
 (AF (Ac (BP AD) (AE 3))
 (AF (HI 5 CQ (Ac (AN Dd (AB (AA 0) (AB (AA 1) (AB (AA 2) AD)))) (AE 3)) (AF (Ac (BX (BB (m1 (EN Lg) (AA 5)) (BB (m1 (EN Le) (AA 5)) (BB (m1 (EN Lc) (AA 5)) AD)))) (AE 4)) (AF (Ac (m2 B7 (AA 4) (BX (BB (BU (m1 (EN Lh) (AA 5)) (BU (m1 (EN Ld) (AA 5)) (m1 (EN Lf) (AA 5)))) AD))) (AE 3)) A4)))
 (AM (AA 3))))
def Dg:List T->Option Ru:=AX 3 6 Iy
abbrev Y8:Fn:=⟨10,["_law_machine","_law_goal_here","_law_paper"],Dg⟩
abbrev zhn:Gx:={ Bc with xs:=[("WalkError",CQ)],sb:=[("NoMark",Lg),("NoRoom",Le),("BadMachine",Lh),("TooMany",Ld),("NoRoad",Lf)],sv:=[("ValueError",Lc)] }
abbrev zhu:Gm:=gA ["_law_machine","_law_goal_here","_law_paper","_law_found","_law_some","e"] Tq 9 [("lets_by",PZ)] ["isinstance"] (ox:=zhn)
theorem zi8:Ck zhu Y8 Tq Iy:={}
abbrev Cz(l:List Bool):T:=.lst (l.map T.bl)
theorem zj4{M G P:T}(sM:M.sh=true)(sG:G.sh=true)(sP:P.sh=true){b:Bool}(h:Dd [M,G,P]=some (.ok (.bl b))):Dg [M,G,P]=some (.ok (.bl b)):=by
 unfold Dg Iy
 simp![sM,AO _ sM,sG,AO _ sG,sP,AO _ sP,h]
theorem zf4{M G P:T}(sM:M.sh=true)(sG:G.sh=true)(sP:P.sh=true)(h:Dd [M,G,P]=some (.exc "NoMark")):Dg [M,G,P]=some (.ok (Cz [true,false,true,false])):=by
 have p1:GW (Str.ofString "NoMark")=Str.ofString "NoMark":=by decide +kernel
 have p2:GV (Str.ofString "NoMark")=[]:=by ext
 have x0:CQ.lookup (Str.ofString "NoMark")=some ((CQ.lookup (Str.ofString "NoMark")).getD 0):=by decide +kernel
 have x1:Lg.lookup ((CQ.lookup (Str.ofString "NoMark")).getD 0)=some true:=by decide +kernel
 have x2:Le.lookup ((CQ.lookup (Str.ofString "NoMark")).getD 0)=some false:=by decide +kernel
 have x3:Lc.lookup ((CQ.lookup (Str.ofString "NoMark")).getD 0)=some true:=by decide +kernel
 have x4:Lh.lookup ((CQ.lookup (Str.ofString "NoMark")).getD 0)=some false:=by decide +kernel
 have x5:Ld.lookup ((CQ.lookup (Str.ofString "NoMark")).getD 0)=some false:=by decide +kernel
 have x6:Lf.lookup ((CQ.lookup (Str.ofString "NoMark")).getD 0)=some false:=by decide +kernel
 generalize (CQ.lookup (Str.ofString "NoMark")).getD 0=C at x0 x1 x2 x3 x4 x5 x6;unfold Dg Iy
 simp![sM,AO _ sM,sG,AO _ sG,sP,AO _ sP,h,p1,p2,x0,x1,x2,x3,x4,x5,x6]
 rfl
theorem zf3{M G P:T}(sM:M.sh=true)(sG:G.sh=true)(sP:P.sh=true)(h:Dd [M,G,P]=some (.exc "NoRoom")):Dg [M,G,P]=some (.ok (Cz [false,true,true,false])):=by
 have p1:GW (Str.ofString "NoRoom")=Str.ofString "NoRoom":=by decide +kernel
 have p2:GV (Str.ofString "NoRoom")=[]:=by ext
 have x0:CQ.lookup (Str.ofString "NoRoom")=some ((CQ.lookup (Str.ofString "NoRoom")).getD 0):=by decide +kernel
 have x1:Lg.lookup ((CQ.lookup (Str.ofString "NoRoom")).getD 0)=some false:=by decide +kernel
 have x2:Le.lookup ((CQ.lookup (Str.ofString "NoRoom")).getD 0)=some true:=by decide +kernel
 have x3:Lc.lookup ((CQ.lookup (Str.ofString "NoRoom")).getD 0)=some true:=by decide +kernel
 have x4:Lh.lookup ((CQ.lookup (Str.ofString "NoRoom")).getD 0)=some false:=by decide +kernel
 have x5:Ld.lookup ((CQ.lookup (Str.ofString "NoRoom")).getD 0)=some false:=by decide +kernel
 have x6:Lf.lookup ((CQ.lookup (Str.ofString "NoRoom")).getD 0)=some false:=by decide +kernel
 generalize (CQ.lookup (Str.ofString "NoRoom")).getD 0=C at x0 x1 x2 x3 x4 x5 x6;unfold Dg Iy
 simp![sM,AO _ sM,sG,AO _ sG,sP,AO _ sP,h,p1,p2,x0,x1,x2,x3,x4,x5,x6]
 rfl
abbrev NA:Stmt:=AI 82
def QP:AG :=
 (AN Gs (AB (m2 B9 (AA 1) (mC (.int 6))) (AB (AA 0) AD)))
def QO:AG :=
 (AN Gs (AB (m2 B9 (AA 1) (mC (.int 11))) (AB (AA 0) AD)))
def QN:AG :=
 (BP (AB (AA 0) (AB (BX AD) AD)))
def QM:AG :=
 (BP (AB (AA 0) (AB (AN Hv (AB (m1 Bu (AA 1)) AD)) AD)))
def Jx:AH :=
 (AF (Ac (m2 Bs (AA 8) (mC (.int 5))) (AE 9))
 (AF (Ac (AN IB (AB (m2 B9 (AA 8) (mC (.int 10))) (AB (AA 4) (AB (AA 3) (AB (AN Gs (AB (m2 B9 (AA 1) (mC (.int 11))) (AB (mC (.int 5)) AD))) (AB (AA 9) AD)))))) (AE 10))
 (AF (A5 (m2 Az (AA 9) (mC (.int 1))) (Ac (AN IB (AB (m2 B9 (AA 8) (mC (.int 10))) (AB (AA 4) (AB (AA 3) (AB (Aj (AA 2) (mC (.int 4))) (AB (AA 9) AD)))))) (AE 10)) A4)
 (AF (DP 11 (m1 CI (AA 7)))
 (AF (Ac (m2 Az (m2 Bs (m2 B9 (AA 8) (mC (.int 5))) (mC (.int 2))) (mC (.int 1))) (AE 12))
 (AF (A5 (AA 12) (IZ 11 (m2 Bs (m2 B9 (AA 8) (mC (.int 10))) (m2 B7 (m1 Bu (AA 11)) (mC (.int 1)))) (BP (AB (Aj (AA 2) (mC (.int 3))) (AB (AN Hv (AB (m1 Bu (AA 3)) AD)) AD)))) A4)
 (AF (GO 11) (AF (Ac (BX (BB (m1 CI (AA 10)) (BB (m1 CI (AA 11)) AD))) (AE 13))
 (AF (Ac (AN Dg (AB (AA 6) (AB (Aj (AA 13) (mC (.int 0))) (AB (Aj (AA 13) (mC (.int 1))) AD)))) (AE 14))
 (AF (Ac (m2 Gb (AA 10) (BX AD)) (AE 15))
 (AF (A5 (AA 12) (Ac (BX (BB (mC (.bl false)) (BB (mC (.bl true)) (BB (mC (.bl true)) (BB (mC (.bl false)) AD))))) (AE 15)) A4)
 (AF (A5 (m2 C6 (AA 9) (BP (AB (mC (.int 1)) (AB (mC (.int 2)) AD)))) (Ac (BX (BB (mC (.bl true)) (BB (mC (.bl false)) (BB (mC (.bl true)) (BB (mC (.bl false)) AD))))) (AE 15)) A4)
 (AF (GO 11) (AF (A5 (BU (m2 Cp (AA 13) (BX (BB (AA 10) (BB (AA 11) AD)))) (BU (m2 Cp (m1 (Bv "list") (AA 14)) (m1 (Bv "list") (AA 15))) (m2 Cp (AA 14) (AA 15)))) (AM (mC (.bl false))) A4)
 (A5 (m2 (BQ true) (AN Dd (AB (AA 6) (AB (BX AD) (AB (m1 CI (AA 7)) AD)))) (mC (.bl true))) (AM (mC (.bl false))) A4)))))))))))))))
def Kv:AH :=
 (AF (Ac (AN ML (AB (AA 0) (AB (mC (.int 0)) AD))) (AE 1))
 (AF (Ac (BA 1 [1] (DR (AB (mC (.int 5)) AD)) (AE 0) (mC (.bl true)) QP) (AE 2))
 (AF (Ac (BA 1 [1] (DR (AB (m2 B7 (mC (.int 1)) (m2 Bs (AA 1) (mC (.int 2)))) AD)) (AE 0) (mC (.bl true)) QO) (AE 3))
 (AF (Ac (Bt (Fj (AA 2) none (some (m2 B7 (mC (.int 1)) (m2 Bs (m2 B9 (AA 1) (mC (.int 2))) (mC (.int 3)))))) (G3 (AA 2) none (some (m2 B7 (mC (.int 1)) (m2 Bs (m2 B9 (AA 1) (mC (.int 2))) (mC (.int 3))))))) (AE 4))
 (AF (Ac (BX (BB (G4 MO [(.str "")] (AB (Aj (AA 4) (mC (.int 0))) (AB (Aj (AA 4) (m1 EK (mC (.int 1)))) (AB (BX AD) (AB (BX (BB (Aj (AA 3) (mC (.int 0))) AD)) AD))))) AD)) (AE 5))
 (AF (Ac (G4 MK [] (AB (m1 CI (AA 3)) (AB (BA 1 [] (Ay (AA 4)) (AE 0) (mC (.bl true)) QN) (AB (AA 5) AD)))) (AE 6))
 (AF (Ac (BA 1 [3] (Ay (AA 4)) (AE 0) (mC (.bl true)) QM) (AE 7))
 (AF (Bo (Ay (m2 B7 (Bt (Fj (AA 0) (some (mC (.int 1))) (some (mC (.int 8)))) (G3 (AA 0) (some (mC (.int 1))) (some (mC (.int 8))))) (BX (BB (m2 B9 (AA 1) (mC (.int 17))) AD)))) (AE 8) Jx)
 (AM (mC (.bl true)))))))))))
def Qg:List T->Option Ru:=AX 1 16 Kv
abbrev zoj:Fn:=⟨11,["_law_script"],Qg⟩
abbrev zoe:Gx:={ Bc with nw:=[("Door",Ye,[(4,[(.str "")])]),("Machine",Pg,[(3,[])])] }
abbrev zog:Gm:=gA ["_law_script","_law_first","_law_names","_law_watches","_law_rooms","_law_doors","_law_machine","_law_good","_law_cell","_law_way","_law_goal_here","_law_paper","_law_strange","_law_handed","_law_found","_law_due"] NA 10 [("_law_cell_at",Yc),("_law_word",Y7),("everywhere",YT),("_law_goal",Yb),("_law_said",Y8),("lets_by",PZ)] ["range","list","len","isinstance"] ["_law_paper"] ["_law_first","_law_watches"] (ox:=zoe)
theorem zou:Ck zog zoj NA Kv:={}
theorem wd_at{y:Str}(h:y∈CT):∃w,w<5/\EC w=y:=by
 unfold CT at h;simp only[yaa,yar,yed]at h
 rcases h with rfl|rfl|rfl|rfl|rfl
 .exact⟨0,by decide,rfl⟩
 .exact⟨1,by decide,rfl⟩
 .exact⟨2,by decide,rfl⟩
 .exact⟨3,by decide,rfl⟩
 .exact⟨4,by decide,rfl⟩
theorem zjk{ws:List Str}{t:T}(h:MQ ws t):∃l,Look ws.length l/\1<=l.2.2/\E4 ws t=DW l:=by
 obtain⟨x,y,n,rfl,hx,hy,hn⟩:=h;obtain⟨j,ej,hj,_⟩:=JN hx;obtain⟨w,hw,rfl⟩:=wd_at hy;refine⟨(j+1,w,n),⟨by simp,by simpa using hj,hw⟩,hn,?_⟩
 show T.tup [.int (((CK ws x).getD 0:Int)+1),.str (EC w),.int n]=_;rw[ej]
 rfl
def HU(ws:List Str)(gl:List (Str×List T)):List (Str×List T):=gl.map λg=>(g.1,g.2.map (E4 ws))
theorem zns{ws rn:List Str}{gl:List (Str×List T)}(h:∀g∈gl,G1 ws rn g):∀g∈HU ws gl,g.1∈rn/\(g.2=[]\/∃l,Look ws.length l/\1<=l.2.2/\g.2=[DW l]):=λg hg=>by
 obtain⟨g0,h0,rfl⟩:=yag.mp hg;refine⟨(h g0 h0).1,?_⟩
 rcases(h g0 h0).2 with e|⟨t,e,ht⟩
 .exact .inl (by show g0.2.map _=[];rw[e];rfl)
 .obtain⟨l,h1,h2,h3⟩:=zjk ht;exact .inr ⟨l,h1,h2,by show g0.2.map _=_;rw[e,yaq,h3];rfl⟩
theorem zfo{ws:List Str}(hw:B0 ws){l:List T}{o:T}(h:l=[]\/∃t,l=[t]/\MQ ws t)(ho:Ql ws o):EW [.lst (l++[o]),.lst (ws.map T.str),C4]=some (.ok (.bl false)):=by
 rcases h with rfl|⟨t,rfl,x,y,n,rfl,hx,hy,hn⟩
 .exact Xc (n:=1) (g:=λ_=>o) (p:=λ_=>false) (by decide) (λ_=>ho.1) λ_ _=>ho.2.1
 .have e:=HW hw (hw x hx) (Gw y hy) (t:=.int n) rfl (HN n);rw[ye6 hx,ye6 hy,ye6 (show(0:Int)<=n by omega)]at e
  refine Xc (n:=2) (g:=λi=>if i=0 then .tup [.str x,.str y,.int n] else o) (p:=λi=>i == 0) (by decide) (λi=>?_) λi hi=>?_
  .split
   .rfl
   .exact ho.1
  .split
   .subst_vars
    exact e
   .rename_i q;rw[show(i == 0)=false by simpa using q]
    exact ho.2.1
theorem Uo{M:Mc}(h:McOk M){gl:List (Str×List T)}(hg:∀g∈gl,G1 M.ws M.nm g)(hl:gl.length<=2):Ej [Ae M,.lst (gl.map AV)]=some (.ok (.own ((HU M.ws gl).map AV))):=by
 have:=pg_ok h (G1.gls hg) (by omega)
 unfold HU;rw[yba];exact this
section
variable {M:Mc}(h:McOk M)(hs:II M){d:Dr}(hd:M.ds=[d])(hg:d.g=[])(hz:d.z="")
include h hs hd hg hz
theorem verd{z:Str}(tz:PyData.strOk z=true){w:Int}(nz:w=1->z∉M.nm){L:List T}(hL:IF M.ws M.nm z w L){x:Str}(tx:PyData.strOk x=true)(nx:x∉M.nm)(b:Bool){ps:List Str}(hp:ps=if b then ps else M.nm)(hb:b=true->x∈ps/\∀y∈ps,y=x\/y∈M.nm)(pl:ps.length<=1000):AS L=true/\Dg [Ae M,.lst L,.lst (ps.map (Ap (Zf M.ws.length)))]=some (.ok (if w=1\/w=2 then Cz [true,false,true,false] else if b=true then Cz [false,true,true,false] else .bl (decide (L=[])))):=by
 have sm:=E8 h;have sZ:(Zf M.ws.length).sh=true:=DC _ _;have sp:=Fc sZ ps
 have sP:(T.lst (ps.map (Ap (Zf M.ws.length)))).sh=true:=by
  show((!false) && AS (ps.map (Ap (Zf M.ws.length))))=true;rw[sp];rfl
 have good:∀gl:List (Str×List T),(∀g∈gl,G1 M.ws M.nm g)->gl.length<=2->L=gl.map AV->¬ (w=1\/w=2)->AS L=true/\Dg [Ae M,.lst L,.lst (ps.map (Ap (Zf M.ws.length)))]=some (.ok (if w=1\/w=2 then Cz [true,false,true,false] else if b=true then Cz [false,true,true,false] else .bl (decide (L=[])))):=λgl hG hl e hw=>by
  subst e;have sg:=(G1.gls hG).sh
  have sG:(T.lst (gl.map AV)).sh=true:=by
   show((!false) && AS (gl.map AV))=true;rw[sg];rfl
  have pg:=Uo h hG hl;refine⟨sg,?_⟩;rw[if_neg hw];have hms:=zns hG;cases b with
  |true =>
   rw[if_pos rfl];obtain⟨b1,b2⟩:=hb rfl;refine zf3 sm sG sP (zkm h sG ?_ pg sZ (λy hy=>?_) pl ⟨x,b1,nx⟩)
   .exact Eu λg hg=>by
     have:AS g.2=true:=by
      rcases(hms g hg).2 with e|⟨l,_,_,e⟩<;>rw[e]<;>rfl
     simp![this]
   .rcases b2 y hy with rfl|q
    .exact tx
    .exact h.tn y q
  |false =>
   rw[if_neg (by decide)]
   have hp:ps=M.nm:=hp;subst hp
   have e:decide (gl.map AV=[])=decide (HU M.ws gl=[]):=by
    unfold HU;cases gl<;>rfl
   rw[e];exact zj4 sm sG sP (XH h hs hd hg hz sG pg hms (by unfold HU;rw[ya1];omega))
 have bad:∀(g1 g2:List (Str×List T)) (t:T),(∀g∈g1,G1 M.ws M.nm g)->(∀g∈g2,G1 M.ws M.nm g)->g1.length<=2->g2.length<=2->t.sh=true->Ei [Ae M,.lst (M.nm.map T.str),t]=some (.exc "NoMark")->L=g1.map AV++t::g2.map AV->(w=1\/w=2)->AS L=true/\Dg [Ae M,.lst L,.lst (ps.map (Ap (Zf M.ws.length)))]=some (.ok (if w=1\/w=2 then Cz [true,false,true,false] else if b=true then Cz [false,true,true,false] else .bl (decide (L=[])))):=λg1 g2 t h1 h2 l1 l2 st pm e hw=>by
  have s1:=(G1.gls h1).sh;have s2:=(G1.gls h2).sh
  have sL:AS L=true:=by
   rw[e,Bn,yce,ybw,st,<- Bn,<- Bn,s1,s2]
   rfl
  have sG:(T.lst L).sh=true:=by
   show((!false) && AS L)=true;rw[sL];rfl
  refine⟨sL,?_⟩;rw[if_pos hw];refine zf4 sm sG sP (lb_no h sG sP ?_);rw[e];exact pg_no h (G1.gls h1) st pm s2 (by simp;omega)
 rcases hL with ⟨w1,w2,w3,gl,e,_,l2,hG⟩|⟨w1,g1,g2,g,e,h1,h2,hg',l1,l2⟩|⟨w2,g1,g2,g,o,e,h1,h2,hg',ho,l1,l2⟩|⟨w3,e⟩
 .exact good gl hG l2 e (λq=>q.elim w1 w2)
 .have sg:AS g.2=true:=hg'.lks.2.1.sh;exact bad g1 g2 (AV (z,g.2)) h1 h2 l1 l2 (by simp![sg]) (zjj h tz (nz w1) sg) e (.inl w1)
 .have sg:AS (g.2++[o])=true:=by
   have:=hg'.lks.2.1.sh;rw[Bn,yce,<- Bn,this,ybw,ho.1]
   rfl
  exact bad g1 g2 (AV (g.1,g.2++[o])) h1 h2 l1 l2 (by simp![sg]) (zgz h hg'.1 (by simp![sg]) (zfo h.tw hg'.2 ho)) e (.inr w2)
 .exact good [] (λ_ q=>by cases q) (by decide) e (by omega)
end
theorem zp1{α:Type}{l:List α}(h:l≠[])(d:α):Au l (-1)=some (l.getD (l.length - 1) d):=by
 have hl :=List.length_pos_iff.mpr h
 have e:Au l (-1)=l[(l.length - 1)]?:=by
  have ix:Bp l.length (-1)=some (l.length - 1):=by
   unfold Bp;simp
   omega
  unfold Au;rw[ix]
  rfl
 rw[e,yam,ya0 (by omega)]
 rfl
theorem zoq{α:Type}(l:List α)(k:Nat):Cj l none (some (k:Int))=l.take k:=by
 unfold Cj;rw[HT.sIx_none,HT.sIx_nat,List.drop_zero,Nat.sub_zero]
 by_cases h:k<=l.length
 .rw[yd5 h]
 .rw[Nat.min_eq_right (by omega),yct (ya9 _),yct (by omega)]
def AK(c:Int)(n:Nat):List Str:=(List.range n).map (Aw c)
theorem Wd{c:Int}{n:Nat}(h:n<=26):(AK c n).Nodup:=List.pairwise_map.mpr (List.nodup_range.imp_of_mem λ{a b} ha hb hab e=>hab (Wa (by have:=ybo.mp ha;omega) (by have:=ybo.mp hb;omega) e))
theorem N2{c:Int}{n k:Nat}(h:n<=k)(hk:k<26):Aw c k∉AK c n:=λz=>by
 obtain⟨j,hj,e⟩:=yag.mp z;have hj:=ybo.mp hj;have:=Wa (by omega) hk e
 omega
theorem N3{c:Int}{n k:Nat}(h:k<n):Aw c k∈AK c n:=yag.mpr ⟨k,ybo.mpr h,rfl⟩
theorem Cg(c:Int)(n:Nat):(AK c n).length=n:=by unfold AK;rw[ya1,ycp]
theorem Wc{c:Int}{n:Nat}{x:Str}(h:x∈AK c n):Qe x:=by
 obtain⟨k,_,rfl⟩:=yag.mp h;exact W7 c k
def Dw(f:Int)(p:Nat):Dr:=⟨Aw (f.fdiv 6) 0,Aw (f.fdiv 6) (p - 1),[],[Aw (f.fdiv 11) 0],""⟩
def Cr(f:Int)(m p:Nat):Mc:=⟨AK (f.fdiv 11) m,(AK (f.fdiv 6) p).map λr=>(r,[]),[Dw f p]⟩
theorem Kp(f:Int)(m p:Nat):(Cr f m p).rs.map (·.1)=AK (f.fdiv 6) p:=by
 show((AK (f.fdiv 6) p).map λr=>(r,([]:List T))).map (·.1)=_
 rw[yba];exact List.map_id _
theorem ZE(f:Int){m p:Nat}(m1:1<=m)(p1:1<=p):DrOk (AK (f.fdiv 11) m) (AK (f.fdiv 6) p) (Dw f p) :=
 ⟨N3 (by omega),N3 (by omega),λ_ q=>(by cases q),by show 0<=1000;omega,λx hx=>by
  cases yab.mp hx;exact N3 (by omega),by show [_].Nodup;simp,by show 1<=100;omega,.inl rfl⟩
theorem Nc(f:Int){m p:Nat}(m1:1<=m)(m2:m<=2)(p1:1<=p)(p2:p<=3):McOk (Cr f m p):=by
 refine⟨λx hx=>SF (Wc hx),Wd (by omega),by show(AK _ m).length<=7;rw[Cg];omega,⟨?_,?_,λr hr=>?_,?_,λr hr=>?_⟩,λd hd=>?_,by show 1<=200;omega⟩
 .show 1<=((AK _ p).map _).length;rw[ya1,Cg];omega
 .show((AK _ p).map _).length<=64;rw[ya1,Cg];omega
 .obtain⟨x,hx,rfl⟩:=yag.mp hr;have:=Wc hx;exact⟨ziu this.1,this.2.1,by have:=this.2.2;show x.cps.size<=60;omega⟩
 .rw[Kp];exact Wd (by omega)
 .obtain⟨x,hx,rfl⟩:=yag.mp hr;exact⟨λ_ q=>(by cases q),by show 0<=1000;omega⟩
 .cases yab.mp hd;rw[Kp];exact ZE f m1 p1
abbrev GS(ns:List Int)(f:Int)(m p:Nat)(D x8 x9 x10 x11 x12 x13 x14 x15:Option T):AL:=[some (Br ns),some (.int f),some (.lst ((AK (f.fdiv 6) 5).map T.str)),some (.lst ((AK (f.fdiv 11) m).map T.str)),some (.lst ((AK (f.fdiv 6) p).map T.str)),D,some (Ae (Cr f m p)),some (.lst ((AK (f.fdiv 6) p).map (Ap (Zf m)))),x8,x9,x10,x11,x12,x13,x14,x15]
theorem zkb{L:List T}{ws rn:List Str}{z:Str}{w:Int}(hw:B0 ws)(hr:B0 rn)(tz:PyData.strOk z=true)(h:IF ws rn z w L):FitS (.lst L) 5:=by
 have g0:∀g:Str×List T,G1 ws rn g->∀t∈g.2,FitS t 2:=λg hg t ht=>by
  rcases hg.2 with e|⟨u,e,x,y,n,rfl,hx,hy,_⟩
  .rw[e]at ht;cases ht
  .rw[e]at ht;cases yab.mp ht;exact FitS.nd (Ga (Bk (Fit.str (hw x hx) 1)) (Bk (Fit.str (Gw y hy) 1)) (Bk (Fit.int n 1)))
 have r0:∀(x:Str) (l:List T),PyData.strOk x=true->(∀t∈l,FitS t 2)->FitS (AV (x,l)) 4:=λx l hx hl=>FitS.nd λt ht=>by
  simp only[yaa,yar,yed]at ht
  rcases ht with rfl|rfl
  .exact Bk (Fit.str hx 3)
  .exact FitS.nd hl
 have r1:∀g:Str×List T,G1 ws rn g->FitS (AV g) 4:=λg hg=>r0 g.1 g.2 (hr _ hg.1) (g0 g hg)
 refine FitS.nd λt ht=>?_
 rcases h with ⟨_,_,_,gl,rfl,_,_,hG⟩|⟨_,g1,g2,g,rfl,h1,h2,hg,_,_⟩|⟨_,g1,g2,g,o,rfl,h1,h2,hg,ho,_,_⟩|⟨_,rfl⟩
 .obtain⟨g,hg,rfl⟩:=yag.mp ht;exact r1 g (hG g hg)
 .rcases yax.mp ht with q|q
  .obtain⟨g,hg,rfl⟩:=yag.mp q;exact r1 g (h1 g hg)
  .rcases yaa.mp q with rfl|q
   .exact r0 _ _ tz (g0 g hg)
   .obtain⟨g,hg,rfl⟩:=yag.mp q;exact r1 g (h2 g hg)
 .rcases yax.mp ht with q|q
  .obtain⟨g,hg,rfl⟩:=yag.mp q;exact r1 g (h1 g hg)
  .rcases yaa.mp q with rfl|q
   .exact r0 _ _ (hr _ hg.1) λt ht=>(yax.mp ht).elim (g0 g hg t) λq=>yab.mp q▸ho.2.2
   .obtain⟨g,hg,rfl⟩:=yag.mp q;exact r1 g (h2 g hg)
 .cases ht
theorem zjt{ps:List Str}(h:B0 ps)(m:Nat):FitS (.lst (ps.map (Ap (Zf m)))) 5:=FitS.nd λt ht=>by
 obtain⟨x,hx,rfl⟩:=yag.mp ht;refine FitS.nd λt ht=>?_
 simp only[yaa,yar,yed]at ht
 rcases ht with rfl|rfl
 .exact Bk (Fit.str (h x hx) 3)
 .exact(Bk (zle _ _)).mono (by decide)
theorem Xh{ws rn:List Str}{z:Str}{w:Int}{L:List T}(h:IF ws rn z w L):AS L=true:=by
 have g1:∀{gl:List (Str×List T)},(∀g∈gl,G1 ws rn g)->AS (gl.map AV)=true:=λh=>(G1.gls h).sh
 have ap:∀{a b:List T} {t:T},AS a=true->AS b=true->t.sh=true->AS (a++t::b)=true:=λha hb ht=>by
  rw[Bn,yce,ybw,ht,<- Bn,<- Bn,ha,hb]
  rfl
 rcases h with ⟨_,_,_,gl,rfl,_,_,hG⟩|⟨_,g1',g2,g,rfl,h1,h2,hg,_,_⟩|⟨_,g1',g2,g,o,rfl,h1,h2,hg,ho,_,_⟩|⟨_,rfl⟩
 .exact g1 hG
 .have:=hg.lks.2.1.sh;exact ap (g1 h1) (g1 h2) (by simp![this])
 .have:AS (g.2++[o])=true:=by
   have:=hg.lks.2.1.sh;rw[Bn,yce,<- Bn,this,ybw,ho.1]
   rfl
  exact ap (g1 h1) (g1 h2) (by simp![this])
 .rfl
structure Dn64(f:Int)(m p:Nat)(w:Int)(b:Bool)(L:List T)(ps:List Str):Prop where
 s:AS L=true
 said:Dg [Ae (Cr f m p),.lst L,.lst (ps.map (Ap (Zf m)))]=some (.ok (if w=1\/w=2 then Cz [true,false,true,false] else if b=true then Cz [false,true,true,false] else .bl (decide (L=[]))))
 fit:FitS (.lst [.lst L,.lst (ps.map (Ap (Zf m)))]) 6
 ln:L.length<=10
theorem dn64(f:Int){m p:Nat}(m1:1<=m)(m2:m<=2)(p1:1<=p)(p2:p<=3){z:Str}(tz:PyData.strOk z=true){w:Int}(nz:w=1->z∉AK (f.fdiv 6) p){L:List T}(hL:IF (AK (f.fdiv 11) m) (AK (f.fdiv 6) p) z w L)(b:Bool){k:Nat}:Dn64 f m p w b L (if b then (AK (f.fdiv 6) p).take k++Aw (f.fdiv 6) 3::(AK (f.fdiv 6) p).drop k else AK (f.fdiv 6) p):=by
 have h:=Nc f m1 m2 p1 p2;have en:(Cr f m p).nm=AK (f.fdiv 6) p:=Kp f m p;have ew:(Cr f m p).ws.length=m:=Cg _ _
 have hs:II (Cr f m p):=λr hr=>by
  obtain⟨x,_,rfl⟩:=yag.mp hr
  rfl
 have n3:Aw (f.fdiv 6) 3∉AK (f.fdiv 6) p:=N2 p2 (by decide)
 have tw:B0 (AK (f.fdiv 11) m):=h.tw;have tn:B0 (AK (f.fdiv 6) p):=en▸h.tn
 have pin:∀y∈(AK (f.fdiv 6) p).take k++Aw (f.fdiv 6) 3::(AK (f.fdiv 6) p).drop k,y=Aw (f.fdiv 6) 3\/y∈AK (f.fdiv 6) p:=λy hy=>by
  rcases yax.mp hy with q|q
  .exact .inr (List.mem_of_mem_take q)
  .rcases yaa.mp q with q|q
   .exact .inl q
   .exact .inr (List.mem_of_mem_drop q)
 have tps:∀b:Bool,B0 (if b then (AK (f.fdiv 6) p).take k++Aw (f.fdiv 6) 3::(AK (f.fdiv 6) p).drop k else AK (f.fdiv 6) p):=λb=>by
  cases b with
  |false=>exact tn
  |true =>
   intro y hy
   rcases pin y hy with rfl|q
   .exact HQ _ _
   .exact tn y q
 have lps:(if b then (AK (f.fdiv 6) p).take k++Aw (f.fdiv 6) 3::(AK (f.fdiv 6) p).drop k else AK (f.fdiv 6) p).length<=1000:=by
  split
  .rw[ybe,yb9,yat,ydm,Cg];omega
  .rw[Cg];omega
 have v:=verd h hs (d:=Dw f p) rfl rfl rfl tz (w:=w) (by rw[en];exact nz) (L:=L) (by rw[en];exact hL) (x:=Aw (f.fdiv 6) 3) (HQ _ _) (by rw[en];exact n3) b (ps:=if b then (AK (f.fdiv 6) p).take k++Aw (f.fdiv 6) 3::(AK (f.fdiv 6) p).drop k else AK (f.fdiv 6) p) (by cases b<;>simp[en]) (λe=>by
  subst e;refine⟨yae _ (.head _),λy hy=>?_⟩
  rw[en];exact pin y hy) lps
 rw[ew]at v;refine⟨v.1,v.2,FitS.nd λt ht=>?_,?_⟩
 .simp only[yaa,yar,yed]at ht
  rcases ht with rfl|rfl
  .exact zkb tw tn tz hL
  .exact zjt (tps b) m
 .rcases hL with ⟨_,_,_,gl,rfl,_,l2,_⟩|⟨_,g1,g2,g,rfl,_,_,_,l1,l2⟩|⟨_,g1,g2,g,o,rfl,_,_,_,_,l1,l2⟩|⟨_,rfl⟩
  .rw[ya1];omega
  .simp;omega
  .simp;omega
  .simp
theorem zok(L:List T):Gb (.lst L) (.lst [])=some (.bl (decide (L=[]))):=by
 cases L with
 |nil=>rfl
 |cons a l=>rfl
theorem Yt{m:Nat}(hm:m<=2):Hv [.int (m:Int)]=some (.ok (.own (oZ (m+1) Db.free))):=ev_ok (by omega)
theorem Ys(m:Nat):(T.own (oZ (m+1) Db.free)).share=Zf m:=by rw[T.share,NU]
theorem in12(w:Int):C6 (.int w) (.tup [.int 1,.int 2])=some (.bl (decide (w=1\/w=2))):=by
 have h:Ef (.int w) [.int 1,.int 2]=true:=by
  unfold Ef C7;simp[T.data,BD,Co,T.pln,PyData.canLay0,PyData.canLayAll0,PyData.depth,PyData.depthAll]
 have e:Fs (.int w) [.int 1,.int 2]=decide (w=1\/w=2):=by
  unfold Fs;simp only[BD,T.data,ycu,List.any_nil,PyData.eqv]
  by_cases a:w=1
  .subst a;rfl
  .by_cases b:w=2
   .subst b;rfl
   .simp[a,b]
    omega
 unfold C6;simp only[h,e,ye4]
def Bw(w:Int)(b:Bool)(L:List T):T:=if w=1\/w=2 then Cz [true,false,true,false] else if b=true then Cz [false,true,true,false] else .bl (decide (L=[]))
theorem zom(w:Int)(b:Bool)(L:List T):(Bw w b L).sh=true:=by
 unfold Bw;split
 .rfl
 .split<;>rfl
theorem zon(w:Int)(b:Bool)(L:List T):Cp (Bw w b L) (Bw w b L)=some (.bl false):=by
 unfold Bw;split
 .rfl
 .split
  .rfl
  .cases decide (L=[])<;>rfl
theorem zol(w:Int)(b:Bool)(L:List T):∃q,Bv "list" (Bw w b L)=some (.bl q):=by
 unfold Bw;split
 .exact⟨true,rfl⟩
 .split
  .exact⟨true,rfl⟩
  .exact⟨false,rfl⟩
theorem ne_bl(q:Bool):Cp (.bl q) (.bl q)=some (.bl false):=by cases q<;>rfl
abbrev DQ(S F N5 WS RN:T)(D:Option T)(MM GP:T)(x8 x9 x10 x11 x12 x13 x14 x15:Option T):AL:=[some S,some F,some N5,some WS,some RN,D,some MM,some GP,x8,x9,x10,x11,x12,x13,x14,x15]
theorem zow(ns:List Int)(f:Int){m p:Nat}(m1:1<=m)(m2:m<=2)(p1:1<=p)(p2:p<=3){D:Option T}(c:Int){x9 x10 x11 x12 x13 x14 x15:Option T}:∃y9 y10 y11 y12 y13 y14 y15,Jx (GS ns f m p D (some (.int c)) x9 x10 x11 x12 x13 x14 x15)=some (.nx (GS ns f m p D (some (.int c)) y9 y10 y11 y12 y13 y14 y15)):=by
 obtain⟨w,hwq⟩:∃w,c.fmod 5=w:=⟨_,rfl⟩;have h:=Nc f m1 m2 p1 p2;have sm:=E8 h;have en:(Cr f m p).nm=AK (f.fdiv 6) p:=Kp f m p;have ew:(Cr f m p).ws.length=m:=Cg _ _
 have hs:II (Cr f m p):=λr hr=>by
  obtain⟨x,_,rfl⟩:=yag.mp hr
  rfl
 have hw:AK (f.fdiv 11) m≠[]:=λq=>by have:=Cg (f.fdiv 11) m;rw[q]at this;simp at this;omega
 have hr:AK (f.fdiv 6) p≠[]:=λq=>by have:=Cg (f.fdiv 6) p;rw[q]at this;simp at this;omega
 have tw:B0 (AK (f.fdiv 11) m):=h.tw;have lr:(AK (f.fdiv 6) p).length<=100:=by rw[Cg];omega
 have w5:Gs [.int (f.fdiv 11),.int 5]=some (.ok (.str (Aw (f.fdiv 11) 5))):=MT (f.fdiv 11) (k:=5) (by decide)
 obtain⟨L1,e1,d1⟩:=Xf hw tw hr lr (c.fdiv 10) (z:=Aw (f.fdiv 11) 5) (HQ _ _) w (λ_=>N2 (by omega) (by decide))
 obtain⟨L2,e2,d2⟩:=Xf hw tw hr lr (c.fdiv 10) (z:=Aw (f.fdiv 6) 4) (HQ _ _) 1 (λq=>by cases q)
 have s1:=Xh d1;have s2:=Xh d2
 obtain⟨L,z,tz,nz,hL,eL⟩:∃L z,PyData.strOk z=true/\(w=1->z∉AK (f.fdiv 6) p)/\IF (AK (f.fdiv 11) m) (AK (f.fdiv 6) p) z w L/\L=if w=1 then L2 else L1:=by
  by_cases q:w=1
  .exact⟨L2,_,HQ _ _,λ_=>N2 (show p<=4 by omega) (by decide),q▸d2,by rw[if_pos q]⟩
  .exact⟨L1,_,HQ _ _,λz=>absurd z q,d1,by rw[if_neg q]⟩
 obtain⟨k,hk,ek⟩:∃k:Nat,k<=p/\(c.fdiv 10).fmod ((p:Int)+1)=(k:Int):=by
  rw[fm (by omega)]
  have q1:=yd6 (c.fdiv 10) (b:=(p:Int)+1) (by omega)
  have q2:=ydf (c.fdiv 10) (b:=(p:Int)+1) (by omega)
  exact⟨((c.fdiv 10) % ((p:Int)+1)).toNat,by omega,by omega⟩
 obtain⟨b,hb⟩:∃b:Bool,((c.fdiv 5).fmod 2 == 1)=b:=⟨_,rfl⟩;obtain⟨sL,said,fit,lL⟩:=dn64 f m1 m2 p1 p2 tz nz hL b (k:=k);have ei:∀i j:Int,Az (.int i) (.int j)=some (.bl (i == j)):=λi j=>ES
 have t5:Bh 5=true:=CB (by decide) (by decide)
 have t10:Bh 10=true:=CB (by decide) (by decide)
 have t11:Bh 11=true:=CB (by decide) (by decide)
 have sZ:(Zf m).sh=true:=DC _ _;have sp:=Fc sZ (AK (f.fdiv 6) p);have lp:((AK (f.fdiv 6) p).map (Ap (Zf m))).length=p:=by rw[ya1,Cg]
 have lw:((AK (f.fdiv 11) m).map T.str).length=m:=by rw[ya1,Cg]
 have sPP:AS ((if b then (AK (f.fdiv 6) p).take k++Aw (f.fdiv 6) 3::(AK (f.fdiv 6) p).drop k else AK (f.fdiv 6) p).map (Ap (Zf m)))=true:=Fc sZ _
 have ePP:(if b then (AK (f.fdiv 6) p).take k++Aw (f.fdiv 6) 3::(AK (f.fdiv 6) p).drop k else AK (f.fdiv 6) p).map (Ap (Zf m))=if b then ((AK (f.fdiv 6) p).map (Ap (Zf m))).take k++Ap (Zf m) (Aw (f.fdiv 6) 3)::((AK (f.fdiv 6) p).map (Ap (Zf m))).drop k else (AK (f.fdiv 6) p).map (Ap (Zf m)):=by
  cases b with
  |true=>simp only[ye4,yb1,yaq,ycv,List.map_drop]
  |false=>rfl
 have a4:Au ((AK (f.fdiv 6) 5).map T.str) 4=some (.str (Aw (f.fdiv 6) 4)):=Fx (by decide) rfl
 have a3:Au ((AK (f.fdiv 6) 5).map T.str) 3=some (.str (Aw (f.fdiv 6) 3)):=Fx (by decide) rfl
 have lby:Dd [Ae (Cr f m p),.lst [],.lst ((AK (f.fdiv 6) p).map (Ap (Zf m)))]=some (.ok (.bl true)):=by
  have:=XH h hs (d:=Dw f p) rfl rfl rfl (G:=.lst []) (ms:=[]) rfl (Uo h (gl:=[]) (λ_ q=>by cases q) (by decide)) (λ_ q=>by cases q) (by decide)
  rw[en,ew]at this;exact this
 have ev:=Yt m2;have es:=Ys m;generalize T.own (oZ (m+1) Db.free)=EV at *;rw[ePP]at said fit sPP;have sS:=SH ns;have sN:AS ((AK (f.fdiv 6) 5).map T.str)=true:=Ah _;have sW:AS ((AK (f.fdiv 11) m).map T.str)=true:=Ah _;have sR:AS ((AK (f.fdiv 6) p).map T.str)=true:=Ah _;have lk:k<=((AK (f.fdiv 6) p).map (Ap (Zf m))).length:=by omega
 have ll:((AK (f.fdiv 6) p).map (Ap (Zf m))).length<100000:=by omega
 have said:Dg [Ae (Cr f m p),.lst L,.lst (if b=true then ((AK (f.fdiv 6) p).map (Ap (Zf m))).take k++Ap (Zf m) (Aw (f.fdiv 6) 3)::((AK (f.fdiv 6) p).map (Ap (Zf m))).drop k else (AK (f.fdiv 6) p).map (Ap (Zf m)))]=some (.ok (Bw w b L)):=said
 have sE:=zom w b L;have nE:=zon w b L;obtain⟨q,tE⟩:=zol w b L;have nq:=ne_bl q;have ez:=zok L;have i12:=in12 w;have sx:(Ap (Zf m) (Aw (f.fdiv 6) 3)).sh=true:=by simp![sZ]
 unfold GS;generalize Aw (f.fdiv 6) 4=n4 at *;generalize Aw (f.fdiv 6) 3=n3 at *;generalize Aw (f.fdiv 11) 5=n5 at *;generalize Zf m=ZZ at *;generalize Br ns=S at *;generalize hN5:(AK (f.fdiv 6) 5).map T.str=N5 at *;generalize hWS:(AK (f.fdiv 11) m).map T.str=WS at *;generalize hRN:(AK (f.fdiv 6) p).map T.str=RN at *;generalize (AK (f.fdiv 6) p).map (Ap ZZ)=GP at *;generalize Ae (Cr f m p)=MM at *;generalize hPP:(if b=true then GP.take k++Ap ZZ n3::GP.drop k else GP)=PP at *
 refine⟨some (.int w),some (.lst L),some (.lst PP),some (.bl b),some (.lst [.lst L,.lst PP]),some (Bw w b L),some (Bw w b L),?_⟩;unfold Jx;show _=some (Out.nx (DQ S (.int f) (.lst N5) (.lst WS) (.lst RN) D MM (.lst GP) (some (.int c)) (some (.int w)) (some (.lst L)) (some (.lst PP)) (some (.bl b)) (some (.lst [.lst L,.lst PP])) (some (Bw w b L)) (some (Bw w b L))));refine sq (τ':=DQ S (.int f) (.lst N5) (.lst WS) (.lst RN) D MM (.lst GP) (some (.int c)) (some (.int w)) x10 x11 x12 x13 x14 x15) (by simp![hwq]) ?_
 refine sq (τ':=DQ S (.int f) (.lst N5) (.lst WS) (.lst RN) D MM (.lst GP) (some (.int c)) (some (.int w)) (some (.lst L1)) x11 x12 x13 x14 x15) (by simp![t10,t11,sR,AJ _ sR,sW,AJ _ sW,w5,e1,s1,AJ _ s1]) ?_
 refine sq (τ':=DQ S (.int f) (.lst N5) (.lst WS) (.lst RN) D MM (.lst GP) (some (.int c)) (some (.int w)) (some (.lst L)) x11 x12 x13 x14 x15) ?_ ?_
 .rw[eL]
  by_cases w1:w=1
  .subst w1
   simp![ei,t10,sR,AJ _ sR,sW,AJ _ sW,sN,AJ _ sN,a4,e2,s2,AJ _ s2]
  .have q1:(w == 1)=false:=by simpa using w1
   simp![ei,q1,w1]
 refine sq (τ':=DQ S (.int f) (.lst N5) (.lst WS) (.lst RN) D MM (.lst GP) (some (.int c)) (some (.int w)) (some (.lst L)) (some (.own GP)) x12 x13 x14 x15) (by simp![sp,AJ _ sp]) ?_
 refine sq (τ':=DQ S (.int f) (.lst N5) (.lst WS) (.lst RN) D MM (.lst GP) (some (.int c)) (some (.int w)) (some (.lst L)) (some (.own GP)) (some (.bl b)) x13 x14 x15) (by simp![t5,ei,hb]) ?_
 refine sq (τ':=DQ S (.int f) (.lst N5) (.lst WS) (.lst RN) D MM (.lst GP) (some (.int c)) (some (.int w)) (some (.lst L)) (some (.own PP)) (some (.bl b)) x13 x14 x15) ?_ ?_
 .rw[<- hPP];cases b with
  |false=>simp![]
  |true =>
   have k0:(0:Int)<=(k:Int):=by omega
   have k1:(k:Int)<=(p:Int):=by omega
   have z1:((p:Int)+1=0)=False:=eq_false (by omega)
   have pm:p<BV:=by unfold BV;omega
   simp![t10,AJ _ sp,lp,z1,pm,ek,sN,AJ _ sN,a3,sW,AJ _ sW,lw,ev,es,sZ,AO _ sZ,sp,ll,k0,k1,yc4]
 refine sq (τ':=DQ S (.int f) (.lst N5) (.lst WS) (.lst RN) D MM (.lst GP) (some (.int c)) (some (.int w)) (some (.lst L)) (some (.lst PP)) (some (.bl b)) x13 x14 x15) (by simp![sPP,AJ _ sPP]) ?_
 refine sq (τ':=DQ S (.int f) (.lst N5) (.lst WS) (.lst RN) D MM (.lst GP) (some (.int c)) (some (.int w)) (some (.lst L)) (some (.lst PP)) (some (.bl b)) (some (.lst [.lst L,.lst PP])) x14 x15) (by simp![sL,AJ _ sL,sPP,AJ _ sPP]) ?_
 refine sq (τ':=DQ S (.int f) (.lst N5) (.lst WS) (.lst RN) D MM (.lst GP) (some (.int c)) (some (.int w)) (some (.lst L)) (some (.lst PP)) (some (.bl b)) (some (.lst [.lst L,.lst PP])) (some (Bw w b L)) x15) (by
  generalize Bw w b L=E at *
  simp![sm,AO _ sm,sL,AJ _ sL,sPP,AJ _ sPP,said,sE,AO _ sE]) ?_
 refine sq (τ':=DQ S (.int f) (.lst N5) (.lst WS) (.lst RN) D MM (.lst GP) (some (.int c)) (some (.int w)) (some (.lst L)) (some (.lst PP)) (some (.bl b)) (some (.lst [.lst L,.lst PP])) (some (Bw w b L)) (some (.bl (decide (L=[]))))) (by simp![-Gb,sL,AJ _ sL,ez]) ?_
 refine sq (τ':=DQ S (.int f) (.lst N5) (.lst WS) (.lst RN) D MM (.lst GP) (some (.int c)) (some (.int w)) (some (.lst L)) (some (.lst PP)) (some (.bl b)) (some (.lst [.lst L,.lst PP])) (some (Bw w b L)) (some (if b=true then Cz [false,true,true,false] else .bl (decide (L=[]))))) (by cases b<;>simp![]<;>rfl) ?_
 refine sq (τ':=DQ S (.int f) (.lst N5) (.lst WS) (.lst RN) D MM (.lst GP) (some (.int c)) (some (.int w)) (some (.lst L)) (some (.lst PP)) (some (.bl b)) (some (.lst [.lst L,.lst PP])) (some (Bw w b L)) (some (Bw w b L))) ?_ ?_
 .by_cases w1:w=1\/w=2
  .rw[ye6 w1]at i12;have e:Bw w b L=Cz [true,false,true,false]:=by unfold Bw;rw[if_pos w1]
   rw[e];generalize (if b=true then Cz [false,true,true,false] else T.bl (decide (L=[])))=X at *
   simp![i12]
   rfl
  .rw[ydp w1]at i12;have e:(if b=true then Cz [false,true,true,false] else T.bl (decide (L=[])))=Bw w b L:=by unfold Bw;rw[if_neg w1]
   rw[e];generalize Bw w b L=X at *
   simp![i12]
 generalize Bw w b L=E at *;have nh:=fit.ne (by decide) rfl fit.fit
 refine sq (τ':=DQ S (.int f) (.lst N5) (.lst WS) (.lst RN) D MM (.lst GP) (some (.int c)) (some (.int w)) (some (.lst L)) (some (.lst PP)) (some (.bl b)) (some (.lst [.lst L,.lst PP])) (some E) (some E)) (by simp![sPP,AJ _ sPP]) ?_
 refine Mv (by simp![sL,AJ _ sL,sPP,AJ _ sPP,nh,-Bv,sE,AO _ sE,tE,nq,nE]) ?_
 simp![sm,AO _ sm,sp,AJ _ sp,lby,T.isB,BEq.rfl]
theorem law_true(ns:List Int)(hns:ns.length<=63):Qg [Br ns]=some (.ok (.bl true)):=by
 have F:=SH ns;have F2:=zch ns;have c0:=zl5 ns (k:=0) (by decide)
 generalize ns.getD (0:Int).toNat 0=f at *
 obtain⟨m,em,m1,m2⟩:∃m:Nat,1+f.fmod 2=(m:Int)/\1<=m/\m<=2:=by
  rw[fm (j:=2) (by decide)]
  exact⟨(1+f % 2).toNat,by omega,by omega,by omega⟩
 obtain⟨p,ep,p1,p2⟩:∃p:Nat,1+(f.fdiv 2).fmod 3=(p:Int)/\1<=p/\p<=3:=by
  rw[fm (j:=3) (by decide)]
  exact⟨(1+f.fdiv 2 % 3).toNat,by omega,by omega,by omega⟩
 have h:=Nc f m1 m2 p1 p2;have sm:=E8 h;have t2:Bh 2=true:=CB (by decide) (by decide)
 have t6:Bh 6=true:=CB (by decide) (by decide)
 have t11:Bh 11=true:=CB (by decide) (by decide)
 have t17:Bh 17=true:=CB (by decide) (by decide)
 have o5:Ce 5=true:=@decide_eq_true _ (Classical.propDecidable _) ⟨by decide,by decide⟩
 have om:Ce (m:Int)=true:=@decide_eq_true _ (Classical.propDecidable _) ⟨by omega,by omega⟩
 have r5:EG 0 (5:Int).toNat=mT 5 λi=>.int i:=F9
 have rm:EG 0 m=mT m λi=>.int i:=F9
 have lc:∀(g:AG) (c:Int) (n:Nat),n<=26->(∀(k:Nat),k<n->g [some (.int k),some (.int f)]=some (.v (.str (Aw c k)) false))->BZ (AE 0) (mC (.bl true)) g (mT n λi=>.int i) [none,some (.int f)]=some ((AK c n).map T.str):=λg c n hn hg=>by
  have:=JG (b:=AE 0) (me:=g) (ts:=mT n λi=>.int i) (λ_ τ=>∃x,τ=[x,some (.int f)]) (λk=>.str (Aw c k)) (τ:=[none,some (.int f)]) ⟨none,rfl⟩ λk t τ h1 h2=>by
   obtain⟨hk,rfl⟩:=G2 h1;obtain⟨x,rfl⟩:=h2;exact⟨[some (.int k),some (.int f)],by simp![],hg k hk,_,rfl⟩
  rw[Cs]at this;unfold AK;rw[yba];exact this
 have l5:=lc QP (f.fdiv 6) 5 (by decide) λk hk=>by
  have:=MT (f.fdiv 6) (k:=k) (by omega)
  unfold QP
  simp![t6,this]
 have lm:=lc QO (f.fdiv 11) m (by omega) λk hk=>by
  have:=MT (f.fdiv 11) (k:=k) (by omega)
  unfold QO
  simp![t11,this]
 have cut:Cj ((AK (f.fdiv 6) 5).map T.str) none (some (p:Int))=(AK (f.fdiv 6) p).map T.str:=by
  rw[zoq,<- ycv];unfold AK;rw[<- ycv,List.take_range,yd5 (by omega)]
 have a0:Au ((AK (f.fdiv 6) p).map T.str) 0=some (.str (Aw (f.fdiv 6) 0)):=Fx (by decide) (by
  unfold AK;rw[yba,ya8,show(0:Int).toNat=0 from rfl,ybu (by omega)]
  rfl)
 have aW:Au ((AK (f.fdiv 11) m).map T.str) 0=some (.str (Aw (f.fdiv 11) 0)):=Fx (by decide) (by
  unfold AK;rw[yba,ya8,show(0:Int).toNat=0 from rfl,ybu (by omega)]
  rfl)
 have aL:Au ((AK (f.fdiv 6) p).map T.str) (-1)=some (.str (Aw (f.fdiv 6) (p - 1))):=by
  have ne:(AK (f.fdiv 6) p).map T.str≠[]:=λq=>by
   have:=congrArg List.length q;rw[ya1,Cg,ybi]at this
   omega
  rw[zp1 ne .non,ya1,Cg,yam];unfold AK;rw[yba,ya8,ybu (by omega)]
  rfl
 have dok:=ZE f m1 p1;have di:MO [.str (Aw (f.fdiv 6) 0),.str (Aw (f.fdiv 6) (p - 1)),.lst [],.lst [.str (Aw (f.fdiv 11) 0)],.str ""]=some (.ok (BJ (Dw f p))):=di_ok dok;have sd:(BJ (Dw f p)).sh=true:=L6 dok
 have mi:MK [.lst ((AK (f.fdiv 11) m).map T.str),.lst ((AK (f.fdiv 6) p).map λx=>.tup [.str x,.lst []]),.lst [BJ (Dw f p)]]=some (.ok (Ae (Cr f m p))):=by
  have:=zkc h
  have e:(Cr f m p).rs.map AV=(AK (f.fdiv 6) p).map λx=>T.tup [.str x,.lst []]:=by
   show((AK (f.fdiv 6) p).map λr=>(r,([]:List T))).map AV=_
   rw[yba]
   rfl
  unfold EF at this;rw[e]at this;exact this
 have lr:BZ (AE 0) (mC (.bl true)) QN ((AK (f.fdiv 6) p).map T.str) [none]=some ((AK (f.fdiv 6) p).map λx=>T.tup [.str x,.lst []]):=Ed T.str (λx=>T.tup [.str x,.lst []]) (λτ=>∃x,τ=[x]) _ _ ⟨none,rfl⟩ λx _ τ hI=>by
  obtain⟨y,rfl⟩:=hI;exact⟨[some (.str x)],by simp![],by unfold QN;simp![],_,rfl⟩
 have lg:BZ (AE 0) (mC (.bl true)) QM ((AK (f.fdiv 6) p).map T.str) [none,some (.lst ((AK (f.fdiv 11) m).map T.str))]=some ((AK (f.fdiv 6) p).map (Ap (Zf m))):=Ed T.str (Ap (Zf m)) (λτ=>∃x,τ=[x,some (.lst ((AK (f.fdiv 11) m).map T.str))]) _ _ ⟨none,rfl⟩ λx _ τ hI=>by
  obtain⟨y,rfl⟩:=hI;refine⟨[some (.str x),some (.lst ((AK (f.fdiv 11) m).map T.str))],by simp![],?_,_,rfl⟩
  have ev:=Yt m2;have es:=Ys m;have lw:((AK (f.fdiv 11) m).map T.str).length=m:=by rw[ya1,Cg]
  unfold QM;generalize T.own (oZ (m+1) Db.free)=EV at *;have sW:AS ((AK (f.fdiv 11) m).map T.str)=true:=Ah _;generalize (AK (f.fdiv 11) m).map T.str=WS at *
  simp![sW,AJ _ sW,lw,ev,es]
 have sZ:(Zf m).sh=true:=DC _ _;have sg:=Fc sZ (AK (f.fdiv 6) p);have sr6:AS ((AK (f.fdiv 6) p).map λx=>T.tup [.str x,.lst []])=true:=Eu λ_ _=>rfl
 have lp:((AK (f.fdiv 6) p).map T.str).length<=100000:=by rw[ya1,Cg];omega
 have cl:=zl1 ns (some 1) (some 8);have cm:Cj (ns.map T.int) (some 1) (some 8)=(Cj ns (some 1) (some 8)).map T.int:=zl0 _ _ _ _;obtain⟨cs,ecs⟩:∃cs,Cj ns (some 1) (some 8)=cs:=⟨_,rfl⟩;rw[ecs]at cl cm;have lcs:(cs.map T.int).length+1<=100000:=by rw[ya1];omega
 have lcs2:((cs++[f.fdiv 17]).map T.int).length<=100000:=by rw[ya1,ybe];simp;omega
 obtain⟨τ,ef,y8,y9,y10,y11,y12,y13,y14,y15,rfl⟩:=Eh (b:=AE 8) (body:=Jx) (ts:=(cs++[f.fdiv 17]).map T.int) (τ:=GS ns f m p (some (.lst [BJ (Dw f p)])) none none none none none none none none) (λ_ τ=>∃y8 y9 y10 y11 y12 y13 y14 y15,τ=GS ns f m p (some (.lst [BJ (Dw f p)])) y8 y9 y10 y11 y12 y13 y14 y15) ⟨_,_,_,_,_,_,_,_,rfl⟩ λi t τ h1 h2=>by
  obtain⟨y8,y9,y10,y11,y12,y13,y14,y15,rfl⟩:=h2;rw[ya8]at h1;obtain⟨c,_,rfl⟩:=yad.mp h1;obtain⟨z9,z10,z11,z12,z13,z14,z15,e⟩:=zow ns f m1 m2 p1 p2 (D:=some (.lst [BJ (Dw f p)])) c (x9:=y9) (x10:=y10) (x11:=y11) (x12:=y12) (x13:=y13) (x14:=y14) (x15:=y15);exact⟨GS ns f m p (some (.lst [BJ (Dw f p)])) (some (.int c)) y9 y10 y11 y12 y13 y14 y15,by simp![],_,e,_,_,_,_,_,_,_,_,rfl⟩
 have run:Kv [some (Br ns),none,none,none,none,none,none,none,none,none,none,none,none,none,none,none]=some (.rt (.bl true)):=by
  unfold GS at ef;unfold Kv;have sN:AS ((AK (f.fdiv 6) 5).map T.str)=true:=Ah _;have sW:AS ((AK (f.fdiv 11) m).map T.str)=true:=Ah _;have sR:AS ((AK (f.fdiv 6) p).map T.str)=true:=Ah _;have ml:m<=100000:=by omega
  have ln5:((AK (f.fdiv 6) 5).map T.str).length<=100000:=by rw[ya1,Cg];decide
  have eI:(cs++[f.fdiv 17]).map T.int=cs.map T.int++[.int (f.fdiv 17)]:=by rw[yb1];rfl
  generalize (AK (f.fdiv 6) p).map (Ap (Zf m))=GP at *;generalize ((AK (f.fdiv 6) p).map λx=>T.tup [.str x,.lst []])=R6 at *
  generalize (AK (f.fdiv 6) 5).map T.str=N5 at *;generalize (AK (f.fdiv 11) m).map T.str=WS at *;generalize (AK (f.fdiv 6) p).map T.str=RN at *;generalize Ae (Cr f m p)=MM at *;generalize BJ (Dw f p)=DD at *
  refine sq (τ':=[some (Br ns),some (.int f),none,none,none,none,none,none,none,none,none,none,none,none,none,none]) (by
   generalize Br ns=S at *
   simp![F,F2,c0]) ?_
  refine sq (τ':=[some (Br ns),some (.int f),some (.lst N5),none,none,none,none,none,none,none,none,none,none,none,none,none]) (by simp![o5,r5,l5,sN,AJ _ sN]) ?_
  refine sq (τ':=[some (Br ns),some (.int f),some (.lst N5),some (.lst WS),none,none,none,none,none,none,none,none,none,none,none,none]) (by simp![em,om,rm,ml,lm,sW,AJ _ sW]) ?_
  refine sq (τ':=[some (Br ns),some (.int f),some (.lst N5),some (.lst WS),some (.lst RN),none,none,none,none,none,none,none,none,none,none,none]) (by simp![t2,ep,cut,sN,AJ _ sN,sR,AJ _ sR]) ?_
  refine sq (τ':=[some (Br ns),some (.int f),some (.lst N5),some (.lst WS),some (.lst RN),some (.lst [DD]),none,none,none,none,none,none,none,none,none,none]) (by simp![a0,aL,aW,sW,sR,di,sd,AO _ sd]) ?_
  refine sq (τ':=[some (Br ns),some (.int f),some (.lst N5),some (.lst WS),some (.lst RN),some (.lst [DD]),some MM,none,none,none,none,none,none,none,none,none]) (by simp![sW,AJ _ sW,sR,AJ _ sR,lp,lr,sr6,AJ _ sr6,sd,AO _ sd,mi,sm,AO _ sm]) ?_
  refine sq (τ':=[some (Br ns),some (.int f),some (.lst N5),some (.lst WS),some (.lst RN),some (.lst [DD]),some MM,some (.lst GP),none,none,none,none,none,none,none,none]) (by simp![sW,AJ _ sW,sR,AJ _ sR,lp,lg,sg,AJ _ sg]) ?_
  have sC1:Ar (cs.map T.int)=cs.map T.int:=GL _;have sC2:Ar (cs.map T.int++[.int (f.fdiv 17)])=cs.map T.int++[.int (f.fdiv 17)]:=by rw[<- eI];exact GL _
  rw[eI]at ef lcs2;unfold Br at ef ⊢;generalize cs.map T.int=CS at *
  simp![IV,GL,cm,t17,sC1,sC2,lcs,lcs2,ef]
 unfold Qg;generalize Br ns=S at *
 simp![F,F2,run]
end
end Zl
namespace Zl
open PySem PySem.W L2 Zw Zx Pu Hd
abbrev pw:Program:=PySem.Challenge.pw_zonewalk_k64_papers_refused
abbrev NH:OpenLaw:=PySem.Challenge.rw_zonewalk_k64_papers_refused
abbrev md:String:="__module__"
abbrev fl:String:="__firstlineno__"
abbrev sa:String:="__static_attributes__"
abbrev dc:String:="__doc__"
noncomputable abbrev cf:Str:="/claim/cut.py"
noncomputable def tO(l:List Value):Obj:=⟨(.type "tuple"),none,(.seq (Array.mk l) 0),Array.mk []⟩
noncomputable def dO(l:List DictEntry)(n:Nat):Obj:=⟨(.type "dict"),none,(.dict (Array.mk l) n),Array.mk []⟩
def eb:List Value:=[(.type "ValueError"),(.type "Exception"),(.type "BaseException"),(.type "object")]
noncomputable def yO(a:Str)(b c:List Value)(n:Addr)(d:List Value)(r ta tb:Nat)(w:String):Obj:=⟨(.type "type"),none,(.cls ⟨a,b,c,n,a,true,[],d,false,none,false⟩),Array.mk [(some (.ref r)),none,(some (.str a ta)),(some (.str a tb)),(some (.builtin w)),(some (.bool true))]⟩
def cP(a:Str)(ta:Nat)(b:Str)(tb tf:Nat)(r n k:Int)(r1:Nat)(z:Int)(v1 v2 v3 v4 v5:Value)(x y:Int)(tg:Nat):Obj:=⟨(.type "code"),none,(.fields (Array.mk [(.str a ta),(.str b tb),(.str cf tf),(.int r 0),(.int n 0),(.int 0 0),(.int 0 0),(.int k 0),(.ref r1),(.bool true),(.int z 0),v1,v2,v3,v4,v5,(.int x 0),(.int y 0),(.str cf tg)])),Array.mk []⟩
noncomputable def cO(a:Str)(ta tb tf:Nat)(r n k:Int)(r1:Nat)(z:Int)(r2 r3 r4 r5:Nat)(x y:Int)(tg:Nat):Obj:=cP a ta a tb tf r n k r1 z (.ref r2) .none (.ref r3) (.ref r4) (.ref r5) x y tg
def o2(P:Params):Obj:=⟨.none,none,(.dict (Array.mk []) 0),Array.mk []⟩
def o3(P:Params):Obj:=dO [en P "__name__" 165 (.str "law_zonewalk_k64_papers_refused" 931),en P "__doc__" 166 .none,en P "__package__" 167 .none,en P "__loader__" 168 (.builtin "__main__.__loader__#opaque"),en P "__spec__" 169 .none,en P "__annotations__" 170 (.ref 6),en P "__builtins__" 171 (.ref 4),en P "__file__" 173 (.str "/claim/cut.py" 172),en P "__cached__" 174 .none,en P "WalkError" 206 (.ref 24),en P "NoNumber" 222 (.ref 37),en P "BadMachine" 238 (.ref 49),en P "TooMany" 254 (.ref 61),en P "NoMark" 270 (.ref 73),en P "NoRoad" 286 (.ref 85),en P "NoRoom" 302 (.ref 97),en P "is_whole" 311 (.ref 106),en P "greatest_divisor" 322 (.ref 113),en P "fraction" 332 (.ref 121),en P "minus" 340 (.ref 128),en P "under" 348 (.ref 135),en P "at_most" 357 (.ref 142),en P "below" 364 (.ref 149),en P "number_of" 371 (.ref 156),en P "is_open" 378 (.ref 163),en P "added" 387 (.ref 170),en P "narrower" 395 (.ref 177),en P "lets" 404 (.ref 184),en P "WORDS" 412 (.ref 185),en P "STAY_WORDS" 415 (.ref 186),en P "is_look" 424 (.ref 193),en P "is_number" 431 (.ref 200),en P "is_guard" 437 (.ref 205),en P "stands_so" 449 (.ref 212),en P "look_bounds" 460 (.ref 219),en P "MOST_WATCHES" 464 (.int 7 463),en P "MOST_ROOMS" 466 (.int 64 465),en P "MOST_DOORS" 468 (.int 200 467),en P "is_small_letter" 475 (.ref 226),en P "is_name" 481 (.ref 231),en P "is_watch_name" 488 (.ref 238),en P "is_room_name" 494 (.ref 243),en P "is_sign" 501 (.ref 250),en P "own_copy" 508 (.ref 257),en P "Door" 560 (.ref 289),en P "Machine" 626 (.ref 343),en P "check_watches" 632 (.ref 352),en P "are_unlike" 639 (.ref 359),en P "check_rooms" 645 (.ref 364),en P "check_doors" 655 (.ref 371),en P "are_noughts" 661 (.ref 376),en P "placed" 667 (.ref 381),en P "everywhere" 675 (.ref 386),en P "free_bound" 683 (.ref 393),en P "lies_in" 696 (.ref 400),en P "narrowest" 702 (.ref 405),en P "is_broken" 708 (.ref 410),en P "row_over" 721 (.ref 417),en P "within" 733 (.ref 424),en P "is_wider" 741 (.ref 431),en P "holds" 749 (.ref 436),en P "met" 764 (.ref 443),en P "narrowed" 770 (.ref 448),en P "copied" 776 (.ref 453),en P "waited" 785 (.ref 460),en P "put_back" 791 (.ref 465),en P "placed_goal" 799 (.ref 470),en P "placed_mark" 808 (.ref 477),en P "placed_stays" 819 (.ref 484),en P "nought_places" 825 (.ref 489),en P "doors_out" 837 (.ref 496),en P "Sheet" 918 (.ref 547),en P "narrow_zones_of" 924 (.ref 556),en P "lets_by" 930 (.ref 561),en P "_law_cell_at" 940 (.ref 568),en P "_law_word" 952 (.ref 575),en P "_law_look" 961 (.ref 582),en P "_law_odd_look" 974 (.ref 589),en P "_law_goal" 990 (.ref 596),en P "_law_said" 1002 (.ref 603),en P "law" 1008 (.ref 608)] 81
def o15(P:Params):Obj:=tO [(.type "ValueError")]
def o22(P:Params):Obj:=tO []
def o23(P:Params):Obj:=dO [en P md 196 (.str "zonewalk.errors" 187),en P fl 200 (.int 2 199),en P sa 201 (.ref 22),en P "__weakref__" 203 (.ref 25),en P dc 204 .none] 3
def o24(P:Params):Obj:=yO "WalkError" [(.type "ValueError")] ([(.ref 24)]++eb) 23 [(.ref 37),(.ref 49),(.ref 61),(.ref 73),(.ref 85),(.ref 97)] 15 189 197 "ValueError.__new__"
def o25(P:Params):Obj:=⟨(.type "getset_descriptor"),none,(.fields (Array.mk [(.str "__weakref__" 202),(.ref 24),(.builtin "ExceptionGroup.__weakref__"),.none])),Array.mk []⟩
def o28(P:Params):Obj:=tO [(.ref 24)]
def o35(P:Params):Obj:=tO []
def o36(P:Params):Obj:=dO [en P md 214 (.str "zonewalk.errors" 187),en P fl 218 (.int 4 217),en P sa 219 (.ref 35),en P dc 220 .none] 2
def o37(P:Params):Obj:=yO "NoNumber" [(.ref 24)] ([(.ref 37),(.ref 24)]++eb) 36 [] 28 207 215 "ValueError.__new__"
def o40(P:Params):Obj:=tO [(.ref 24)]
def o47(P:Params):Obj:=tO []
def o48(P:Params):Obj:=dO [en P md 230 (.str "zonewalk.errors" 187),en P fl 234 (.int 6 233),en P sa 235 (.ref 47),en P dc 236 .none] 2
def o49(P:Params):Obj:=yO "BadMachine" [(.ref 24)] ([(.ref 49),(.ref 24)]++eb) 48 [] 40 223 231 "ValueError.__new__"
def o52(P:Params):Obj:=tO [(.ref 24)]
def o59(P:Params):Obj:=tO []
def o60(P:Params):Obj:=dO [en P md 246 (.str "zonewalk.errors" 187),en P fl 250 (.int 8 249),en P sa 251 (.ref 59),en P dc 252 .none] 2
def o61(P:Params):Obj:=yO "TooMany" [(.ref 24)] ([(.ref 61),(.ref 24)]++eb) 60 [] 52 239 247 "ValueError.__new__"
def o64(P:Params):Obj:=tO [(.ref 24)]
def o71(P:Params):Obj:=tO []
def o72(P:Params):Obj:=dO [en P md 262 (.str "zonewalk.errors" 187),en P fl 266 (.int 10 265),en P sa 267 (.ref 71),en P dc 268 .none] 2
def o73(P:Params):Obj:=yO "NoMark" [(.ref 24)] ([(.ref 73),(.ref 24)]++eb) 72 [] 64 255 263 "ValueError.__new__"
def o76(P:Params):Obj:=tO [(.ref 24)]
def o83(P:Params):Obj:=tO []
def o84(P:Params):Obj:=dO [en P md 278 (.str "zonewalk.errors" 187),en P fl 282 (.int 12 281),en P sa 283 (.ref 83),en P dc 284 .none] 2
def o85(P:Params):Obj:=yO "NoRoad" [(.ref 24)] ([(.ref 85),(.ref 24)]++eb) 84 [] 76 271 279 "ValueError.__new__"
def o88(P:Params):Obj:=tO [(.ref 24)]
def o95(P:Params):Obj:=tO []
def o96(P:Params):Obj:=dO [en P md 294 (.str "zonewalk.errors" 187),en P fl 298 (.int 14 297),en P sa 299 (.ref 95),en P dc 300 .none] 2
def o97(P:Params):Obj:=yO "NoRoom" [(.ref 24)] ([(.ref 97),(.ref 24)]++eb) 96 [] 88 287 295 "ValueError.__new__"
def o105(_:Params):=cO "is_whole" 305 306 307 17 1 3 100 181 101 102 103 104 309 17 310
def LU(a:Str)(s:Stmt)(c:Nat):=gO a s "zonewalk.fractions" 303 c
def W4(_:Params):=LU "is_whole" (AI 9) 105
def o112(_:Params):=cO "greatest_divisor" 312 313 314 19 2 3 107 181 108 109 110 111 320 19 321
def W3(_:Params):=LU "greatest_divisor" (AI 10) 112
def W0(P:Params):Obj:=tO [(.int 1 323)]
def o120(_:Params):=cO "fraction" 324 325 326 27 2 3 115 181 116 117 118 119 330 27 331
def WZ(_:Params):=fO "fraction" "fraction" (AI 11) (.ref 114) "zonewalk.fractions" 303 120 .none
def o127(_:Params):=cO "minus" 333 334 335 36 2 3 122 181 123 124 125 126 338 36 339
def WY(_:Params):=LU "minus" (AI 12) 127
def o134(_:Params):=cO "under" 341 342 343 38 2 3 129 181 130 131 132 133 346 38 347
def WX(_:Params):=LU "under" (AI 13) 134
def o141(_:Params):=cO "at_most" 351 352 353 41 1 3 136 181 137 138 139 140 355 41 356
def G8(a:Str)(s:Stmt)(c:Nat):=gO a s "zonewalk.bounds" 349 c
def WW(_:Params):=G8 "at_most" (AI 15) 141
def o148(_:Params):=cO "below" 358 359 360 43 1 3 143 181 144 145 146 147 362 43 363
def WV(_:Params):=G8 "below" (AI 16) 148
def o155(_:Params):=cO "number_of" 365 366 367 45 1 3 150 181 151 152 153 154 369 45 370
def WU(_:Params):=G8 "number_of" (AI 17) 155
def o162(_:Params):=cO "is_open" 372 373 374 47 1 3 157 181 158 159 160 161 376 47 377
def WT(_:Params):=G8 "is_open" (AI 18) 162
def o169(_:Params):=cO "added" 379 380 381 49 2 3 164 181 165 166 167 168 385 49 386
def WR(_:Params):=G8 "added" (AI 19) 169
def o176(_:Params):=cO "narrower" 388 389 390 56 2 3 171 181 172 173 174 175 393 56 394
def WQ(_:Params):=G8 "narrower" (AI 20) 176
def o183(_:Params):=cO "lets" 396 397 398 62 2 3 178 181 179 180 181 182 402 62 403
def WO(_:Params):=G8 "lets" (AI 21) 183
def WN(P:Params):Obj:=tO [(.str "<" 407),(.str "<=" 408),(.str ">" 409),(.str ">=" 410),(.str "=" 411)]
def WM(P:Params):Obj:=tO [(.str "<" 413),(.str "<=" 414)]
def o192(_:Params):=cO "is_look" 416 417 418 72 3 3 187 181 188 189 190 191 422 72 423
def JP(a:Str)(s:Stmt)(c:Nat):=gO a s "zonewalk.looks" 405 c
def WL(_:Params):=JP "is_look" (AI 25) 192
def o199(_:Params):=cO "is_number" 425 426 427 76 1 3 194 181 195 196 197 198 429 76 430
def WK(_:Params):=JP "is_number" (AI 26) 199
def o204(P:Params):Obj:=cP "is_guard" 432 "is_guard" 433 434 78 3 3 201 181 (.ref 202) .none .none .none (.ref 203) 435 78 436
def WJ(_:Params):=JP "is_guard" (AI 27) 204
def o211(_:Params):=cO "stands_so" 438 439 440 80 3 3 206 181 207 208 209 210 447 80 448
def WI(_:Params):=JP "stands_so" (AI 28) 211
def o218(_:Params):=cO "look_bounds" 450 451 452 93 4 3 213 181 214 215 216 217 458 93 459
def WH(_:Params):=JP "look_bounds" (AI 29) 218
def o225(_:Params):=cO "is_small_letter" 469 470 471 108 1 3 220 181 221 222 223 224 473 108 474
def Du(a:Str)(s:Stmt)(c:Nat):=gO a s "zonewalk.machines" 461 c
def WG(_:Params):=Du "is_small_letter" (AI 34) 225
def o230(P:Params):Obj:=cP "is_name" 476 "is_name" 477 478 110 1 3 227 181 (.ref 228) .none .none .none (.ref 229) 479 110 480
def WE(_:Params):=Du "is_name" (AI 35) 230
def o237(_:Params):=cO "is_watch_name" 482 483 484 112 1 3 232 181 233 234 235 236 486 112 487
def WD(_:Params):=Du "is_watch_name" (AI 36) 237
def o242(P:Params):Obj:=cP "is_room_name" 489 "is_room_name" 490 491 114 1 3 239 181 (.ref 240) .none .none .none (.ref 241) 492 114 493
def WC(_:Params):=Du "is_room_name" (AI 37) 242
def o249(_:Params):=cO "is_sign" 495 496 497 118 1 3 244 181 245 246 247 248 499 118 500
def WB(_:Params):=Du "is_sign" (AI 38) 249
def o256(_:Params):=cO "own_copy" 502 503 504 122 1 3 251 181 252 253 254 255 506 122 507
def WA(_:Params):=Du "own_copy" (AI 39) 256
def Vz(P:Params):Obj:=tO [(.str "" 521)]
def o271(P:Params):Obj:=cP "__init__" 522 "Door.__init__" 523 524 126 6 3 266 181 (.ref 267) .none (.ref 268) (.ref 269) (.ref 270) 531 126 532
def Vy(_:Params):=fO "__init__" "Door.__init__" (BW 40 0) (.ref 265) "zonewalk.machines" 461 271 .none
def o278(P:Params):Obj:=cP "asks" 534 "Door.asks" 535 536 133 1 3 273 181 (.ref 274) .none (.ref 275) (.ref 276) (.ref 277) 538 133 539
def Vx(_:Params):=fO "asks" "Door.asks" (BW 40 1) .none "zonewalk.machines" 461 278 .none
def o285(P:Params):Obj:=cP "sets" 541 "Door.sets" 542 543 136 1 3 280 181 (.ref 281) .none (.ref 282) (.ref 283) (.ref 284) 545 136 546
def Vw(_:Params):=fO "sets" "Door.sets" (BW 40 2) .none "zonewalk.machines" 461 285 .none
def o287(P:Params):Obj:=tO [(.str "end" 548),(.str "guard" 549),(.str "noughts" 550),(.str "sign" 551),(.str "start" 552)]
def o288(P:Params):Obj:=dO [en P md 516 (.str "zonewalk.machines" 461),en P fl 520 (.int 124 519),en P "__init__" 533 (.ref 272),en P "asks" 540 (.ref 279),en P "sets" 547 (.ref 286),en P sa 553 (.ref 287),en P "__dict__" 555 (.ref 290),en P "__weakref__" 557 (.ref 291),en P dc 558 .none] 4
def o289(P:Params):Obj:=⟨(.type "type"),none,(.cls ⟨"Door",[(.type "object")],[(.ref 289),(.type "object")],288,"Door",true,[],[],false,none,false⟩),Array.mk [none,none,(some (.str "Door" 509)),(some (.str "Door" 517)),(some (.builtin "object.__new__")),(some (.bool true))]⟩
def o290(P:Params):Obj:=⟨(.type "getset_descriptor"),none,(.fields (Array.mk [(.str "__dict__" 554),(.ref 289),(.builtin "function.__dict__"),(.builtin "function.__dict__#set")])),Array.mk []⟩
def o291(P:Params):Obj:=⟨(.type "getset_descriptor"),none,(.fields (Array.mk [(.str "__weakref__" 556),(.ref 289),(.builtin "ExceptionGroup.__weakref__"),.none])),Array.mk []⟩
def o304(P:Params):Obj:=cP "__init__" 573 "Machine.__init__" 574 575 140 4 3 301 181 (.ref 302) .none .none .none (.ref 303) 576 140 577
def Vv(_:Params):=fO "__init__" "Machine.__init__" (BW 41 0) .none "zonewalk.machines" 461 304 .none
def o311(P:Params):Obj:=cP "watches" 579 "Machine.watches" 580 581 152 1 3 306 181 (.ref 307) .none (.ref 308) (.ref 309) (.ref 310) 583 152 584
def Vu(_:Params):=fO "watches" "Machine.watches" (BW 41 1) .none "zonewalk.machines" 461 311 .none
def o318(P:Params):Obj:=cP "rooms" 586 "Machine.rooms" 587 588 155 1 3 313 181 (.ref 314) .none (.ref 315) (.ref 316) (.ref 317) 590 155 591
def Vt(_:Params):=fO "rooms" "Machine.rooms" (BW 41 2) .none "zonewalk.machines" 461 318 .none
def o325(P:Params):Obj:=cP "doors" 593 "Machine.doors" 594 595 158 1 3 320 181 (.ref 321) .none (.ref 322) (.ref 323) (.ref 324) 597 158 598
def Vs(_:Params):=fO "doors" "Machine.doors" (BW 41 3) .none "zonewalk.machines" 461 325 .none
def o332(P:Params):Obj:=cP "stay" 600 "Machine.stay" 601 602 161 2 3 327 181 (.ref 328) .none (.ref 329) (.ref 330) (.ref 331) 605 161 606
def Vr(_:Params):=fO "stay" "Machine.stay" (BW 41 4) .none "zonewalk.machines" 461 332 .none
def o339(P:Params):Obj:=cP "watch_number" 608 "Machine.watch_number" 609 610 164 2 3 334 181 (.ref 335) .none (.ref 336) (.ref 337) (.ref 338) 613 164 614
def Vq(_:Params):=fO "watch_number" "Machine.watch_number" (BW 41 5) .none "zonewalk.machines" 461 339 .none
def o341(P:Params):Obj:=tO [(.str "door_list" 616),(.str "stays" 617),(.str "watch_names" 618)]
def o342(P:Params):Obj:=dO [en P md 568 (.str "zonewalk.machines" 461),en P fl 572 (.int 138 571),en P "__init__" 578 (.ref 305),en P "watches" 585 (.ref 312),en P "rooms" 592 (.ref 319),en P "doors" 599 (.ref 326),en P "stay" 607 (.ref 333),en P "watch_number" 615 (.ref 340),en P sa 619 (.ref 341),en P "__dict__" 621 (.ref 344),en P "__weakref__" 623 (.ref 345),en P dc 624 .none] 4
def o343(P:Params):Obj:=⟨(.type "type"),none,(.cls ⟨"Machine",[(.type "object")],[(.ref 343),(.type "object")],342,"Machine",true,[],[],false,none,false⟩),Array.mk [none,none,(some (.str "Machine" 561)),(some (.str "Machine" 569)),(some (.builtin "object.__new__")),(some (.bool true))]⟩
def o344(P:Params):Obj:=⟨(.type "getset_descriptor"),none,(.fields (Array.mk [(.str "__dict__" 620),(.ref 343),(.builtin "function.__dict__"),(.builtin "function.__dict__#set")])),Array.mk []⟩
def o345(P:Params):Obj:=⟨(.type "getset_descriptor"),none,(.fields (Array.mk [(.str "__weakref__" 622),(.ref 343),(.builtin "ExceptionGroup.__weakref__"),.none])),Array.mk []⟩
noncomputable def o351(P:Params):Obj:=cP "check_watches" 627 "check_watches" 628 629 166 1 3 348 181 (.ref 349) .none .none .none (.ref 350) 630 166 631
def Vp(_:Params):=Du "check_watches" (AI 42) 351
def o358(_:Params):=cO "are_unlike" 633 634 635 171 1 3 353 181 354 355 356 357 637 171 638
def Vo(_:Params):=Du "are_unlike" (AI 43) 358
def o363(P:Params):Obj:=cP "check_rooms" 640 "check_rooms" 641 642 173 2 3 360 181 (.ref 361) .none .none .none (.ref 362) 643 173 644
def Vn(_:Params):=Du "check_rooms" (AI 44) 363
def o370(_:Params):=cO "check_doors" 646 647 648 183 3 3 365 181 366 367 368 369 653 183 654
def Vm(_:Params):=Du "check_doors" (AI 45) 370
def o375(P:Params):Obj:=cP "are_noughts" 656 "are_noughts" 657 658 195 2 3 372 181 (.ref 373) .none .none .none (.ref 374) 659 195 660
def Vl(_:Params):=Du "are_noughts" (AI 46) 375
def o380(P:Params):Obj:=cP "placed" 662 "placed" 663 664 199 2 3 377 181 (.ref 378) .none .none .none (.ref 379) 665 199 666
def Vk(_:Params):=Du "placed" (AI 47) 380
def o385(P:Params):Obj:=cP "everywhere" 670 "everywhere" 671 672 205 1 3 382 181 (.ref 383) .none .none .none (.ref 384) 673 205 674
def Fu(a:Str)(s:Stmt)(c:Nat):=gO a s "zonewalk.zones" 668 c
def Vj(_:Params):=Fu "everywhere" (AI 49) 385
def o392(_:Params):=cO "free_bound" 676 677 678 207 2 3 387 181 388 389 390 391 681 207 682
def Vi(_:Params):=Fu "free_bound" (AI 50) 392
def o399(_:Params):=cO "lies_in" 684 685 686 211 2 3 394 181 395 396 397 398 694 211 695
def Vh(_:Params):=Fu "lies_in" (AI 51) 399
def o404(P:Params):Obj:=cP "narrowest" 697 "narrowest" 698 699 218 1 3 401 181 (.ref 402) .none .none .none (.ref 403) 700 218 701
def Vg(_:Params):=Fu "narrowest" (AI 52) 404
def o409(P:Params):Obj:=cP "is_broken" 703 "is_broken" 704 705 226 1 3 406 181 (.ref 407) .none .none .none (.ref 408) 706 226 707
def Vf(_:Params):=Fu "is_broken" (AI 53) 409
def o416(_:Params):=cO "row_over" 709 710 711 228 3 3 411 181 412 413 414 415 719 228 720
def Ve(_:Params):=Fu "row_over" (AI 54) 416
def o423(_:Params):=cO "within" 722 723 724 237 2 3 418 181 419 420 421 422 731 237 732
def Vd(_:Params):=Fu "within" (AI 55) 423
def o430(_:Params):=cO "is_wider" 734 735 736 243 2 3 425 181 426 427 428 429 739 243 740
def Vc(_:Params):=Fu "is_wider" (AI 56) 430
def o435(P:Params):Obj:=cP "holds" 744 "holds" 745 746 248 2 3 432 181 (.ref 433) .none .none .none (.ref 434) 747 248 748
def Ha(a:Str)(s:Stmt)(c:Nat):=gO a s "zonewalk.moves" 742 c
def Vb(_:Params):=Ha "holds" (AI 58) 435
def o442(_:Params):=cO "met" 750 751 752 250 2 3 437 181 438 439 440 441 762 250 763
def Va(_:Params):=Ha "met" (AI 59) 442
def o447(P:Params):Obj:=cP "narrowed" 765 "narrowed" 766 767 258 4 3 444 181 (.ref 445) .none .none .none (.ref 446) 768 258 769
def V9(_:Params):=Ha "narrowed" (AI 60) 447
def o452(P:Params):Obj:=cP "copied" 771 "copied" 772 773 265 1 3 449 181 (.ref 450) .none .none .none (.ref 451) 774 265 775
def V8(_:Params):=Ha "copied" (AI 61) 452
def o459(_:Params):=cO "waited" 777 778 779 267 1 3 454 181 455 456 457 458 783 267 784
def V7(_:Params):=Ha "waited" (AI 62) 459
def o464(P:Params):Obj:=cP "put_back" 786 "put_back" 787 788 272 2 3 461 181 (.ref 462) .none .none .none (.ref 463) 789 272 790
def V6(_:Params):=Ha "put_back" (AI 63) 464
def o469(P:Params):Obj:=cP "placed_goal" 794 "placed_goal" 795 796 276 2 3 466 181 (.ref 467) .none .none .none (.ref 468) 797 276 798
def Xj(a:Str)(s:Stmt)(c:Nat):=gO a s "zonewalk.goals" 792 c
def V5(_:Params):=Xj "placed_goal" (AI 65) 469
def o476(_:Params):=cO "placed_mark" 800 801 802 281 3 3 471 181 472 473 474 475 806 281 807
def V4(_:Params):=Xj "placed_mark" (AI 66) 476
def o483(_:Params):=cO "placed_stays" 811 812 813 288 1 3 478 181 479 480 481 482 817 288 818
def PL(a:Str)(s:Stmt)(c:Nat):=gO a s "zonewalk.plans" 809 c
def V3(_:Params):=PL "placed_stays" (AI 68) 483
def o488(P:Params):Obj:=cP "nought_places" 820 "nought_places" 821 822 293 2 3 485 181 (.ref 486) .none .none .none (.ref 487) 823 293 824
def V2(_:Params):=PL "nought_places" (AI 69) 488
def o495(_:Params):=cO "doors_out" 826 827 828 295 1 3 490 181 491 492 493 494 835 295 836
def V1(_:Params):=PL "doors_out" (AI 70) 495
def o507(P:Params):Obj:=cP "__init__" 852 "Sheet.__init__" 853 854 307 3 3 504 181 (.ref 505) .none .none .none (.ref 506) 855 307 856
def V0(_:Params):=fO "__init__" "Sheet.__init__" (BW 72 0) .none "zonewalk.papers" 838 507 .none
def o512(P:Params):Obj:=cP "holds_start" 858 "Sheet.holds_start" 859 860 316 1 3 509 181 (.ref 510) .none .none .none (.ref 511) 861 316 862
def VZ(_:Params):=fO "holds_start" "Sheet.holds_start" (BW 72 1) .none "zonewalk.papers" 838 512 .none
def o519(P:Params):Obj:=cP "holds_within" 864 "Sheet.holds_within" 865 866 321 3 3 514 181 (.ref 515) .none (.ref 516) (.ref 517) (.ref 518) 871 321 872
def VY(_:Params):=fO "holds_within" "Sheet.holds_within" (BW 72 2) .none "zonewalk.papers" 838 519 .none
def o526(P:Params):Obj:=cP "holds_wait" 874 "Sheet.holds_wait" 875 876 329 3 3 521 181 (.ref 522) .none (.ref 523) (.ref 524) (.ref 525) 880 329 881
def VX(_:Params):=fO "holds_wait" "Sheet.holds_wait" (BW 72 3) .none "zonewalk.papers" 838 526 .none
def o533(P:Params):Obj:=cP "holds_way" 883 "Sheet.holds_way" 884 885 332 3 3 528 181 (.ref 529) .none (.ref 530) (.ref 531) (.ref 532) 891 332 892
def VW(_:Params):=fO "holds_way" "Sheet.holds_way" (BW 72 4) .none "zonewalk.papers" 838 533 .none
def o538(P:Params):Obj:=cP "holds_room" 894 "Sheet.holds_room" 895 896 339 2 3 535 181 (.ref 536) .none .none .none (.ref 537) 897 339 898
def VV(_:Params):=fO "holds_room" "Sheet.holds_room" (BW 72 5) .none "zonewalk.papers" 838 538 .none
def o543(P:Params):Obj:=cP "keeps_off" 900 "Sheet.keeps_off" 901 902 347 3 3 540 181 (.ref 541) .none .none .none (.ref 542) 903 347 904
def VU(_:Params):=fO "keeps_off" "Sheet.keeps_off" (BW 72 6) .none "zonewalk.papers" 838 543 .none
def o545(P:Params):Obj:=tO [(.str "first_room" 906),(.str "first_values" 907),(.str "stays" 908),(.str "ways" 909),(.str "zones" 910)]
def o546(P:Params):Obj:=dO [en P md 847 (.str "zonewalk.papers" 838),en P fl 851 (.int 305 850),en P "__init__" 857 (.ref 508),en P "holds_start" 863 (.ref 513),en P "holds_within" 873 (.ref 520),en P "holds_wait" 882 (.ref 527),en P "holds_way" 893 (.ref 534),en P "holds_room" 899 (.ref 539),en P "keeps_off" 905 (.ref 544),en P sa 911 (.ref 545),en P "__dict__" 913 (.ref 548),en P "__weakref__" 915 (.ref 549),en P dc 916 .none] 4
def o547(P:Params):Obj:=⟨(.type "type"),none,(.cls ⟨"Sheet",[(.type "object")],[(.ref 547),(.type "object")],546,"Sheet",true,[],[],false,none,false⟩),Array.mk [none,none,(some (.str "Sheet" 840)),(some (.str "Sheet" 848)),(some (.builtin "object.__new__")),(some (.bool true))]⟩
def o548(P:Params):Obj:=⟨(.type "getset_descriptor"),none,(.fields (Array.mk [(.str "__dict__" 912),(.ref 547),(.builtin "function.__dict__"),(.builtin "function.__dict__#set")])),Array.mk []⟩
def o549(P:Params):Obj:=⟨(.type "getset_descriptor"),none,(.fields (Array.mk [(.str "__weakref__" 914),(.ref 547),(.builtin "ExceptionGroup.__weakref__"),.none])),Array.mk []⟩
def o555(P:Params):Obj:=cP "narrow_zones_of" 919 "narrow_zones_of" 920 921 349 2 3 552 181 (.ref 553) .none .none .none (.ref 554) 922 349 923
def Xi(a:Str)(s:Stmt)(c:Nat):=gO a s "zonewalk.papers" 838 c
def VT(_:Params):=Xi "narrow_zones_of" (AI 73) 555
def o560(P:Params):Obj:=cP "lets_by" 925 "lets_by" 926 927 352 3 3 557 181 (.ref 558) .none .none .none (.ref 559) 928 352 929
def VS(_:Params):=Xi "lets_by" (AI 74) 560
def o567(_:Params):=cO "_law_cell_at" 933 934 935 362 2 3 562 181 563 564 565 566 938 362 939
def G9(a:Str)(s:Stmt)(c:Nat):=gO a s "law_zonewalk_k64_papers_refused" 931 c
def VR(_:Params):=G9 "_law_cell_at" (AI 76) 567
def o574(_:Params):=cO "_law_word" 941 942 943 366 2 3 569 181 570 571 572 573 950 366 951
def VQ(_:Params):=G9 "_law_word" (AI 77) 574
def o581(_:Params):=cO "_law_look" 953 954 955 376 2 3 576 181 577 578 579 580 959 376 960
def VP(_:Params):=G9 "_law_look" (AI 78) 581
def o588(_:Params):=cO "_law_odd_look" 962 963 964 379 3 3 583 181 584 585 586 587 972 379 973
def VO(_:Params):=G9 "_law_odd_look" (AI 79) 588
def o595(_:Params):=cO "_law_goal" 975 976 977 383 5 3 590 181 591 592 593 594 988 383 989
def VN(_:Params):=G9 "_law_goal" (AI 80) 595
def o602(_:Params):=cO "_law_said" 991 992 993 397 3 3 597 181 598 599 600 601 1000 397 1001
def VM(_:Params):=G9 "_law_said" (AI 81) 602
def o607(P:Params):Obj:=cP "law" 1003 "law" 1004 1005 405 1 3 604 181 (.ref 605) .none .none .none (.ref 606) 1006 405 1007
def VL(_:Params):=G9 "law" (AI 82) 607
noncomputable def Yq:List Addr:=[2,3,15,22,23,24,25,28,35,36,37,40,47,48,49,52,59,60,61,64,71,72,73,76,83,84,85,88,95,96,97,105,106,112,113,114,120,121,127,128,134,135,141,142,148,149,155,156,162,163,169,170,176,177,183,184,185,186,192,193,199,200,204,205,211,212,218,219,225,226,230,231,237,238,242,243,249,250,256,257,265,271,272,278,279,285,286,287,288,289,290,291,304,305,311,312,318,319,325,326,332,333,339,340,341,342,343,344,345,351,352,358,359,363,364,370,371,375,376,380,381,385,386,392,393,399,400,404,405,409,410,416,417,423,424,430,431,435,436,442,443,447,448,452,453,459,460,464,465,469,470,476,477,483,484,488,489,495,496,507,508,512,513,519,520,526,527,533,534,538,539,543,544,545,546,547,548,549,555,556,560,561,567,568,574,575,581,582,588,589,595,596,602,603,607,608]
def Hc(P:Params):Frag:=Yq.zipWith (λa o=>(a,o P)) [o2,o3,o15,o22,o23,o24,o25,o28,o35,o36,o37,o40,o47,o48,o49,o52,o59,o60,o61,o64,o71,o72,o73,o76,o83,o84,o85,o88,o95,o96,o97,o105,W4,o112,W3,W0,o120,WZ,o127,WY,o134,WX,o141,WW,o148,WV,o155,WU,o162,WT,o169,WR,o176,WQ,o183,WO,WN,WM,o192,WL,o199,WK,o204,WJ,o211,WI,o218,WH,o225,WG,o230,WE,o237,WD,o242,WC,o249,WB,o256,WA,Vz,o271,Vy,o278,Vx,o285,Vw,o287,o288,o289,o290,o291,o304,Vv,o311,Vu,o318,Vt,o325,Vs,o332,Vr,o339,Vq,o341,o342,o343,o344,o345,o351,Vp,o358,Vo,o363,Vn,o370,Vm,o375,Vl,o380,Vk,o385,Vj,o392,Vi,o399,Vh,o404,Vg,o409,Vf,o416,Ve,o423,Vd,o430,Vc,o435,Vb,o442,Va,o447,V9,o452,V8,o459,V7,o464,V6,o469,V5,o476,V4,o483,V3,o488,V2,o495,V1,o507,V0,o512,VZ,o519,VY,o526,VX,o533,VW,o538,VV,o543,VU,o545,o546,o547,o548,o549,o555,VT,o560,VS,o567,VR,o574,VQ,o581,VP,o588,VO,o595,VN,o602,VM,o607,VL]
def vq:Program:={ pw with main:={ (pw).main with body:=[AI 82] } }
noncomputable def loo:List Str:=["WalkError","NoNumber","BadMachine","TooMany","NoMark","NoRoad","NoRoom","is_whole","greatest_divisor","fraction","minus","under","at_most","below","number_of","is_open","added","narrower","lets","WORDS","STAY_WORDS","is_look","is_number","is_guard","stands_so","look_bounds","MOST_WATCHES","MOST_ROOMS","MOST_DOORS","is_small_letter","is_name","is_watch_name","is_room_name","is_sign","own_copy","Door","Machine","check_watches","are_unlike","check_rooms","check_doors","are_noughts","placed","everywhere","free_bound","lies_in","narrowest","is_broken","row_over","within","is_wider","holds","met","narrowed","copied","waited","put_back","placed_goal","placed_mark","placed_stays","nought_places","doors_out","Sheet","narrow_zones_of","lets_by","_law_cell_at","_law_word","_law_look","_law_odd_look","_law_goal","_law_said"].map Str.ofString
abbrev hk:Hook:=kHook Hc Yq (λ_=>by ext)
theorem zm6(w:World)(os:OsState):(go pw 4460 w os).map (λs=>KZ pw vq loo (xt NH.row.toRowW vq) hk.obs (boot_heap w.params) s.abs)=some (true,openGood vq loo,hk.val w):=by ext
theorem left:LeftO pw vq loo (xt NH.row.toRowW vq) hk.obs hk.val 9500 true:=zkl 9500 4460 (by ext) (by decide) (λs=>by ext) (by decide) zm6
theorem said:NH.wellSaid=true:=zj5 (by ext)
abbrev fr(w:World):Frag:=Hc w.params
noncomputable def ca:Str->Value:=λc=>if c="BadMachine" then .ref 49 else if c="TooMany" then .ref 61 else if c="NoMark" then .ref 73 else if c="NoNumber" then .ref 37 else if c="NoRoom" then .ref 97 else if c="WalkError" then .ref 24 else if c="NoRoad" then .ref 85 else .none
section
variable {w:World}{mg:Str->Option Value}{base:Heap} [q:Qx pw w (fr w) mg base ca]
theorem Fw:Cls (fr w) BL:=⟨by ext,by ext,by ext,by ext⟩
theorem Ip:∀f∈BS,Ba (fr w) BL f:=(Ad (by unfold Ba;ext) (Ad (by unfold Ba;ext) (Ad (by unfold Ba;ext) (Ad (by unfold Ba;ext) (Ad (by unfold Ba;ext) BC)))))
theorem DN:Cls (fr w) Af:=⟨by ext,by ext,by ext,by ext⟩
theorem FD:∀f∈Ag,Ba (fr w) Af f:=(Ad (by unfold Ba;ext) (Ad (by unfold Ba;ext) (Ad (by unfold Ba;ext) BC)))
theorem Cy:Cls (fr w) A8:=⟨by ext,by ext,by ext,by ext⟩
theorem FC:∀f∈Aa,Ba (fr w) A8 f:=(Ad (by unfold Ba;ext) (Ad (by unfold Ba;ext) (Ad (by unfold Ba;ext) (Ad (by unfold Ba;ext) (Ad (by unfold Ba;ext) BC)))))
theorem yg:specialIn (fr w) (.builtin "object.__class__") "__get__"=some (some (.builtin "getset_descriptor.__get__"))/\takesIn (fr w) (.builtin "object.__class__")=some true:=⟨by ext,by ext⟩
include q
def aF:ECls (fr w) mg "BadMachine":=Ge yg 49 (q.c _ _ (by ext)) (by ext)
theorem Qv:∃T:ECls (fr w) mg "BadMachine",ca "BadMachine"=.ref T.C/\Cv (fr w) T.C=some none:=⟨aF,by rfl,by ext⟩
def aB:ECls (fr w) mg "TooMany":=Ge yg 61 (q.c _ _ (by ext)) (by ext)
theorem zgf:∃T:ECls (fr w) mg "TooMany",ca "TooMany"=.ref T.C/\Cv (fr w) T.C=some none:=⟨aB,by rfl,by ext⟩
def aE:ECls (fr w) mg "NoMark":=Ge yg 73 (q.c _ _ (by ext)) (by ext)
theorem Qu:∃T:ECls (fr w) mg "NoMark",ca "NoMark"=.ref T.C/\Cv (fr w) T.C=some none:=⟨aE,by rfl,by ext⟩
def aD:ECls (fr w) mg "NoNumber":=Ge yg 37 (q.c _ _ (by ext)) (by ext)
theorem zev:∃T:ECls (fr w) mg "NoNumber",ca "NoNumber"=.ref T.C/\Cv (fr w) T.C=some none:=⟨aD,by rfl,by ext⟩
def aC:ECls (fr w) mg "NoRoom":=Ge yg 97 (q.c _ _ (by ext)) (by ext)
theorem zij:∃T:ECls (fr w) mg "NoRoom",ca "NoRoom"=.ref T.C/\Cv (fr w) T.C=some none:=⟨aC,by rfl,by ext⟩
def aA:ECls (fr w) mg "WalkError":=Ge yg 24 (q.c _ _ (by ext)) (by ext)
def zgg:ECls (fr w) mg "NoRoad":=Ge yg 85 (q.c _ _ (by ext)) (by ext)
theorem eK:∀C∈[24,37,49,61,73,85,97],ExcK (fr w) C:=(Ad aA.k (Ad aD.k (Ad aF.k (Ad aB.k (Ad aE.k (Ad zgg.k (Ad aC.k BC)))))))
def D1:=Am VR 568 ze3 (An A7 A6)
def D2:=Am WG 226 zaq (An A7 A6)
def D3:=Am WE 231 zer (An (AW D2 A7) A6)
def D4:=Am WD 238 zb4 (An (AW D3 A7) A6)
def D5:=Am WC 243 zbj (An (AW D2 A7) A6)
def D6:=Am W4 106 ze0 (An A7 A6)
def D7:=Am WK 200 zd3 (An (AW D6 A7) A6)
def D8:=Am WL 193 zes (An (AW D7 A7) A6)
def D9:=Am WJ 205 ze1 (An (AW D8 A7) A6)
def Qz:=Am Vo 359 zcd (An A7 A6)
theorem zbh:∃u v,mg "MOST_WATCHES"=some u/\A3 v u/\∀F:Hp,Rp (fr w) F F LH v R0:=⟨(.int (7) 463),(.int 7),q.c _ _ (by ext),⟨_,rfl⟩,λF=>.int _⟩
def D11:=Am Vp 352 zb5 (An (AW D4 (AW Qz A7)) (A6 (co:=(CV zbh CU))) (hex:=(Ad Qv BC)))
theorem zc8:∃u v,mg "STAY_WORDS"=some u/\A3 v u/\∀F:Hp,Rp (fr w) F F LG v R0:=⟨_,.ref 186,q.c _ (.ref 186) (by ext),rfl,λF=>Ai.of_node (k:=.rt) (xs:=[.str "<",.str "<="]) (.inr ⟨WM w.params,_,_,by ext,rfl,rfl,by decide,(.cons ⟨_,rfl⟩ (.cons ⟨_,rfl⟩ .nil))⟩) (NL ["<","<="])⟩
def D12:=Am Vn 364 zby (An (AW D5 (AW D9 (AW Qz A7))) (A6 (co:=(CV zc8 CU))) (hex:=(Ad Qv BC)))
def D13:=Am Vl 376 zc0 (An (AW D4 (AW Qz A7)) A6)
def D14:=Am WB 250 zep (An (AW D3 A7) A6)
def D15:=Am WA 257 zdw (An A7 A6)
theorem ZO:∃u v,mg "WORDS"=some u/\A3 v u/\∀F:Hp,Rp (fr w) F F C4 v R0:=⟨_,.ref 185,q.c _ (.ref 185) (by ext),rfl,λF=>Ai.of_node (k:=.rt) (xs:=[.str "<",.str "<=",.str ">",.str ">=",.str "="]) (.inr ⟨WN w.params,_,_,by ext,rfl,rfl,by decide,(.cons ⟨_,rfl⟩ (.cons ⟨_,rfl⟩ (.cons ⟨_,rfl⟩ (.cons ⟨_,rfl⟩ (.cons ⟨_,rfl⟩ .nil)))))⟩) (NL ["<","<=",">",">=","="])⟩
def D16:=Am Vm 371 zbz (An (AW D9 (AW D13 (AW D14 A7))) (A6 (co:=(CV ZO CU)) (cl:=(Ad ⟨Fw,Ip⟩ BC)) (ci:=(CV ⟨289,q.c _ _ (by ext),(CV ⟨⟨Fw,by ext,by ext,by ext,by ext⟩,by ext⟩ (CV ⟨⟨DN,by ext,by ext,by ext,by ext⟩,by ext⟩ (CV ⟨⟨Cy,by ext,by ext,by ext,by ext⟩,by ext⟩ CU))),by ext⟩ CU))) (hex:=(Ad Qv BC)))
def D17:=Pn "Door" BL BS Vy 272 zd8 (Q8 (AW D15 A7) (A6 (sf:=(λC fs h=>by cases h;exact⟨Fw,Ip⟩))))
theorem zc9:∃u v,mg "MOST_ROOMS"=some u/\A3 v u/\∀F:Hp,Rp (fr w) F F LJ v R0:=⟨(.int (64) 465),(.int 64),q.c _ _ (by ext),⟨_,rfl⟩,λF=>.int _⟩
theorem zca:∃u v,mg "MOST_DOORS"=some u/\A3 v u/\∀F:Hp,Rp (fr w) F F LK v R0:=⟨(.int (200) 467),(.int 200),q.c _ _ (by ext),⟨_,rfl⟩,λF=>.int _⟩
def Zz:=Pn "Machine" Af Ag Vv 305 zbl (Q8 (AW D11 (AW D12 (AW D16 A7))) (A6 (co:=(CV zc9 (CV zca CU))) (sf:=(λC fs h=>by cases h;exact⟨DN,FD⟩))) (hex:=(Ad zgf BC)))
theorem E18:Bx (fr w) (Zz (w:=w) (mg:=mg) (base:=base)).fd Pg.ps []:=.all (Md λ_ _ _ _=>rfl)
def Zy:=DZ Vu 312 zat DN (D0 A7 (A6 (cl:=(Ad ⟨DN,FD⟩ BC))))
def Jt:=DZ Vt 319 zb6 DN (D0 A7 (A6 (cl:=(Ad ⟨DN,FD⟩ (Ad ⟨Cy,FC⟩ BC)))))
def D21:=DZ Vs 326 zb7 DN (D0 A7 (A6 (cl:=(Ad ⟨DN,FD⟩ BC))))
def D22:=DZ Vr 333 zbk DN (D0 A7 (A6 (cl:=(Ad ⟨DN,FD⟩ (Ad ⟨Cy,FC⟩ BC)))))
def D23:=DZ Vx 279 zd9 Fw (D0 A7 (A6 (cl:=(Ad ⟨Fw,Ip⟩ BC))))
def D24:=DZ Vw 286 zd7 Fw (D0 A7 (A6 (cl:=(Ad ⟨Fw,Ip⟩ BC))))
def Zv:=DZ Vq 340 za2 DN (D0 A7 (A6 (cl:=(Ad ⟨DN,FD⟩ BC))))
def Qy:=Am Vk 381 zg1 (An (AW D9 A7) (A6 (co:=(CV ZO CU)) (mt:=(Ad ⟨by decide,⟨Zy⟩⟩ (Ad ⟨by decide,⟨Zv⟩⟩ BC)))) (hex:=(Ad Qu BC)))
def D27:=Am V4 477 zbv (An (AW Qy A7) A6 (hex:=(Ad Qu BC)))
def D28:=Am V5 470 zbw (An (AW D27 A7) (A6 (mt:=(Ad ⟨by decide,⟨Jt⟩⟩ BC))) (hex:=(Ad Qu BC)))
def Js:=Am WW 142 zet (An A7 A6)
def Zu:=Am WV 149 zi5 (An A7 A6)
def Zt:=Am WU 156 zd1 (An A7 A6)
def Zs:=Am WT 163 zeq (An A7 A6)
def D33:=Am WR 170 zi6 (An (AW Zt (AW Zs (AW Zu (AW Js A7)))) A6)
def D34:=Am WQ 177 zdx (An A7 A6)
def Zr:=Am Vi 393 zcb (An (AW Js A7) A6)
def Zq:=Am Ve 417 zdu (An A7 A6)
def D37:=Am Vf 410 zd4 (An (AW Js A7) A6)
def D38:=Am Vg 405 zd2 (An (AW D34 (AW Zr (AW D37 (AW Zq A7)))) A6)
def D39:=Am Vj 386 zcc (An (AW Zr A7) A6)
def Zp:=Am Vc 431 zdz (An A7 A6)
def D41:=Am Vd 424 zfz (An (AW Zp A7) A6)
def D42:=Am WH 219 zbx (An (AW Zu (AW Js A7)) A6)
def D43:=Am V6 465 zdv (An A7 A6)
def Zo:=Am V8 453 zg2 (An A7 A6)
def D45:=Am V7 460 zg0 (An (AW Zo A7) A6)
def D46:=Am V9 448 zdy (An (AW Zp (AW D33 (AW Js (AW Zq A7)))) A6)
def Qw:=Am Va 443 zot (An (AW Zo (AW D42 (AW D46 A7))) A6)
def D48:=Am V2 489 zb3 (An A7 (A6 (mt:=(Ad ⟨by decide,⟨D24⟩⟩ (Ad ⟨by decide,⟨Zv⟩⟩ BC)))))
def D49:=Am V3 484 zbi (An (AW Qy A7) (A6 (mt:=(Ad ⟨by decide,⟨Jt⟩⟩ (Ad ⟨by decide,⟨D22⟩⟩ BC)))))
def D50:=Am V1 496 zd5 (An (AW Qy (AW D48 A7)) (A6 (cl:=(Ad ⟨Fw,Ip⟩ BC)) (mt:=(Ad ⟨by decide,⟨Jt⟩⟩ (Ad ⟨by decide,⟨D21⟩⟩ (Ad ⟨by decide,⟨D23⟩⟩ BC))))))
def Zn:=Am WX 135 zi2 (An A7 A6)
def D52:=Am W3 113 zae (An A7 A6)
def D53:=Am WZ 121 ze2 (An (AW D6 (AW D52 A7)) A6 (hex:=(Ad zev BC)) (b:=λs us X hl=>Mf (P:=λus=>BindsTo s _ ⟨us,[]⟩ (List.zip _ (us++_))) (λ_ _=>binds_K X rfl (show(fr w).lookup 114=some (W0 w.params) by ext) rfl rfl rfl) us (by simpa using hl)))
def D54:=Am WY 128 zi3 (An (AW D53 A7) A6)
def D55:=Am WO 184 zl4 (An (AW Zt (AW Zs (AW Zn A7))) A6)
def D56:=Am Vh 400 zen (An (AW D55 (AW D54 A7)) A6)
def D57:=Am WI 212 zd0 (An (AW Zn A7) A6)
def D58:=Am Vb 436 zi4 (An (AW D57 A7) A6)
def D59:=Am VT 556 zap (An (AW D38 A7) A6)
def Zk:=Pn "Sheet" A8 Aa V0 508 zce (Q8 (AW D49 (AW D50 (AW D59 A7))) (A6 (mt:=(Ad ⟨by decide,⟨Jt⟩⟩ (Ad ⟨by decide,⟨Zy⟩⟩ BC))) (sf:=(λC fs h=>by cases h;exact⟨Cy,FC⟩))))
theorem E60:Bx (fr w) (Zk (w:=w) (mg:=mg) (base:=base)).fd Pc.ps []:=.all (Me λ_ _ _=>rfl)
def D61:=DZ VZ 513 za8 Cy (D0 (AW D58 (AW D56 A7)) (A6 (cl:=(Ad ⟨DN,FD⟩ (Ad ⟨Cy,FC⟩ BC)))))
def Zj:=DZ VY 520 za5 Cy (D0 (AW D41 A7) (A6 (cl:=(Ad ⟨Cy,FC⟩ BC))))
def D63:=DZ VX 527 zaf Cy (D0 (AW Qw (AW D45 A7)) (A6 (cl:=(Ad ⟨DN,FD⟩ (Ad ⟨Cy,FC⟩ BC))) (mt:=(Ad ⟨by decide,⟨Zj⟩⟩ BC))))
def D64:=DZ VW 534 zas Cy (D0 (AW Qw (AW D43 A7)) (A6 (cl:=(Ad ⟨DN,FD⟩ (Ad ⟨Cy,FC⟩ BC))) (mt:=(Ad ⟨by decide,⟨Zj⟩⟩ BC))))
def D65:=DZ VV 539 zag Cy (D0 A7 (A6 (cl:=(Ad ⟨Cy,FC⟩ BC)) (mt:=(Ad ⟨by decide,⟨D63⟩⟩ (Ad ⟨by decide,⟨D64⟩⟩ BC)))))
def D66:=DZ VU 544 zar Cy (D0 (AW Qw A7) (A6 (cl:=(Ad ⟨Cy,FC⟩ BC))))
def Zi:=Am VS 561 zeo (An (AW D28 A7) (A6 (mt:=(Ad ⟨by decide,⟨Jt⟩⟩ (Ad ⟨by decide,⟨D61⟩⟩ (Ad ⟨by decide,⟨D66⟩⟩ (Ad ⟨by decide,⟨D65⟩⟩ BC))))) (nw:=(NX ⟨by decide,A8,Zk,(CV ⟨[],[],E60,.nil,λ_=>.nil⟩ CU)⟩ NW))) (hex:=(Ad zij BC)))
def D68:=Am VQ 575 zi7 (An A7 A6)
def Zh:=Am VP 582 zi9 (An A7 A6)
def D70:=Am VO 589 zd6 (An (AW Zh A7) A6)
def D71:=Am VN 596 zia (An (AW Zh (AW D70 A7)) A6)
def D72:=Am VM 603 zi8 (An (AW Zi A7) (A6 (xs:=(CV (xs_of aA (by ext)) CU)) (sb:=(CV ⟨73,q.c _ _ (by ext),HD eK (by ext)⟩ (CV ⟨97,q.c _ _ (by ext),HD eK (by ext)⟩ (CV ⟨49,q.c _ _ (by ext),HD eK (by ext)⟩ (CV ⟨61,q.c _ _ (by ext),HD eK (by ext)⟩ (CV ⟨85,q.c _ _ (by ext),HD eK (by ext)⟩ CU)))))) (sv:=(CV ⟨q.n "ValueError" (by ext),"ValueError",by ext,HD eK (by ext)⟩ CU))))
def D73:=Am VL 608 zou (An (AW D1 (AW D68 (AW D39 (AW D71 (AW D72 (AW Zi A7)))))) (A6 (nw:=(NX ⟨by decide,BL,D17,(CV ⟨[.str ""],[.str (Str.ofString "") 521],(λs us X hl=>Mb (P:=λus=>BindsTo s _ ⟨us,[]⟩ (List.zip _ (us++_))) (λ_ _ _ _ _=>binds_K X rfl (show(fr w).lookup 265=some (Vz w.params) by ext) rfl rfl rfl) us (by simpa using hl)),.cons ⟨_,rfl⟩ .nil,λF=>.cons (H:=F) (.str _) .nil⟩ CU)⟩ (NX ⟨by decide,Af,Zz,(CV ⟨[],[],E18,.nil,λ_=>.nil⟩ CU)⟩ NW)))))
end
theorem all_mk{w:World}{h:Heap}{mg:Str->Option Value}{fa:Addr}(X:(Hc w.params).In h)(G:h.Ns mainGlobals mg)(hfa:mg "law"=some (.ref fa))
  : ∃fd:FuncData,(∀(s:Shared) (v:Value),BindsTo s fd ⟨[v],[]⟩ [("_law_script",v)])/\∀base:Heap,(Hc w.params).In base->base.Ns mainGlobals mg->FnOk pw w (Hc w.params) mg base EZ 11 fa fd ["_law_script"] (KW (Hc w.params)):=by
 have e:=hfa.symm.trans (mg_of X G (show nsIn (fr w) mainGlobals "law"=some (some (.ref 608)) by ext))
 cases e;refine⟨gF "law" "law" NA .none "law_zonewalk_k64_papers_refused" 931 607 .none,λs v=>.of_eq rfl,λbase _ _=>?_⟩
 have q:Qx pw w (fr w) mg base ca:=⟨λ_ _ e=>mg_of X G e,λ_ e=>mg_none_of X G e⟩
 exact zny (D73 (mg:=mg)).ok λns h=>law_true ns h
theorem walk{l:PySem.W.OpenLaw}{q:Program}{loose:List Str}{XP:(Str->Option Value)->Heap->Prop}{YP:World->Heap->Prop}{d:DefRec}{K:Params->k6}(hn:l.most=some 63)(hdf:d.params.defaults=[])
  (hY:∀(w:World) (h:Heap),YP w h->(K w.params).In h)
  (F : ∀ (w : World) (mg : Str -> Option Value) (fa : Addr) (h : Heap), (K w.params).In h -> h.Ns mainGlobals mg -> mg d.name = some (.ref fa) ->
   ∃fd:FuncData,(∀(s:Shared) (u:Value),BindsTo s fd ⟨[u],[]⟩ [("_law_script",u)])/\∀base:Heap,(K w.params).In base->base.Ns mainGlobals mg->FnOk l.prog w (K w.params) mg base EZ 11 fa fd ["_law_script"] (KW (K w.params))) :
  PySem.W.WalkO q loose XP YP l.row.toRowW d [] (λf vs=>PySem.call f vs) :=
 L2.walk_of (n:=63) (k:=11) (x:="_law_script") (CX:=λ_=>EZ) (sp:=λw=>KW (K w.params)) hn (by decide) hdf ⟨rfl,by decide,by decide⟩ hY F (λ_ _ a ns hl hO hS=>⟨a,ns,rfl,Gk.of hO hS,hl,λ_=>rfl⟩) λ_ _ _ _ _ z=>z
end Zl
open PySem PySem.W PyProof.Rows
set_option maxRecDepth 100000 in
set_option maxHeartbeats 0 in
theorem PySem.Challenge.cw_zonewalk_k64_papers_refused_holds : PySem.Challenge.rw_zonewalk_k64_papers_refused.Holds := by
 refine holds_law Zl.said λs=>?_
 refine holds_open (q:=Zl.vq) (loose:=Zl.loo) (Xt:=Hd.xt PySem.Challenge.rw_zonewalk_k64_papers_refused.row.toRowW Zl.vq) (XP:=XL Zl.vq []) (Yf:=Zl.hk.obs) (Ya:=Zl.hk.val) (YP:=Zl.hk.says) Zl.left Zl.hk.of Zl.hk.keeps (λs e=>xl_of s (Bool.and_eq_true_iff.mp e).1) XL.keeps (by rfl) (by rfl) (by rfl) (λs e=>recFacts_of (Bool.and_eq_true_iff.mp e).2) (by rfl) s (by decide +kernel) ⟨rfl,rfl,rfl,rfl,rfl,by decide +kernel⟩ ?hw ?hc
 case hw=>w_witness2
 case hc=>exact Zl.walk (l:=PySem.Challenge.rw_zonewalk_k64_papers_refused) rfl rfl (λw h Y=>kIn_of Y) λw mg fa h X G e=>Zl.all_mk X G e
end
