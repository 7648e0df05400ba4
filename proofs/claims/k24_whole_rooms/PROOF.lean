import PyProof.Rows.All
import Wide.All
import OpenK.AllK
import Wide.FinOn
import Lean
import PyProof.EqAt
import PyProof.EqKinds
import PyProof.TupleCall
import PySem.Challenge.RW_zonewalk_k24_whole_rooms
set_option compiler.extract_closed false
set_option bootstrap.genMatcherCode false
set_option linter.all false
def ya0:=@List.getElem?_eq_getElem
def ya1:=@List.length_map
def ya2:=@Option.map_eq_some_iff
def ya3:=@Bool.and_eq_true
def ya4:=@List.getElem?_map
def ya5:=@List.getElem?_eq_some_iff
def ya6:=@List.mem_cons_of_mem
def ya7:=@List.mem_cons_self
def ya8:=@Nat.le_refl
def ya9:=@List.getD_eq_getElem?_getD
def yaa:=@List.mem_singleton
def yab:=@PySem.Heap.get?_push_of_some
def yac:=@List.length_append
def yad:=@PySem.Heap.lt_size
def yae:=@List.map_cons
def yaf:=@Nat.le_trans
def yag:=@List.mem_map
def yah:=@List.size_toArray
def yai:=@List.mem_cons
def yaj:=@Nat.lt_of_lt_of_le
def yak:=@List.mem_of_getElem?
def yal:=@List.mem_append_right
def yam:=@List.getElem?_set_self
def yan:=@List.getElem?_set_ne
def yao:=@List.length_cons
def yap:=@List.map_map
def yaq:=@Nat.ne_of_lt
def yar:=@Option.some.inj
def yas:=@List.all_eq_true
def yat:=@List.map_append
def yau:=@PySem.Heap.get?_push_size
def yav:=@List.getElem_mem
def yaw:=@List.append_nil
def yax:=@List.getElem?_append_left
def yay:=@List.lookup_cons
def yaz:=@List.getElem?_append_right
def yb0:=@List.mem_flatMap
def yb1:=@Ne.symm
def yb2:=@Array.getElem?_eq_getElem
def yb3:=@Int.fmod_nonneg_of_pos
def yb4:=@List.length_nil
def yb5:=@Nat.lt_irrefl
def yb6:=@List.getElem?_eq_none
def yb7:=@Bool.eq_false_iff
def yb8:=@List.contains_iff_mem
def yb9:=@List.length_range
def yba:=@Nat.zero_le
def ybb:=@List.mem_append
def ybc:=@List.flatMap_cons
def ybd:=@PySem.W.kia_one
def ybe:=@List.nil_append
def ybf:=@PySem.Heap.get?_update_other
def ybg:=@List.take_length
def ybh:=@List.mem_range
def ybi:=@List.length_singleton
def ybj:=@List.mem_iff_getElem?
def ybk:=@Bool.or_eq_true
def ybl:=@List.findIdx?_eq_some_iff_getElem
def ybm:=@Bool.false_ne_true
def ybn:=@Int.fmod_lt_of_pos
def ybo:=@Int.eq_ofNat_of_zero_le
def ybp:=@List.length_take
def ybq:=@List.append_assoc
def ybr:=@List.replicate_succ
def ybs:=@List.not_mem_nil
def ybt:=@List.flatMap_nil
def ybu:=@Bool.or_eq_false_iff
def ybv:=@PyProof.Rows.callWith_type1
def ybw:=@Array.getD_eq_getD_getElem?
def ybx:=@PySem.mem_of_lookup
def yby:=@Array.getElem?_eq_some_iff
def ybz:=@List.length_replicate
def yc0:=@Option.map_some
def yc1:=@List.length_eq_zero_iff
def yc2:=@PySem.W.hideAll_get
def yc3:=@List.getElem?_range
def yc4:=@PySem.Heap.size_push
def yc5:=@List.mem_filterMap
def yc6:=@Bool.false_eq_true
def yc7:=@List.length_set
def yc8:=@List.flatten_cons
def yc9:=@Bool.not_eq_true'
def yca:=@Nat.lt_succ_of_lt
def ycb:=@List.mem_append_left
def ycc:=@List.drop_eq_getElem_cons
def ycd:=@Nat.le_succ
def yce:=@List.map_nil
def ycf:=@Nat.le_add_right
def ycg:=@PySem.F.slot_str_getitem
def ych:=@List.map_congr_left
def yci:=@List.getElem?_cons_succ
def ycj:=@PySem.W.of_hideAll
def yck:=@List.find?_cons
def ycl:=@List.zip_cons_cons
def ycm:=@Bool.eq_iff_iff
def ycn:=@List.take_of_length_le
def yco:=@PySem.Heap.get?_update_self
def ycp:=@Array.getElem?_toList
def ycq:=@List.getElem_inj
def ycr:=@Nat.lt_succ_self
def ycs:=@List.cons.inj
def yct:=@List.getElem_of_mem
def ycu:=@List.mem_map_of_mem
def ycv:=@List.nodup_cons
def ycw:=@List.mem_of_find?_eq_some
def ycx:=@PySem.W.callWith_K
def ycy:=@List.getElem?_take_of_lt
def ycz:=@PySem.Obj.data_mapFields
def yd0:=@List.getElem?_drop
def yd1:=@PySem.F.called_set
def yd2:=@List.mem_replicate
def yd3:=@List.getElem?_replicate
def yd4:=@PySem.F.plainAttrs_list
def yd5:=@PyProof.Rows.F.plain_set_update_loop
def yd6:=@List.ext_getElem?
def yd7:=@Option.some.injEq
def yd8:=@PyProof.V.reads_dictOf
def yd9:=@PySem.SeqAt.notIn_list_reads
def yda:=@PyProof.Rows.boot_list
def ydb:=@List.getElem_map
def ydc:=@PySem.Obj.isFreed_of_fields
def ydd:=@List.pairwise_flatMap
def yde:=@Nat.lt_trans
def ydf:=@List.mem_filter
def ydg:=@PySem.W.hideAll_none
def ydh:=@Nat.le_of_lt
def ydi:=@Int.mul_le_mul_of_nonneg_right
def ydj:=@List.getElem?_mapIdx
def ydk:=@List.filterMap_cons
def ydl:=@Array.length_toList
def ydm:=@PySem.W.plainGet_of
def ydn:=@PySem.SeqAt.in_list_reads
def ydo:=@List.length_pos_iff
def ydp:=@Bool.false_and
def ydq:=@Nat.add_mul
def ydr:=@Nat.one_mul
def yds:=@Array.append_assoc
def ydt:=@List.findIdx?_cons
def ydu:=@PySem.Paired.length
def ydv:=@Bool.or_false
def ydw:=@List.any_cons
def ydx:=@Bool.false_or
def ydy:=@List.map_take
def ydz:=@PySem.W.kitx_dict
def ye0:=@Int.toNat_natCast
def ye1:=@List.foldl_append
def ye2:=@List.pairwise_map
def ye3:=@Nat.succ_le_succ
def ye4:=@Bool.true_or
def ye5:=@List.filter_cons
def ye6:=@PySem.Txt.slice_le
def ye7:=@List.isEmpty_iff
def ye8:=@Nat.zero_add
def ye9:=@List.cons_ne_nil
def yea:=@decide_eq_false
def yeb:=@PySem.wpAny_mono
def yec:=@PySem.wpAny_truthy_bool
def yed:=@PySem.wpAny_bind
def yee:=@PySem.wpAny_holding
def yef:=@PySem.wpAny_standAt
def yeg:=@PySem.wpAny_pure
def yeh:=@PySem.wpAny_pyIter_list
def yei:=@PySem.wpAny_passesOwn
def yej:=@PySem.sizeLine_eq
def yek:=@PySem.wpAny_call
def yel:=@PySem.codeAny_mono
def yem:=@PySem.wpAny_Call_Name_kw
def yen:=@PySem.typeIs_str
def yeo:=@if_true
def yep:=@if_false
def yeq:=@PySem.call_meets
def yer:=@decide_eq_true
def yes:=@PySem.wpAny_setField
def yet:=@PySem.wpAny_field
def yeu:=@beq_iff_eq
def yev:=@decide_eq_true_eq
def yew:=@or_false
def yex:=@beq_self_eq_true
def yey:=@PySem.pushCells_keeps
def yez:=@of_decide_eq_true
def yf0:=@PySem.wpAny_ite_false
def yf1:=@PySem.wpAny_of_eq
def yf2:=@PySem.wpAny_isInstance
def yf3:=@PySem.wpAny_getItem_str_slice
def yf4:=@PySem.post_val_or_str
def yf5:=@beq_eq_false_iff_ne
noncomputable section
local macro_rules|`(tactic|ext)=>`(tactic|kernel_rfl)
abbrev k6:=PySem.W.Frag
set_option Elab.async false
set_option linter.all false
set_option maxRecDepth 100000
set_option genSizeOf false
local macro_rules
  |`(tactic| omega)=>`(tactic| first
    |assumption
    |exact yaf (by assumption) (by decide +kernel)
    |exact yaj (by assumption) (by decide +kernel)
    |exact Nat.lt_of_le_of_lt (by assumption) (by decide +kernel)
    |exact Nat.succ_pos _
    |exact yaj (by assumption) (ye3 (yaf (by assumption) (by decide +kernel)))
    |exact ye3 (yaf (by assumption) (by decide +kernel))
    |exact yde (by assumption) (by assumption)
    |exact yaj (by assumption) (by assumption)
    |exact Int.lt_trans (b:=0) (by decide +kernel) (by assumption)
    |exact Int.lt_of_lt_of_le (b:=0) (by decide +kernel) (by assumption)
    |exact Int.lt_of_le_of_lt (by assumption) (by decide +kernel)
    |exact Int.le_trans (by assumption) (by decide +kernel)
    |exact Int.le_of_lt (by assumption)
    |exact Int.ne_of_gt (by assumption)
    |lia
    |fail)
namespace L2
open PySem PySem.Spec PyProof.Rows
abbrev Key:=Sum Int Str
noncomputable def E7:Key->Value->Bool
 |.inl k,v=>Value.isInt k v
 |.inr x,v=>Value.isStrOf x v
def keyH(w:World):Key->Int
 |.inl k=>hashInt k
 |.inr x=>hashStr w x
theorem Ds:∀{k:Key} {v:Value},E7 k v=true->(∃i t,k=Sum.inl i/\v=Value.int i t)\/(∃x t,k=Sum.inr x/\v=Value.str x t)
 |.inl i,v,h=>by
  obtain⟨t,e⟩:=Value.isInt_shape (k:=i) (v:=v) h;exact .inl ⟨i,t,rfl,e⟩
 |.inr x,v,h=>by
  obtain⟨t,e⟩:=Value.isStrOf_shape (x:=x) (v:=v) h;exact .inr ⟨x,t,rfl,e⟩
theorem zeb(i:Int)(t:Tok):E7 (.inl i) (.int i t)=true:=by simp[E7,Value.isInt]
theorem zea(x:Str)(t:Tok):E7 (.inr x) (.str x t)=true:=by simp[E7,Value.isStrOf]
theorem zmn(a b:Int):decide ((Sum.inl a:Key)=Sum.inl b)=(a == b):=by
 by_cases e:a=b
 .subst e;simp
 .have h:¬ (Sum.inl a:Key)=Sum.inl b:=λq=>e (Sum.inl.inj q)
  rw[yea h];exact(beq_eq_false_iff_ne.mpr e).symm
theorem zmk(a b:Str):decide ((Sum.inr a:Key)=Sum.inr b)=decide (a=b):=by
 by_cases e:a=b
 .subst e;simp
 .have h:¬ (Sum.inr a:Key)=Sum.inr b:=λq=>e (Sum.inr.inj q)
  rw[yea h,yea e]
theorem zmm(a:Int)(b:Str):decide ((Sum.inl a:Key)=Sum.inr b)=false:=yea (λq=>nomatch q)
theorem zml(a:Str)(b:Int):decide ((Sum.inr a:Key)=Sum.inl b)=false:=yea (λq=>nomatch q)
def CB(prog:Program)(w:World):PySem.KeyKind prog w Key where
 is:=E7
 hash:=keyH w
 inj:=λv a b ha hb=>by
  rcases Ds ha with ⟨i,t,rfl,rfl⟩|⟨x,t,rfl,rfl⟩
  .rcases Ds hb with ⟨j,u,rfl,e⟩|⟨y,u,rfl,e⟩
   .injection e with e1 _;rw[e1]
   .exact nomatch e
  .rcases Ds hb with ⟨j,u,rfl,e⟩|⟨y,u,rfl,e⟩
   .exact nomatch e
   .injection e with e1 _;rw[e1]
 byValue:=λk v h=>by
  rcases Ds h with ⟨i,t,rfl,rfl⟩|⟨x,t,rfl,rfl⟩<;>rfl
 pyHash:=λhv h=>by
  rcases Ds hv with ⟨i,t,rfl,rfl⟩|⟨x,t,rfl,rfl⟩
  .exact wpAny_pyHash_int h
  .exact wpAny_pyHash_str h
 eqBool:=λhu hv h=>by
  rcases Ds hu with ⟨i,t,rfl,rfl⟩|⟨x,t,rfl,rfl⟩
  .rcases Ds hv with ⟨j,u,rfl,rfl⟩|⟨y,u,rfl,rfl⟩
   .rw[zmn]at h;exact wpAny_eqBool_int h
   .rw[zmm]at h;exact SeqAt.EqAt.int_str i t y u _ _ _ _ h
  .rcases Ds hv with ⟨j,u,rfl,rfl⟩|⟨y,u,rfl,rfl⟩
   .rw[zml]at h;exact SeqAt.EqAt.str_int x t j u _ _ _ _ h
   .rw[zmk]at h;exact wpAny_eqBool_str h
 «strs»:=λk x t v h=>by
  rcases Ds h with ⟨i,u,rfl,e⟩|⟨y,u,rfl,e⟩
  .exact nomatch e
  .injection e with e1 _
   subst e1;cases v<;>rfl
theorem zcm(prog:Program)(w:World)(i:Int)(t:Tok):(CB prog w).is (.inl i) (.int i t)=true:=zeb i t
theorem zcl(prog:Program)(w:World)(x:Str)(t:Tok):(CB prog w).is (.inr x) (.str x t)=true:=zea x t
inductive V where
 |non|bl (b:Bool)|int (i:Int)|str (x:Str)|byt (b:Array UInt8)|flt (b:UInt64)|ref (a:Addr)|ty (n:String)
 deriving DecidableEq
def RelV:V->Value->Prop
 |.non,u=>u=Value.none
 |.bl b,u=>u=Value.bool b
 |.int i,u=>∃t,u=Value.int i t
 |.str x,u=>∃t,u=Value.str x t
 |.byt b,u=>∃t,u=Value.bytes b t
 |.flt b,u=>∃t,u=Value.float b t
 |.ref a,u=>u=Value.ref a
 |.ty n,u=>u=Value.type n
abbrev AR:List V->List Value->Prop:=Paired RelV
theorem AR.length{xs:List V}{us:List Value}(r:AR xs us):xs.length=us.length:=ydu r
theorem AR.get:∀{xs:List V} {us:List Value} {i:Nat} {x:V},AR xs us->xs[i]?=some x->∃u,us[i]?=some u/\RelV x u
 |_,_,_,_,.nil,e=>by simp at e
 |_,_,0,_,.cons r _,e=>by simp at e;subst e;exact⟨_,rfl,r⟩
 |_,_,i+1,x,.cons _ t,e=>by
  obtain⟨u,h1,h2⟩:=AR.get (i:=i) (x:=x) t (by simpa using e)
  exact⟨u,by simpa using h1,h2⟩
theorem AR.set{x:V}{u:Value}(r:RelV x u):∀{xs:List V} {us:List Value} (i:Nat),AR xs us->AR (xs.set i x) (us.set i u)
 |_,_,_,.nil=>.nil
 |_,_,0,.cons _ t=>.cons r t
 |_,_,i+1,.cons q t=>.cons q (AR.set r i t)
theorem AR.append:∀{xs ys:List V} {us ws:List Value},AR xs us->AR ys ws->AR (xs++ys) (us++ws)
 |_,_,_,_,.nil,s=>s
 |_,_,_,_,.cons r t,s=>.cons r (AR.append t s)
theorem AR.take:∀{xs:List V} {us:List Value} (n:Nat),AR xs us->AR (xs.take n) (us.take n)
 |_,_,0,_=>.nil
 |_,_,_+1,.nil=>.nil
 |_,_,n+1,.cons r t=>.cons r (AR.take n t)
theorem AR.drop:∀{xs:List V} {us:List Value} (n:Nat),AR xs us->AR (xs.drop n) (us.drop n)
 |_,_,0,r=>r
 |_,_,_+1,.nil=>.nil
 |_,_,n+1,.cons _ t=>AR.drop n t
theorem AR.none_of:∀{xs:List V} {us:List Value} {i:Nat},AR xs us->xs[i]?=none->us[i]?=none:=λ{xs us i} r e=>by
 have h1:=r.length;have h2:xs.length<=i:=List.getElem?_eq_none_iff.mp e;exact List.getElem?_eq_none_iff.mpr (by omega)
def CW:Option V->Option Value->Prop
 |some v,some u=>RelV v u
 |none,none=>True
 |_,_=>False
def KV{κ:Type}:List (κ×V)->List (κ×Value)->Prop:=Paired λ(p:κ×V) (q:κ×Value)=>p.1=q.1/\RelV p.2 q.2
def kV:Key->V
 |.inl i=>.int i
 |.inr x=>.str x
inductive HO where
 |lst (xs:List V)
 |tup (xs:List V)
 |dK (kvs:List (Key×V))|dT (kvs:List (List Key×V))
 |set (S:Int->Bool) (n:Nat)
 |ins (C dx:Addr) (fs:List (Str×V))
 |own (x:Addr)
 |xd (fs:List (Str×V))
 |met (f x:Addr)
 |rng (lo hi:Int)
 |frz (o:Obj) (u:HO)
 |tbl (ps:Array Value)
 |ext (φ:Heap->Prop)
abbrev Hp:=Addr->Option HO
noncomputable def upd(H:Hp)(a:Addr)(o:HO):Hp:=λb=>if b=a then some o else H b
theorem Br{H:Hp}{a:Addr}{o:HO}:upd H a o a=some o:=by unfold upd;rw[if_pos rfl]
theorem Aj{H:Hp}{a b:Addr}{o:HO}(h:b≠a):upd H a o b=H b:=by unfold upd;rw[if_neg h]
theorem ne_of{H:Hp}{a b:Addr}{o u:HO}(h:H a=some o)(h':H b=some u)(d:o≠u):a≠b:=by
 intro e;subst e;rw[h]at h';exact d (yar h')
theorem CA{H:Hp}{a b:Addr}{o:HO}(h:H a=some o)(h':H b=none):a≠b:=by
 intro e;subst e;rw[h]at h';cases h'
section
variable (P:Program)(w:World)
def BR(H:Hp)(h:Heap)(a:Addr):HO->Prop
 |.lst xs=>xs.length<=sizeLine/\∃(its:List Value) (n:Nat),AR xs its/\h.get? a=some { cls:=.type "list",data:=.seq its.toArray n }
 |.tup xs=>xs.length<=sizeLine/\∃its:List Value,AR xs its/\IsTup h a its.toArray
 |.dK kvs=>kvs.length<=sizeLine/\(a == sysModules)=false/\∃vs,KV kvs vs/\h.DictOf (CB P w) a vs
 |.dT kvs=>kvs.length<=sizeLine/\(a == sysModules)=false/\∃xs:List (List Key×Addr×Value),
   Paired (λ(p:List Key×V) (q:List Key×Addr×Value)=>p.1=q.1/\H q.2.1=some (.tup (p.1.map kV))/\RelV p.2 q.2.2) kvs xs /\
   ∃o es ep,h.get? a=some o/\o.ExactDict/\o.data=.dict es ep/\es.toList=xs.map (entryOfKey (tupleKind (CB P w)))/\(xs.map (·.1)).Nodup
 |.set S n=>h.SetOf (intKind P w) a S n
 |.ins C dx fs=>H dx=some (.own a)/\fs.length<=1000/\dx≠a/\h.get? a=some (PySem.W.instObj C dx) /\
   ∃mA,h.Ns1 dx mA/\(∀f,CW (fs.lookup f) (mA f))/\PySem.Within mA (fs.map (·.1))
 |.own _=>∃o,h.get? a=some o
 |.xd fs=>∃mA,h.Ns1 a mA/\∀f,CW (fs.lookup f) (mA f)
 |.rng lo hi=>∃t u v,h.get? a=some { cls:=.type "range",data:=.fields #[.int lo t,.int hi u,.int 1 v] }
 |.frz o u=>h.get? a=some o/\BR H h a u
 |.tbl ps=>h.get? a=some { cls:=.none,data:=.fields ps }
 |.met f x=>h.get? a=some (PySem.W.methodObj (.ref f) (.ref x))
 |.ext φ=>φ h/\(∃o,h.get? a=some o)/\∀h1 h2:Heap,φ h1->(∀o,h1.get? a=some o->h2.get? a=some o)->φ h2
def HOk(H:Hp)(h:Heap):Prop:=∀a o,H a=some o->BR P w H h a o
end
section
variable {P:Program}{w:World}{H H':Hp}{h h':Heap}{a:Addr}{o:HO}
theorem BR.lt(x:BR P w H h a o):a<h.objs.size:=by
 cases o with
 |lst xs=>obtain⟨_,_,_,_,e⟩:=x;exact yad e
 |tup xs=>obtain⟨_,_,_,p⟩:=x;exact p.lt
 |dK kvs=>obtain⟨_,_,_,_,o,_,_,e,_⟩:=x;exact yad e
 |dT kvs=>obtain⟨_,_,_,_,o,_,_,e,_⟩:=x;exact yad e
 |set S n=>obtain⟨o,_,_,_,e,_⟩:=x;exact yad e
 |ins C dx fs=>obtain⟨_,_,_,e,_⟩:=x;exact yad e
 |own y=>obtain⟨_,e⟩:=x;exact yad e
 |xd fs=>obtain⟨_,⟨_,_,_,e,_⟩,_⟩:=x;exact yad e
 |rng lo hi=>obtain⟨_,_,_,e⟩:=x;exact yad e
 |frz ob u=>obtain⟨e,_⟩:=x;exact yad e
 |tbl ps=>exact yad (show h.get? a=some _ from x)
 |met f y=>exact yad (show h.get? a=some _ from x)
 |ext φ=>obtain⟨_,⟨_,e⟩,_⟩:=x;exact yad e
theorem Paired.mapP{α β:Type}{F G:α->β->Prop}:∀{l₁:List α} {l₂:List β},Paired F l₁ l₂->(∀a b,F a b->G a b)->Paired G l₁ l₂
 |_,_,.nil,_=>.nil
 |_,_,.cons r t,f=>.cons (f _ _ r) (Paired.mapP t f)
theorem BR.stay(x:BR P w H h a o)(k:∀b u,(b=a\/H b=some (.own a))->h.get? b=some u->h'.get? b=some u)
  (ho:∀b,H b=some (.own a)->H' b=some (.own a)) (ht:∀b xs,H b=some (.tup xs)->H' b=some (.tup xs)):BR P w H' h' a o:=by
 induction o with
 |lst xs=>obtain⟨z,its,n,r,e⟩:=x;exact⟨z,its,n,r,k _ _ (.inl rfl) e⟩
 |tup xs=>obtain⟨z,its,r,ob,e,c⟩:=x;exact⟨z,its,r,ob,k _ _ (.inl rfl) e,c⟩
 |dK kvs=>obtain⟨z,y,vs,r,ob,es,ep,e,c⟩:=x;exact⟨z,y,vs,r,ob,es,ep,k _ _ (.inl rfl) e,c⟩
 |dT kvs =>
  obtain⟨z,y,xs,r,ob,es,ep,e,c⟩:=x;exact⟨z,y,xs,Paired.mapP r λp q z=>⟨z.1,ht _ _ z.2.1,z.2.2⟩,ob,es,ep,k _ _ (.inl rfl) e,c⟩
 |set S n=>obtain⟨ob,es,ep,t,e,c⟩:=x;exact⟨ob,es,ep,t,k _ _ (.inl rfl) e,c⟩
 |ins C dx fs =>
  obtain⟨d,z,ne,e,mA,⟨od,es,ep,e2,c⟩,r⟩:=x;exact⟨ho _ d,z,ne,k _ _ (.inl rfl) e,mA,⟨od,es,ep,k _ _ (.inr d) e2,c⟩,r⟩
 |own y=>obtain⟨ob,e⟩:=x;exact⟨ob,k _ _ (.inl rfl) e⟩
 |xd fs=>obtain⟨mA,⟨od,es,ep,e,c⟩,r⟩:=x;exact⟨mA,⟨od,es,ep,k _ _ (.inl rfl) e,c⟩,r⟩
 |rng lo hi=>obtain⟨t,u,v,e⟩:=x;exact⟨t,u,v,k _ _ (.inl rfl) e⟩
 |frz ob u ih=>obtain⟨e,q⟩:=x;exact⟨k _ _ (.inl rfl) e,ih q⟩
 |tbl ps =>
  have e:h.get? a=some { cls:=.none,data:=.fields ps }:=x;show h'.get? a=some { cls:=.none,data:=.fields ps };exact k a _ (.inl rfl) e
 |met f y =>
  have e:h.get? a=some (PySem.W.methodObj (.ref f) (.ref y)):=x;show h'.get? a=some (PySem.W.methodObj (.ref f) (.ref y));exact k a _ (.inl rfl) e
 |ext φ=>obtain⟨p,⟨o,e⟩,st⟩:=x;exact⟨st _ _ p λo q=>k _ _ (.inl rfl) q,⟨o,k _ _ (.inl rfl) e⟩,st⟩
theorem HOk.lt(x:HOk P w H h)(e:H a=some o):a<h.objs.size:=(x a o e).lt
theorem HOk.fresh(x:HOk P w H h)(e:h.objs.size<=a):H a=none:=by
 cases q:H a with
 |none=>rfl
 |some u=>exact absurd (yaj (x.lt q) e) (yb5 _)
theorem HOk.kept(x:HOk P w H h)(k:∀b u,h.get? b=some u->h'.get? b=some u):HOk P w H h':=λa o e =>
 (x a o e).stay (λb u _ q=>k b u q) (λ_ q=>q) λ_ _ q=>q
theorem HOk.laid(x:HOk P w H h)(k:∀b u,h.get? b=some u->h'.get? b=some u)(hp:h.objs.size<=a)(new:BR P w (upd H a o) h' a o):HOk P w (upd H a o) h':=λb u e=>by
 have hn:=x.fresh hp
 by_cases hb:b=a
 .subst hb;rw[Br]at e;cases e;exact new
 .rw[Aj hb]at e;exact(x b u e).stay (λc v _ q=>k c v q) (λc q=>by rw[Aj (CA q hn)];exact q) λc xs q=>by rw[Aj (CA q hn)];exact q
end
def Rd(H:Hp)(a:Addr)(u:HO):Prop:=H a=some u\/∃o,H a=some (.frz o u)
theorem Rd.of{H:Hp}{a:Addr}{u:HO}(h:H a=some u):Rd H a u:=.inl h
theorem Rd.ok{P:Program}{w:World}{H:Hp}{h:Heap}{a:Addr}{u:HO}(r:Rd H a u)(x:HOk P w H h):BR P w H h a u:=by
 rcases r with r|⟨o,r⟩
 .exact x a u r
 .obtain⟨_,q⟩:=x a _ r;exact q
def II:Option HO->Prop
 |some (.lst _)=>True
 |some (.dK _)=>True
 |some (.dT _)=>True
 |some (.set _ _)=>True
 |some (.ins _ _ _)=>True
 |some (.ext _)=>True
 |_=>False
section
variable {P:Program}{w:World}{H:Hp}{h h':Heap}{x e:Addr}{o':HO}
theorem HOk.write(ok:HOk P w H h)(mu:II (H x))(he:e=x\/H e=some (.own x))(k:∀b u,b≠e->h.get? b=some u->h'.get? b=some u)(heo:∃u,h'.get? e=some u)
  (new:BR P w (upd H x o') h' x o'):HOk P w (upd H x o') h':=λb u q=>by
 have nown:∀c y,H c=some (.own y)->c≠x:=λc y r z=>by subst z;rw[r]at mu;exact mu
 have ntup:∀c xs,H c=some (.tup xs)->c≠x:=λc xs r z=>by subst z;rw[r]at mu;exact mu
 by_cases hb:b=x
 .subst hb;rw[Br]at q;cases q;exact new
 .rw[Aj hb]at q
  by_cases hbe:b=e
  .have q':H b=some (.own x):=by
    rcases he with z|z
    .exact absurd (hbe.trans z) hb
    .rw[hbe];exact z
   rw[q]at q';cases q';obtain⟨v,hv⟩:=heo;exact⟨v,by rw[hbe];exact hv⟩
  .refine(ok b u q).stay (λc v hc r=>k c v ?_ r) (λc r=>by rw[Aj (nown c b r)];exact r) λc xs r=>by rw[Aj (ntup c xs r)];exact r
   rcases hc with rfl|hc
   .exact hbe
   .rintro rfl
    rcases he with z|z
    .exact nown c b hc z
    .rw[hc]at z;cases z;exact hb rfl
end
structure Un(fs ex:List Addr)(H H':Hp)(h h':Heap):Prop where
 keep:∀b o,h.get? b=some o->H b=none->b∉fs->b∉ex->h'.get? b=some o
 slot:∀b o,h.get? b=some o->H b=none->b∈fs->b∉ex->∃sl,h'.get? b=some { o with slots:=sl }
 free:∀b o,h.get? b=some o->H b=none->b∉ex->H' b=none
 there:∀b o,h.get? b=some o->b∉ex->∃o',h'.get? b=some o'
 tups:∀b xs,H b=some (.tup xs)->H' b=some (.tup xs)
 frzs:∀b o u,H b=some (.frz o u)->H' b=some (.frz o u)
 tbls:∀b ps,H b=some (.tbl ps)->∃more,H' b=some (.tbl (ps++more))
section
variable {fs fs' ex ex':List Addr}{H H1 H2:Hp}{h h1 h2 h':Heap}{a x e:Addr}{o:HO}
theorem Un.any(u:Un fs ex H H1 h h1){b:Addr}{ob:Obj}(q:h.get? b=some ob)(n:H b=none)(hx:b∉ex):∃sl,h1.get? b=some { ob with slots:=sl }:=by
 by_cases hb:b∈fs
 .exact u.slot b ob q n hb hx
 .exact⟨ob.slots,u.keep b ob q n hb hx⟩
theorem Un.trans(a:Un fs ex H H1 h h1)(b:Un fs ex H1 H2 h1 h2):Un fs ex H H2 h h2 where
 keep:=λc ob q n hc hx=>b.keep c ob (a.keep c ob q n hc hx) (a.free c ob q n hx) hc hx
 slot:=λc ob q n hc hx=>by
  obtain⟨sl,e1⟩:=a.slot c ob q n hc hx;obtain⟨sl',e2⟩:=b.slot c _ e1 (a.free c ob q n hx) hc hx;exact⟨sl',e2⟩
 free:=λc ob q n hx=>by
  obtain⟨o',e1⟩:=a.there c ob q hx;exact b.free c o' e1 (a.free c ob q n hx) hx
 there:=λc ob q hx=>by
  obtain⟨o',e1⟩:=a.there c ob q hx;exact b.there c o' e1 hx
 tups:=λc xs q=>b.tups c xs (a.tups c xs q)
 frzs:=λc ob xs q=>b.frzs c ob xs (a.frzs c ob xs q)
 tbls:=λc ps q=>by
  obtain⟨m1,e1⟩:=a.tbls c ps q;obtain⟨m2,e2⟩:=b.tbls c _ e1;exact⟨m1++m2,by rw[e2,yds]⟩
theorem Un.kept(k:∀b u,h.get? b=some u->h'.get? b=some u):Un fs ex H H h h' :=
 ⟨λb ob q _ _ _=>k b ob q,λb ob q _ _ _=>⟨ob.slots,k b ob q⟩,λ_ _ _ n _=>n,λb ob q _=>⟨ob,k b ob q⟩,λ_ _ q=>q,λ_ _ _ q=>q,λ_ ps q=>⟨#[],by rw[q];simp⟩⟩
theorem Un.refl:Un fs ex H H h h:=Un.kept λ_ _ q=>q
theorem Un.laid(k:∀b u,h.get? b=some u->h'.get? b=some u)(hp:h.objs.size<=a)(hn:H a=none):Un fs ex H (upd H a o) h h' where
 keep:=λb u q _ _ _=>k b u q
 slot:=λb u q _ _ _=>⟨u.slots,k b u q⟩
 free:=λb u q n _=>by rw[Aj (yaq (yaj (yad q) hp))];exact n
 there:=λb u q _=>⟨u,k b u q⟩
 tups:=λb xs q=>by rw[Aj (CA q hn)];exact q
 frzs:=λb u xs q=>by rw[Aj (CA q hn)];exact q
 tbls:=λb ps q=>⟨#[],by rw[Aj (CA q hn),q];simp⟩
theorem Un.write(mu:II (H x))(he:e=x\/H e=some (.own x))(k:∀b u,b≠e->h.get? b=some u->h'.get? b=some u)(heo:∃u,h'.get? e=some u):Un fs ex H (upd H x o) h h':=by
 have hx:∀b,H b=none->b≠x:=λb n z=>by subst z;rw[n]at mu;exact mu
 have hb:∀b,H b=none->b≠e:=λb n z=>by
  subst z
  rcases he with r|r
  .exact hx b n r
  .rw[n]at r;cases r
 have hm:∀b u,H b=some u->¬ II (some u)->b≠x:=λb u q nm z=>by subst z;rw[q]at mu;exact nm mu
 refine⟨λb u q n _ _=>k b u (hb b n) q,λb u q n _ _=>⟨u.slots,k b u (hb b n) q⟩,λb u q n _=>by rw[Aj (hx b n)];exact n,λb u q _=>?_,
  λb xs q=>by rw[Aj (hm b _ q λz=>z)];exact q,λb u xs q=>by rw[Aj (hm b _ q λz=>z)];exact q,λb ps q=>⟨#[],by rw[Aj (hm b _ q λz=>z),q];simp⟩⟩
 by_cases hbe:b=e
 .subst hbe;exact heo
 .exact⟨u,k b u hbe q⟩
theorem Un.mono(u:Un fs ex H H1 h h1)(hs:∀b∈fs,b∈fs')(hx:∀b∈ex,b∈ex'):Un fs' ex' H H1 h h1 :=
 ⟨λb ob q n hb he=>u.keep b ob q n (λz=>hb (hs b z)) λz=>he (hx b z),λ_ _ q n _ he=>u.any q n λz=>he (hx _ z),λb ob q n he=>u.free b ob q n λz=>he (hx b z),λb ob q he=>u.there b ob q λz=>he (hx b z),u.tups,u.frzs,u.tbls⟩
end
def Ii(h:Heap)(H:Hp):List Addr:=(List.range h.objs.size).filter λa=>(H a).isSome
def E9(h:Heap)(H:Hp):Heap:=PySem.W.hideAll h (Ii h H)
theorem zee(h:Heap)(H:Hp):(E9 h H).objs.size=h.objs.size:=PySem.W.hideAll_size _ _
theorem zge{h:Heap}{H:Hp}{b:Addr}{o:Obj}(e:h.get? b=some o)(n:H b=none):(E9 h H).get? b=some o :=
 yc2 _ e λhm=>by
  have q:(H b).isSome=true:=(ydf.mp hm).2;rw[n]at q;simp at q
theorem zie{h:Heap}{H:Hp}{b:Addr}{o:Obj}(e:(E9 h H).get? b=some o):h.get? b=some o/\H b=none:=by
 have e':h.get? b=some o:=ycj (Ii h H) e;refine⟨e',?_⟩;cases q:H b with
 |none=>rfl
 |some x =>
  have hm:b∈Ii h H:=ydf.mpr ⟨ybh.mpr (yad e'),by simp[q]⟩
  have z:(E9 h H).get? b=none:=ydg (Ii h H) hm;rw[z]at e;cases e
def zjs(g h:Heap)(L:Addr):List (Addr×Obj):=(List.range h.objs.size).filterMap λa=>if a=L\/(g.get? a).isSome=true then none else (h.get? a).map λo=>(a,o)
def As(g h:Heap)(L d:Addr):List (Addr×Obj):=(zjs g h L).filter λp=>decide (p.1≠d)
structure Mod(K:k6)(mg:Str->Option Value)(base:Heap):Prop where
 kin:K.In base
 glob:base.Ns mainGlobals mg
 blt:∃mb,base.Ns builtinsNs mb/\∀x:Str,x≠"__name__"->mb x=bootBuiltins x
 nolimit:base.NoLimit
set_option genInjectivity false in
structure Cx where
 prog:Program
 w:World
 K:k6
 mg:Str->Option Value
 base:Heap
 A:Around
 N:List Str
 s₀:Shared
 H₀:Hp
 env:Env
 outer:List Env
 stack:List Env
 ex:List Addr
 fn:Str->Bool
 calm:Bool
 pn:List (Addr×Obj)
 xe:Value->Shared->Prop
def BH(l:List Env):List Addr:=l.filterMap (·.frame)
abbrev Cx.fs(X:Cx):List Addr:=BH X.outer
def C7(sc:Scope)(x:Str):Prop:=sc.names.lookup x=some .local\/sc.names.lookup x=some .cell\/sc.names.lookup x=some .free
def FR(sc:Scope)(x:Str):Prop:=sc.names.lookup x=some .local\/sc.names.lookup x=some .cell
def Look(env:Env)(h:Heap)(m:Str->Option Value)(x:Str)(u:Value):Prop :=
 (env.kindOf x=some .local/\m x=some u)\/((env.kindOf x=some .cell\/env.kindOf x=some .free)/\∃c,env.cells.lookup x=some c/\h.IsCell c (some u))
structure Cx.Ok(X:Cx):Prop where
 mod:Mod X.K X.mg X.base
 kind:X.env.scope.kind=.function
 glob:X.env.globals=mainGlobals
 blt:X.env.builtins=builtinsNs
 above:X.s₀.heap.objs.size<=X.env.locals
 inj:∀x y c,X.env.cells.lookup x=some c->X.env.cells.lookup y=some c->x=y
 has:∀x,(X.env.kindOf x=some .cell\/X.env.kindOf x=some .free)->∃c,X.env.cells.lookup x=some c
 cab:∀x c,X.fn x=true->X.env.cells.lookup x=some c->X.s₀.heap.objs.size<=c
 hd:X.calm=true->X.A.handled=none
 frames:X.A.frames=some X.stack
 stk:X.stack=X.outer\/(X.stack=X.env::X.outer/\X.env.frame=some X.env.locals)
 exf:∀b∈X.ex,b≠X.env.locals/\∀x c,X.env.cells.lookup x=some c->c≠b
 bs:∀b o,X.base.get? b=some o->X.s₀.heap.get? b=some o/\X.H₀ b=none
 bsz:X.base.objs.size<=X.s₀.heap.objs.size
 noex:∀b o,X.base.get? b=some o->b∉X.ex
 exfs:∀b∈X.ex,b∉X.fs
 funs:X.s₀.heap.FunFrames X.base X.outer
 frf:∀b∈X.fs,X.H₀ b=none
structure Inv(X:Cx)(pins:List (Addr×Obj))(σ:List (Option V))(H:Hp)(s:Shared):Prop where
 ok:X.Ok
 os:s.os=X.s₀.os
 bare:AllBare s.gens
 base:Un X.fs X.ex X.H₀ H X.s₀.heap s.heap
 loc:∃m,s.heap.Ns X.env.locals m/\∀(i:Nat) (x:Str) (v:V),X.N[i]?=some x->σ[i]?=some (some v)->C7 X.env.scope x->∃u,RelV v u/\Look X.env s.heap m x u
 cell:∀x c,X.env.cells.lookup x=some c->∃v,s.heap.IsCell c v
 free:H X.env.locals=none
 freeC:∀x c,X.env.cells.lookup x=some c->H c=none
 pin:∀p∈X.pn++pins,s.heap.get? p.1=some p.2/\H p.1=none/\p.1≠X.env.locals/\p.1∉X.fs/\∀v,p.2.data≠.cell v
 hok:HOk X.prog X.w H s.heap
 len:σ.length=X.N.length
section
variable {X:Cx}{pins:List (Addr×Obj)}{σ:List (Option V)}{H H':Hp}{s:Shared}{h':Heap}
theorem Cx.Ok.nofr(ok:X.Ok){b:Addr}{o:Obj}(e:X.base.get? b=some o):b∉X.fs:=λhb=>by
 have:=(ok.funs.mem hb).1;rw[e]at this;cases this
theorem Inv.bs(I:Inv X pins σ H s):∀b o,X.base.get? b=some o->s.heap.get? b=some o/\H b=none:=λb o e =>
 ⟨I.base.keep b o (I.ok.bs b o e).1 (I.ok.bs b o e).2 (I.ok.nofr e) (I.ok.noex b o e),I.base.free b o (I.ok.bs b o e).1 (I.ok.bs b o e).2 (I.ok.noex b o e)⟩
theorem Inv.bk(I:Inv X pins σ H s):∀b o,X.base.get? b=some o->s.heap.get? b=some o:=λb o e=>(I.bs b o e).1
theorem Inv.mod(I:Inv X pins σ H s):Mod X.K X.mg X.base:=I.ok.mod
theorem Inv.kIn(I:Inv X pins σ H s):X.K.In s.heap:=I.ok.mod.kin.keeps I.bk
theorem Inv.nolimit(I:Inv X pins σ H s):s.heap.NoLimit:=I.ok.mod.nolimit.keeps I.bk
theorem Inv.fr(I:Inv X pins σ H s):∃m,Fr X.base X.env.locals s.heap m :=
 let ⟨m,hn,_⟩:=I.loc
 ⟨m,hn,I.bk,yaf I.ok.bsz I.ok.above⟩
theorem Inv.lt(I:Inv X pins σ H s):X.env.locals<s.heap.objs.size:=let ⟨_,hn,_⟩:=I.loc;hn.lt
theorem Inv.sz(I:Inv X pins σ H s):X.s₀.heap.objs.size<=s.heap.objs.size:=yaf I.ok.above (ydh I.lt)
theorem Inv.nofs(I:Inv X pins σ H s){a:Addr}(h:s.heap.objs.size<=a):a∉X.fs:=λhb=>by
 obtain⟨_,o,ho,_⟩:=I.ok.funs.mem hb;exact absurd (yaj (yad ho) (yaf I.sz h)) (yb5 _)
theorem Inv.cne(I:Inv X pins σ H s):∀x c,X.env.cells.lookup x=some c->c≠X.env.locals:=λx c e z=>by
 obtain⟨v,o,ho,hd⟩:=I.cell x c e;obtain⟨m,⟨o',es,ep,ho',hd',_⟩,_⟩:=I.loc;rw[z,ho']at ho;cases ho;rw[hd']at hd;cases hd
theorem Inv.funs(I:Inv X pins σ H s):s.heap.FunFrames X.base X.outer:=by
 have all:∀(l:List Env),(∀b∈BH l,b∈X.fs)->X.s₀.heap.FunFrames X.base l->s.heap.FunFrames X.base l:=by
  intro l
  induction l with
  |nil=>intro _ _;trivial
  |cons env r ih =>
   intro hs hl;obtain⟨hk,⟨L,o,hf,hn,ho,hd⟩,hr⟩:=hl;have hL:L∈X.fs:=hs L (by unfold BH;rw[ydk,hf];exact ya7)
   obtain⟨sl,e⟩:=I.base.slot L o ho (I.ok.frf L hL) hL λz=>I.ok.exfs L z hL
   exact⟨hk,⟨L,_,hf,hn,e,hd⟩,ih (λb hb=>hs b (by unfold BH;rw[ydk,hf];exact ya6 _ hb)) hr⟩
 exact all X.outer (λ_ hb=>hb) I.ok.funs
theorem Inv.stack(I:Inv X pins σ H s):s.heap.FunFrames X.base X.stack:=by
 rcases I.ok.stk with e|⟨e,hf⟩
 .rw[e];exact I.funs
 .rw[e];obtain⟨m,hn,_⟩:=I.loc;refine .cons (by rw[I.ok.kind];decide) hf hn ?_ I.funs
  exact Heap.get?_none_of_le (yaf I.ok.bsz I.ok.above)
theorem Inv.stkSub(I:Inv X pins σ H s):∀b∈BH X.stack,b∈X.env.locals::X.fs:=λb hb=>by
 rcases I.ok.stk with e|⟨e,hf⟩
 .rw[e]at hb;exact ya6 _ hb
 .rw[e]at hb;unfold BH at hb;rw[ydk,hf]at hb;exact hb
theorem Inv.stkFree(I:Inv X pins σ H s):∀b∈BH X.stack,H b=none:=λb hb=>by
 rcases yai.mp (I.stkSub b hb) with e|hb
 .rw[e];exact I.free
 .obtain⟨_,o,ho,_⟩:=I.ok.funs.mem hb;exact I.base.free b o ho (I.ok.frf b hb) λz=>I.ok.exfs b z hb
theorem Inv.step{g':Array GenState}{t':Nat}{d':Drawn}{ch:List Addr}(I:Inv X pins σ H s)
  (hch:∀b∈ch,(b∈X.ex\/X.s₀.heap.objs.size<=b)/\b≠X.env.locals/\(∀x c,X.env.cells.lookup x=some c->c≠b)/\∀p∈X.pn++pins,p.1≠b)
  (keep:∀b o,b≠X.env.locals->b∉X.fs->b∉ch->s.heap.get? b=some o->H b=none->h'.get? b=some o)
  (slot:∀b o,b≠X.env.locals->b∈X.fs->b∉ch->s.heap.get? b=some o->H b=none->∃sl,h'.get? b=some { o with slots:=sl }) (free:∀b o,b∉ch->s.heap.get? b=some o->H b=none->H' b=none)
  (there:∀b o,b∉ch->s.heap.get? b=some o->∃o',h'.get? b=some o')
  (tups:∀b xs,H b=some (.tup xs)->H' b=some (.tup xs)) (frzs:∀b o u,H b=some (.frz o u)->H' b=some (.frz o u)) (tbls:∀b ps,H b=some (.tbl ps)->∃more,H' b=some (.tbl (ps++more)))
  (ns:∀m,s.heap.Ns X.env.locals m->h'.Ns X.env.locals m) (hok:HOk X.prog X.w H' h') (hg:AllBare g') :
  Inv X pins σ H' { s with heap:=h',gens:=g',drawn:=d',toks:=t' }:=by
 have neL:∀b o,X.s₀.heap.get? b=some o->b≠X.env.locals:=λb o e=>yaq (yaj (yad e) I.ok.above)
 have neC:∀b o,X.s₀.heap.get? b=some o->b∉X.ex->b∉ch:=λb o e hx hb=>by
  rcases(hch b hb).1 with z|z
  .exact hx z
  .exact absurd (yaj (yad e) z) (yb5 _)
 have cellK:∀x c,X.env.cells.lookup x=some c->∀v,s.heap.IsCell c v->h'.IsCell c v:=λx c e v ⟨o,ho,hd⟩=>by
  have nch:c∉ch:=λz=>(hch c z).2.2.1 x c e rfl
  by_cases hc:c∈X.fs
  .obtain⟨sl,q⟩:=slot c o (I.cne x c e) hc nch ho (I.freeC x c e);exact⟨_,q,hd⟩
  .exact⟨o,keep c o (I.cne x c e) hc nch ho (I.freeC x c e),hd⟩
 refine⟨I.ok,I.os,hg,⟨λb o e n hb hx=>?_,λb o e n hb hx=>?_,λb o e n hx=>?_,λb o e hx=>?_,λb xs e=>tups b xs (I.base.tups b xs e),λb o xs e=>frzs b o xs (I.base.frzs b o xs e),λb ps e=>?_⟩,?_,λx c e=>?_,?_,λx c e=>?_,λp hp=>?_,hok,I.len⟩
 .exact keep b o (neL b o e) hb (neC b o e hx) (I.base.keep b o e n hb hx) (I.base.free b o e n hx)
 .obtain⟨sl,e1⟩:=I.base.slot b o e n hb hx;obtain⟨sl',e2⟩:=slot b _ (neL b o e) hb (neC b o e hx) e1 (I.base.free b o e n hx);exact⟨sl',e2⟩
 .obtain⟨o',e1⟩:=I.base.there b o e hx;exact free b o' (neC b o e hx) e1 (I.base.free b o e n hx)
 .obtain⟨o',e1⟩:=I.base.there b o e hx;exact there b o' (neC b o e hx) e1
 .obtain⟨m1,e1⟩:=I.base.tbls b ps e;obtain⟨m2,e2⟩:=tbls b _ e1;exact⟨m1++m2,by rw[e2,yds]⟩
 .obtain⟨m,hn,hl⟩:=I.loc;refine⟨m,ns m hn,λi x v e1 e2 e3=>?_⟩
  obtain⟨u,r,l⟩:=hl i x v e1 e2 e3;refine⟨u,r,?_⟩
  rcases l with l|⟨k,c,e,z⟩
  .exact .inl l
  .exact .inr ⟨k,c,e,cellK x c e _ z⟩
 .obtain⟨v,z⟩:=I.cell x c e;exact⟨v,cellK x c e v z⟩
 .obtain⟨m,⟨o,_,_,ho,_⟩,_⟩:=I.loc;exact free _ o (λz=>(hch _ z).2.1 rfl) ho I.free
 .obtain⟨v,o,ho,hd⟩:=I.cell x c e;exact free c o (λz=>(hch c z).2.2.1 x c e rfl) ho (I.freeC x c e)
 .obtain⟨e,n,ne,nf,d⟩:=I.pin p hp;have nch:p.1∉ch:=λz=>(hch p.1 z).2.2.2 p hp rfl
  exact⟨keep p.1 p.2 ne nf nch e n,free p.1 p.2 nch e n,ne,nf,d⟩
theorem Inv.un{t':Nat}(I:Inv X pins σ H s)(u:Un X.fs [] H H' s.heap h')(hok:HOk X.prog X.w H' h'):Inv X pins σ H' { s with heap:=h',toks:=t' }:=by
 obtain⟨m,⟨o,es,ep,ho,r⟩,_⟩:=id I.loc;obtain⟨sl,hL⟩:=u.any ho I.free (by simp)
 exact I.step (g':=s.gens) (d':=s.drawn) (ch:=[]) (λ_ z=>nomatch z) (λb o _ hb _ e n=>u.keep b o e n hb (by simp)) (λb o _ hb _ e n=>u.slot b o e n hb (by simp)) (λb o _ e n=>u.free b o e n (by simp)) (λb o _ e=>u.there b o e (by simp)) u.tups u.frzs u.tbls (λm' hm=>by
  obtain⟨o',es',ep',ho',r'⟩:=hm;rw[ho]at ho';cases ho';exact⟨_,es',ep',hL,r'⟩) hok I.bare
theorem Inv.call{g':Array GenState}{t':Nat}{d':Drawn}{ch:List Addr}(I:Inv X pins σ H s)(u:Un (BH X.stack) ch H H' s.heap h')(hok:HOk X.prog X.w H' h')(hg:AllBare g')
  (hch:∀b∈ch,(b∈X.ex\/X.s₀.heap.objs.size<=b)/\b≠X.env.locals/\(∀x c,X.env.cells.lookup x=some c->c≠b)/\∀p∈X.pn++pins,p.1≠b) :
  Inv X pins σ H' { s with heap:=h',gens:=g',drawn:=d',toks:=t' }:=by
 obtain⟨m,⟨o,es,ep,ho,r⟩,_⟩:=id I.loc;obtain⟨sl,hL⟩:=u.any ho I.free λz=>(hch _ z).2.1 rfl
 exact I.step (ch:=ch) hch (λb o hL hb hc e n=>u.keep b o e n (λz=>(yai.mp (I.stkSub b z)).elim hL hb) hc) (λb o _ _ hc e n=>u.any e n hc) (λb o hc e n=>u.free b o e n hc) (λb o hc e=>u.there b o e hc) u.tups u.frzs u.tbls (λm' hm=>by
  obtain⟨o',es',ep',ho',r'⟩:=hm;rw[ho]at ho';cases ho';exact⟨_,es',ep',hL,r'⟩) hok hg
theorem Inv.turned{t':Nat}{it:Addr}(I:Inv X pins σ H s)(k:∀b o,b≠it->s.heap.get? b=some o->h'.get? b=some o)(hn:H it=none)(hL:it≠X.env.locals)
  (h1:it∈X.ex\/X.s₀.heap.objs.size<=it) (h2:∀x c,X.env.cells.lookup x=some c->c≠it) (h3:∀p∈X.pn++pins,p.1≠it):Inv X pins σ H { s with heap:=h',toks:=t' }:=by
 have nit:∀b u,H b=some u->b≠it:=λb u e z=>by rw[z,hn]at e;cases e
 refine I.step (g':=s.gens) (d':=s.drawn) (ch:=[it]) (λb hb=>?_) (λb o _ _ hc e _=>k b o (λz=>hc (by simp[z])) e) (λb o _ _ hc e _=>⟨o.slots,k b o (λz=>hc (by simp[z])) e⟩) (λ_ _ _ _ n=>n)
  (λb o hc e=>⟨o,k b o (λz=>hc (by simp[z])) e⟩) (λ_ _ e=>e) (λ_ _ _ e=>e) (λb ps e=>⟨#[],by rw[e];simp⟩) (λm hm=>?_) (λb u e=>?_) I.bare
 .have e:b=it:=by simpa using hb
  subst e;exact⟨h1,hL,h2,h3⟩
 .obtain⟨o,es,ep,ho,r⟩:=hm;exact⟨o,es,ep,k _ o (yb1 hL) ho,r⟩
 .refine(I.hok b u e).stay (λc v hc q=>k c v ?_ q) (λ_ q=>q) λ_ _ q=>q
  rcases hc with z|z
  .rw[z];exact nit b u e
  .exact nit c _ z
theorem Inv.tok(I:Inv X pins σ H s)(t:Nat):Inv X pins σ H { s with toks:=t }:=I.un (h':=s.heap) (t':=t) Un.refl I.hok
theorem Inv.kept{t':Nat}(I:Inv X pins σ H s)(k:∀b u,s.heap.get? b=some u->h'.get? b=some u):Inv X pins σ H { s with heap:=h',toks:=t' }:=I.un (Un.kept k) (I.hok.kept k)
theorem Inv.laid{a:Addr}{o:HO}{t':Nat}(I:Inv X pins σ H s)(k:∀b u,s.heap.get? b=some u->h'.get? b=some u)(hp:s.heap.objs.size<=a)(new:BR X.prog X.w (upd H a o) h' a o) :
  Inv X pins σ (upd H a o) { s with heap:=h',toks:=t' }:=I.un (Un.laid k hp (I.hok.fresh hp)) (I.hok.laid k hp new)
theorem Inv.write{x e:Addr}{o:HO}{t':Nat}(I:Inv X pins σ H s)(mu:II (H x))(he:e=x\/H e=some (.own x))(k:∀b u,b≠e->s.heap.get? b=some u->h'.get? b=some u)(heo:∃u,h'.get? e=some u)
  (new:BR X.prog X.w (upd H x o) h' x o):Inv X pins σ (upd H x o) { s with heap:=h',toks:=t' }:=I.un (Un.write mu he k heo) (I.hok.write mu he k heo new)
theorem Inv.weak{σ':List (Option V)}(I:Inv X pins σ H s)(hl:σ'.length=σ.length)(w:∀(i:Nat) v,σ'[i]?=some (some v)->σ[i]?=some (some v)):Inv X pins σ' H s :=
 ⟨I.ok,I.os,I.bare,I.base,let ⟨m,hn,hl'⟩:=I.loc;⟨m,hn,λi x v e1 e2 e3=>hl' i x v e1 (w i v e2) e3⟩,I.cell,I.free,I.freeC,I.pin,I.hok,hl.trans I.len⟩
theorem Inv.pins_of{pins':List (Addr×Obj)}(I:Inv X pins σ H s)(h:∀p∈pins',s.heap.get? p.1=some p.2/\H p.1=none/\p.1≠X.env.locals/\p.1∉X.fs/\∀v,p.2.data≠.cell v):Inv X pins' σ H s :=
 ⟨I.ok,I.os,I.bare,I.base,I.loc,I.cell,I.free,I.freeC,λp hp=>(ybb.mp hp).elim (λz=>I.pin p (ycb _ z)) (h p),I.hok,I.len⟩
theorem Sd{N:List Str}(hN:N.Nodup){i j:Nat}{x:Str}(a:N[i]?=some x)(b:N[j]?=some x):i=j:=by
 obtain⟨h1,e1⟩:=ya5.mp a;obtain⟨h2,e2⟩:=ya5.mp b;exact(ycq hN).mp (e1.trans e2.symm)
theorem Q5{M:Model}{A:Around}{E:Value->Shared->Prop}{i:Nat}{x:Str}{v:V}{u:Value}{Q:Unit->Shared->Prop}(I:Inv X pins σ H s)(hN:X.N.Nodup)(hi:X.N[i]?=some x)(hx:FR X.env.scope x)(r:RelV v u)
  (h:∀s',Inv X pins (σ.set i (some v)) H s'->(∃a,Heap.SameBut a s.heap s'.heap/\(a=X.env.locals\/X.env.cells.lookup x=some a))->Q () s') (hf:X.fn x=true\/X.env.scope.names.lookup x=some .local:=by first|exact .inl rfl|exact .inr rfl|assumption):wpAny M A (storeName X.env x u) Q E s:=by
 obtain⟨m,hn,hl⟩:=id I.loc;have hcls:(X.env.scope.kind == .class || (X.env.scope.kind == .module && X.env.locals != X.env.globals))=false:=by rw[I.ok.kind];rfl
 have hiσ:i<σ.length:=by rw[I.len];exact(ya5.mp hi).1
 have cne:=I.cne
 have tracked:∀{a:Addr} {h':Heap},(∃o,s.heap.get? a=some o/\H a=none)->Heap.SameBut a s.heap h'->HOk X.prog X.w H h':=λ{a h'} ha hs b ob e=>by
  obtain⟨_,_,hfree⟩:=ha;refine(I.hok b ob e).stay (λc w' hc q=>(hs.2 c ?_).trans q) (λ_ q=>q) λ_ _ q=>q
  rintro rfl
  rcases hc with rfl|hc
  .rw[hfree]at e;cases e
  .rw[hfree]at hc;cases hc
 rcases hx with hk|hk
 .refine wpAny_storeName_local hk hn (λh' hn' hs=>?_) hcls
  obtain⟨oL,_,_,hoL,_⟩:=id hn;refine h _ ⟨I.ok,I.os,I.bare,⟨λb o e n hb hx=>?_,λb o e n hb hx=>?_,I.base.free,λb o e hx=>?_,I.base.tups,I.base.frzs,I.base.tbls⟩,⟨_,hn',λj y v' e1 e2 e3=>?_⟩,λy c e=>?_,I.free,I.freeC,λp hp=>?_,tracked ⟨oL,hoL,I.free⟩ hs,by simpa using I.len⟩ ⟨_,hs,.inl rfl⟩
  .exact(hs.2 b (yaq (yaj (yad e) I.ok.above))).trans (I.base.keep b o e n hb hx)
  .obtain⟨sl,e1⟩:=I.base.slot b o e n hb hx;exact⟨sl,(hs.2 b (yaq (yaj (yad e) I.ok.above))).trans e1⟩
  .obtain⟨o',e1⟩:=I.base.there b o e hx;exact⟨o',(hs.2 b (yaq (yaj (yad e) I.ok.above))).trans e1⟩
  .by_cases hj:j=i
   .subst hj;rw[hi]at e1;cases e1;rw[yam hiσ]at e2;cases e2;exact⟨u,r,.inl ⟨hk,by simp⟩⟩
   .rw[yan (yb1 hj)]at e2;obtain⟨u',r',q⟩:=hl j y v' e1 e2 e3;refine⟨u',r',?_⟩
    rcases q with ⟨k,e⟩|⟨k,c,e,z⟩
    .refine .inl ⟨k,?_⟩;have:y≠x:=λe=>hj (Sd hN e1 (e▸hi))
     simp[this,e]
    .exact .inr ⟨k,c,e,z.sameBut hs (cne y c e)⟩
  .obtain⟨w',z⟩:=I.cell y c e;exact⟨w',z.sameBut hs (cne y c e)⟩
  .obtain⟨e,n,ne,nf,d⟩:=I.pin p hp;exact⟨(hs.2 p.1 ne).trans e,n,ne,nf,d⟩
 .have hfn:X.fn x=true:=by
   rcases hf with z|z
   .exact z
   .rw[z]at hk;cases hk
  obtain⟨c,hc⟩:=I.ok.has x (.inl hk);obtain⟨w',z⟩:=I.cell x c hc;refine wpAny_storeName_cell I.ok.kind hk hc z (λh' hc' hs=>?_)
  obtain⟨oc,hoc,hocd⟩:=id z;refine h { s with heap:=h' } ⟨I.ok,I.os,I.bare,⟨λb o e n hb hx=>?_,λb o e n hb hx=>?_,I.base.free,λb o e hx=>?_,I.base.tups,I.base.frzs,I.base.tbls⟩,⟨m,hn.sameBut hs (yb1 (cne x c hc)),λj y v' e1 e2 e3=>?_⟩,λy c' e=>?_,I.free,I.freeC,λp hp=>?_,tracked ⟨oc,hoc,I.freeC x c hc⟩ hs,by simpa using I.len⟩ ⟨c,hs,.inr hc⟩
  .exact(hs.2 b (yaq (yaj (yad e) (I.ok.cab x c hfn hc)))).trans (I.base.keep b o e n hb hx)
  .obtain⟨sl,e1⟩:=I.base.slot b o e n hb hx;exact⟨sl,(hs.2 b (yaq (yaj (yad e) (I.ok.cab x c hfn hc)))).trans e1⟩
  .obtain⟨o',e1⟩:=I.base.there b o e hx;exact⟨o',(hs.2 b (yaq (yaj (yad e) (I.ok.cab x c hfn hc)))).trans e1⟩
  .by_cases hj:j=i
   .subst hj;rw[hi]at e1;cases e1;rw[yam hiσ]at e2;cases e2;exact⟨u,r,.inr ⟨.inl hk,c,hc,hc'⟩⟩
   .rw[yan (yb1 hj)]at e2;obtain⟨u',r',q⟩:=hl j y v' e1 e2 e3;refine⟨u',r',?_⟩
    rcases q with q|⟨k,c',e,z'⟩
    .exact .inl q
    .refine .inr ⟨k,c',e,z'.sameBut hs ?_⟩;rintro rfl;exact hj (Sd hN e1 (I.ok.inj _ _ _ e hc▸hi))
  .by_cases hcc:c'=c
   .subst hcc;exact⟨_,hc'⟩
   .obtain⟨w2,z2⟩:=I.cell y c' e;exact⟨w2,z2.sameBut hs hcc⟩
  .obtain⟨e,n,ne,nf,d⟩:=I.pin p hp;refine⟨(hs.2 p.1 ?_).trans e,n,ne,nf,d⟩;intro q;rw[q,hoc]at e;have q':oc=p.2:=yar e;exact d w' (by rw[<- q'];exact hocd)
theorem Q6{M:Model}{A:Around}{E:Value->Shared->Prop}{i:Nat}{x:Str}{v:V}{u:Value}{Q:Unit->Shared->Prop}(I:Inv X pins σ H s)(hN:X.N.Nodup)(hi:X.N[i]?=some x)(hx:FR X.env.scope x)(r:RelV v u)
  (h:∀s',Inv X pins (σ.set i (some v)) H s'->Q () s') (hf:X.fn x=true\/X.env.scope.names.lookup x=some .local:=by first|exact .inl rfl|exact .inr rfl|assumption):wpAny M A (storeName X.env x u) Q E s :=
 Q5 I hN hi hx r (λs' I' _=>h s' I') hf
theorem Inv.call'{s':Shared}{ch:List Addr}(I:Inv X pins σ H s)(ho:s'.os=s.os)(u:Un (BH X.stack) ch H H' s.heap s'.heap)(hok:HOk X.prog X.w H' s'.heap)(hg:AllBare s'.gens)
  (hch:∀b∈ch,(b∈X.ex\/X.s₀.heap.objs.size<=b)/\b≠X.env.locals/\(∀x c,X.env.cells.lookup x=some c->c≠b)/\∀p∈X.pn++pins,p.1≠b):Inv X pins σ H' s':=by
 obtain⟨h',g',d',t',o'⟩:=s';have e:o'=s.os:=ho;subst e;exact I.call (g':=g') (t':=t') (d':=d') u hok hg hch
end
abbrev XK:=Value->Option Addr->Hp->Prop
abbrev St:=List (Option V)
abbrev VK:=V->Hp->Prop
abbrev TE:=St->Hp->VK->Prop
abbrev TT:=St->Hp->(Bool->Hp->Prop)->Prop
abbrev TA:=St->Hp->(List V->Hp->Prop)->Prop
structure Ends where
 nx:St->Hp->Prop
 rt:VK
 bk:St->Hp->Prop:=λ_ _=>False
 ct:St->Hp->Prop:=λ_ _=>False
abbrev TS:=Ends->St->Hp->Prop
def EP(X:Cx)(pins:List (Addr×Obj))(σ:St)(Q:VK)(u:Value)(s':Shared):Prop:=∃v H',Inv X pins σ H' s'/\RelV v u/\Q v H'
def TP(X:Cx)(pins:List (Addr×Obj))(σ:St)(Q:Bool->Hp->Prop)(b:Bool)(s':Shared):Prop:=∃H',Inv X pins σ H' s'/\Q b H'
def AP(X:Cx)(pins:List (Addr×Obj))(σ:St)(Q:List V->Hp->Prop)(us:List Value)(s':Shared):Prop:=∃vs H',Inv X pins σ H' s'/\AR vs us/\Q vs H'
def SP(X:Cx)(pins:List (Addr×Obj))(D:Ends)(f:Flow)(s':Shared):Prop :=
 match f with
 |.next=>∃σ' H',Inv X pins σ' H' s'/\D.nx σ' H'
 |.brk=>∃σ' H',Inv X pins σ' H' s'/\D.bk σ' H'
 |.cont=>∃σ' H',Inv X pins σ' H' s'/\D.ct σ' H'
 |.ret u=>∃v σ' H',Inv X pins σ' H' s'/\RelV v u/\D.rt v H'
def PE(X:Cx)(e:Expr)(t:TE):Prop :=
 ∀(pins:List (Addr×Obj)) (s:Shared) (σ:St) (H:Hp) (Q:VK),Inv X pins σ H s->t σ H Q->wpAny (model X.prog X.w) X.A (eval e X.env) (EP X pins σ Q) X.xe s
def PT(X:Cx)(e:Expr)(t:TT):Prop :=
 ∀(pins:List (Addr×Obj)) (s:Shared) (σ:St) (H:Hp) (Q:Bool->Hp->Prop),Inv X pins σ H s->t σ H Q->wpAny (model X.prog X.w) X.A (isTrue e X.env (eval e X.env)) (TP X pins σ Q) X.xe s
def PW(X:Cx)(e:Expr)(t:TT):Prop :=
 ∀(whole:Sem Value) (pins:List (Addr×Obj)) (s:Shared) (σ:St) (H:Hp) (Q:Bool->Hp->Prop),Inv X pins σ H s->t σ H Q->wpAny (model X.prog X.w) X.A (isTrue e X.env whole) (TP X pins σ Q) X.xe s
theorem PW.pt{X:Cx}{e:Expr}{t:TT}(h:PW X e t):PT X e t:=h _
def PA(X:Cx)(es:List Expr)(t:TA):Prop :=
 ∀(pos:Pos) (pins:List (Addr×Obj)) (s:Shared) (σ:St) (H:Hp) (Q:List V->Hp->Prop),Inv X pins σ H s->t σ H Q->wpAny (model X.prog X.w) X.A (spliced (backTo pos (starEach es X.env))) (AP X pins σ Q) X.xe s
def PS(X:Cx)(st:Stmt)(t:TS):Prop :=
 ∀(pins:List (Addr×Obj)) (s:Shared) (σ:St) (H:Hp) (D:Ends),Inv X pins σ H s->t D σ H->wpAny (model X.prog X.w) X.A (exec st X.env) (SP X pins D) X.xe s
def BC(X:Cx)(st:List Stmt)(t:TS):Prop :=
 ∀(pins:List (Addr×Obj)) (s:Shared) (σ:St) (H:Hp) (D:Ends),Inv X pins σ H s->t D σ H->wpAny (model X.prog X.w) X.A (execs st X.env) (SP X pins D) X.xe s
theorem AO{α:Type}{t:Sem α}{Q Q':α->Shared->Prop}{M:Model}{A:Around}{E:Value->Shared->Prop}{s:Shared}(h:wpAny M A t Q E s)(hQ:∀a s,Q a s->Q' a s):wpAny M A t Q' E s:=yeb h hQ λ_ _ x=>x
section
variable {X:Cx}
def LM(i:Nat):TE:=λσ H Q=>∃v,σ[i]?=some (some v)/\Q v H
def tC(v:V):TE:=λ_ H Q=>Q v H
theorem FA{i:Nat}{x:Str}{pos:Pos}(hN:X.N[i]?=some x)(hv:C7 X.env.scope x)(hd:(x == ("__debug__":Str))=false:=by decide)(hcd:(x == ("__classdict__":Str))=false:=by decide):PE X (.Name x pos) (LM i):=by
 intro pins s σ H Q I h;obtain⟨v,e,h⟩:=h;obtain⟨m,hn,hl⟩:=I.loc;obtain⟨u,r,l⟩:=hl i x v hN e hv;have Ay:EP X pins σ Q u s:=⟨v,H,I,r,h⟩
 rcases l with ⟨hk,hm⟩|⟨hk,c,hc,hcell⟩
 .exact wpAny_Name (wpAny_loadName_local I.ok.kind hk hn hm Ay) hd
 .rcases hk with hk|hk
  .exact wpAny_Name (wpAny_loadName_cell I.ok.kind hk hc hcell Ay) hd
  .exact wpAny_Name (wpAny_loadName_free I.ok.kind hk hc hcell Ay hcd) hd
theorem zlm{i j pos}:PE X (.Constant (.int i) j pos) (tC (.int i)):=λ_ _ _ H _ I h=>wpAny_Constant_int ⟨.int i,H,I.tok _,⟨_,rfl⟩,h⟩
theorem pe_bl{b j pos}:PE X (.Constant (.bool b) j pos) (tC (.bl b)):=λ_ _ _ H _ I h=>Constant_bool ⟨.bl b,H,I,rfl,h⟩
theorem zlj{j pos}:PE X (.Constant .none j pos) (tC .non):=λ_ _ _ H _ I h=>Constant_none ⟨.non,H,I,rfl,h⟩
theorem zlg{x j pos}:PE X (.Constant (.str x) j pos) (tC (.str x)):=λ_ _ _ H _ I h=>Calls.Constant_str ⟨.str x,H,I.tok _,⟨_,rfl⟩,h⟩
def Gl(X:Cx)(x:Str):Prop:=X.env.kindOf x=some .globalImplicit
theorem Hi{E:Value->Shared->Prop}{pins:List (Addr×Obj)}{s:Shared}{σ:St}{H:Hp}{x:Str}{u:Value}{pos:Pos}{Q:Value->Shared->Prop}(I:Inv X pins σ H s)(hg:Gl X x)(hm:X.mg x=some u)(h:Q u s)
  (hd:(x == ("__debug__":Str))=false:=by decide):wpAny (model X.prog X.w) X.A (eval (.Name x pos) X.env) Q E s :=
 Calls.Name_function_global I.ok.kind hg (Calls.loadGlobal_global (by rw[I.ok.glob];exact I.mod.glob.keeps I.bk) hm h) hd
theorem Fv{E:Value->Shared->Prop}{pins:List (Addr×Obj)}{s:Shared}{σ:St}{H:Hp}{x:Str}{u:Value}{pos:Pos}{Q:Value->Shared->Prop}(I:Inv X pins σ H s)(hg:Gl X x)(hm:X.mg x=none)(hv:bootBuiltins x=some u)(h:Q u s)
  (hn:x≠"__name__":=by decide) (hd:(x == ("__debug__":Str))=false:=by decide):wpAny (model X.prog X.w) X.A (eval (.Name x pos) X.env) Q E s:=by
 obtain⟨mb,h1,h2⟩:=I.mod.blt;exact Calls.Name_function_global I.ok.kind hg (Calls.loadGlobal_builtin (by rw[I.ok.glob];exact I.mod.glob.keeps I.bk) hm (by rw[I.ok.blt];exact h1.keeps I.bk) ((h2 x hn).trans hv) h) hd
theorem RR{x:Str}{v:V}{u:Value}{pos:Pos}(hg:Gl X x)(hm:X.mg x=some u)(r:RelV v u)(hd:(x == ("__debug__":Str))=false:=by decide):PE X (.Name x pos) (tC v) :=
 λ_ _ _ H _ I h=>Hi I hg hm ⟨v,H,I,r,h⟩ hd
theorem zi1{x:Str}{v:V}{u:Value}{pos:Pos}(hg:Gl X x)(hm:X.mg x=none)(hv:bootBuiltins x=some u)(r:RelV v u)(hn:x≠"__name__":=by decide)(hd:(x == ("__debug__":Str))=false:=by decide):PE X (.Name x pos) (tC v) :=
 λ_ _ _ H _ I h=>Fv I hg hm hv ⟨v,H,I,r,h⟩ hn hd
variable {a b:Expr}{ta tb:TE}{pos:Pos}
def tB(t:TE):TT:=λσ H Q=>t σ H λx H1=>∃c,x=.bl c/\Q c H1
theorem zl3{e:Expr}{t:TE}(h:PE X e t)(he:∀whole,isTrue e X.env whole=(do let v <- whole;standAt e.pos;holding [v] (truthy v)):=by intro _;rfl):PT X e (tB t):=by
 intro pins s σ H Q I hw;refine isTrue_plain (AO (h pins s σ H _ I hw) λv s1 ⟨x,H1,I1,r1,q1⟩=>?_) (he _)
 obtain⟨d,rfl,q⟩:=q1;cases r1;exact yec ⟨H1,I1,q⟩
variable {tA tB':TT}{As:List Expr}
def tAnd(t u:TT):TT:=λσ H Q=>t σ H λc H1=>if c=true then u σ H1 Q else Q false H1
def tOr(t u:TT):TT:=λσ H Q=>t σ H λc H1=>if c=true then Q true H1 else u σ H1 Q
def QK(t:TT):TT:=λσ H Q=>t σ H λc H1=>Q (!c) H1
theorem zhi(ha:PT X a tA):PW X (.BoolOp .And [a] pos) tA:=by
 intro wh pins s σ H Q I h;refine isTrue_and (AO (ha pins s σ H Q I h) λc s1 e=>?_)
 cases c with
 |true=>exact isTrue_and_nil e
 |false=>exact e
theorem zl1(ha:PT X a tA):PW X (.BoolOp .Or [a] pos) tA:=by
 intro wh pins s σ H Q I h;refine isTrue_or (AO (ha pins s σ H Q I h) λc s1 e=>?_)
 cases c with
 |false=>exact isTrue_or_nil e
 |true=>exact e
theorem zl2(ha:PT X a tA)(hb:PW X (.BoolOp .And (b::As) pos) tB'):PW X (.BoolOp .And (a::b::As) pos) (tAnd tA tB'):=by
 intro wh pins s σ H Q I h;refine isTrue_and (AO (ha pins s σ H _ I h) λc s1 ⟨H1,I1,q1⟩=>?_)
 cases c with
 |true=>exact hb wh pins s1 σ H1 Q I1 q1
 |false=>exact⟨H1,I1,q1⟩
theorem pw_or(ha:PT X a tA)(hb:PW X (.BoolOp .Or (b::As) pos) tB'):PW X (.BoolOp .Or (a::b::As) pos) (tOr tA tB'):=by
 intro wh pins s σ H Q I h;refine isTrue_or (AO (ha pins s σ H _ I h) λc s1 ⟨H1,I1,q1⟩=>?_)
 cases c with
 |true=>exact⟨H1,I1,q1⟩
 |false=>exact hb wh pins s1 σ H1 Q I1 q1
theorem zl4(ha:PT X a tA):PT X (.UnaryOp .Not a pos) (QK tA):=by
 intro pins s σ H Q I h;exact isTrue_not (ha pins s σ H (λc H1=>Q (!c) H1) I h)
def tAndV(ta tb:TE):TE:=λσ H Q=>ta σ H λx H1=>∃c,x=.bl c/\if c=true then tb σ H1 Q else Q (.bl false) H1
def tOrV(ta tb:TE):TE:=λσ H Q=>ta σ H λx H1=>∃c,x=.bl c/\if c=true then Q (.bl true) H1 else tb σ H1 Q
def QJ(ta:TE):TE:=λσ H Q=>ta σ H λx H1=>∃c,x=.bl c/\Q (.bl (!c)) H1
theorem zlh{op}{t:TE}(h:PE X a t):PE X (.BoolOp op [a] pos) t:=λpins s σ H Q I hw=>BoolOp_one (h pins s σ H Q I hw)
theorem zlo(ha:PE X a ta)(hb:PE X (.BoolOp .And (b::As) pos) tb):PE X (.BoolOp .And (a::b::As) pos) (tAndV ta tb):=by
 intro pins s σ H Q I h;refine BoolOp_and (AO (ha pins s σ H _ I h) λv s1 ⟨x,H1,I1,r1,q1⟩=>?_)
 obtain⟨c,rfl,q1⟩:=q1;cases r1;refine yec ?_;cases c with
 |true=>exact hb pins s1 σ H1 Q I1 q1
 |false=>exact⟨.bl false,H1,I1,rfl,q1⟩
theorem pe_or(ha:PE X a ta)(hb:PE X (.BoolOp .Or (b::As) pos) tb):PE X (.BoolOp .Or (a::b::As) pos) (tOrV ta tb):=by
 intro pins s σ H Q I h;refine BoolOp_or (AO (ha pins s σ H _ I h) λv s1 ⟨x,H1,I1,r1,q1⟩=>?_)
 obtain⟨c,rfl,q1⟩:=q1;cases r1;refine yec ?_;cases c with
 |false=>exact hb pins s1 σ H1 Q I1 q1
 |true=>exact⟨.bl true,H1,I1,rfl,q1⟩
theorem zli(ha:PE X a ta):PE X (.UnaryOp .Not a pos) (QJ ta):=by
 intro pins s σ H Q I h;refine UnaryOp_ (AO (ha pins s σ H _ I h) λv s1 ⟨x,H1,I1,r1,q1⟩=>?_)
 obtain⟨c,rfl,q1⟩:=q1;cases r1;exact not_of (yec ⟨.bl (!c),H1,I1,rfl,q1⟩)
def tIf(t:TT)(ta tb:TE):TE:=λσ H Q=>t σ H λc H1=>if c=true then ta σ H1 Q else tb σ H1 Q
theorem zfw{c:Expr}(hc:PT X c tA)(ha:PE X a ta)(hb:PE X b tb):PE X (.IfExp c a b pos) (tIf tA ta tb):=by
 intro pins s σ H Q I h;refine wpAny_IfExp (AO (hc pins s σ H _ I h) λd s1 ⟨H1,I1,q1⟩=>?_)
 cases d with
 |true=>exact ha pins s1 σ H1 Q I1 q1
 |false=>exact hb pins s1 σ H1 Q I1 q1
end
def AS(K:k6)(H:Hp)(a:Addr)(xs:List V):Prop :=
 Rd H a (.lst xs) \/
  ∃(o:Obj) (its:Array Value) (n:Nat),K.lookup a=some o/\o.cls=.type "list"/\o.dict=none/\o.data=.seq its n/\its.size<=sizeLine/\AR xs its.toList
def B7(K:k6)(H:Hp)(a:Addr)(xs:List V):Prop :=
 Rd H a (.tup xs) \/
  ∃(o:Obj) (its:Array Value) (n:Nat),K.lookup a=some o/\o.cls=.type "tuple"/\o.data=.seq its n/\its.size<=sizeLine/\AR xs its.toList
noncomputable def absV:Value->Option V
 |.none=>some .non
 |.bool b=>some (.bl b)
 |.int i _=>some (.int i)
 |.str x _=>some (.str x)
 |.bytes b _=>some (.byt b)
 |.float b _=>some (.flt b)
 |.ref a=>some (.ref a)
 |.type n=>some (.ty n)
 |_=>none
theorem RelV.abs{x:V}{u:Value}(r:RelV x u):absV u=some x:=by
 cases x with
 |non=>cases r;rfl
 |bl _=>cases r;rfl
 |int _=>obtain⟨t,rfl⟩:=r;rfl
 |str _=>obtain⟨t,rfl⟩:=r;rfl
 |byt _=>obtain⟨t,rfl⟩:=r;rfl
 |flt _=>obtain⟨t,rfl⟩:=r;rfl
 |ref _=>cases r;rfl
 |ty _=>cases r;rfl
theorem RelV.inj{x y:V}{u:Value}(r:RelV x u)(q:RelV y u):x=y:=yar (r.abs.symm.trans q.abs)
theorem AR.inj:∀{xs ys:List V} {us:List Value},AR xs us->AR ys us->xs=ys
 |_,_,_,.nil,.nil=>rfl
 |_,_,_,.cons r t,.cons r' t'=>by rw[r.inj r',AR.inj t t']
section
variable {X:Cx}{pins:List (Addr×Obj)}{σ:St}{H:Hp}{s:Shared}{a:Addr}{xs ys:List V}
theorem AS.of{K:k6}(h:H a=some (.lst xs)):AS K H a xs:=.inl (.inl h)
theorem B7.of{K:k6}(h:H a=some (.tup xs)):B7 K H a xs:=.inl (.inl h)
theorem Inv.list(I:Inv X pins σ H s)(h:AS X.K H a xs):∃its:List Value,AR xs its/\PlainL s.heap a its.toArray/\xs.length<=sizeLine:=by
 rcases h with h|⟨o,its,n,hk,hc,hd,hs,hz,r⟩
 .obtain⟨z,its,n,r,e⟩:=h.ok I.hok;exact⟨its,r,⟨_,n,e,rfl,rfl,rfl⟩,z⟩
 .refine⟨its.toList,r,⟨o,n,I.kIn a o hk,hc,hd,by simpa using hs⟩,?_⟩
  have e:=r.length;simp only[ydl]at e
  omega
theorem Inv.tuple(I:Inv X pins σ H s)(h:B7 X.K H a xs):∃its:List Value,AR xs its/\IsTup s.heap a its.toArray/\xs.length<=sizeLine:=by
 rcases h with h|⟨o,its,n,hk,hc,hs,hz,r⟩
 .obtain⟨z,its,r,p⟩:=h.ok I.hok;exact⟨its,r,p,z⟩
 .refine⟨its.toList,r,⟨o,I.kIn a o hk,hc,n,by simpa using hs⟩,?_⟩
  have e:=r.length;simp only[ydl]at e
  omega
theorem Inv.list_inj(I:Inv X pins σ H s)(h:AS X.K H a xs)(h':AS X.K H a ys):xs=ys:=by
 obtain⟨its,r,⟨o,n,e,_,_,d⟩,_⟩:=I.list h;obtain⟨its',r',⟨o',n',e',_,_,d'⟩,_⟩:=I.list h';rw[e]at e';cases e';rw[d]at d';injection d' with d1 _
 have:its=its':=by simpa using congrArg Array.toList d1
 subst this;exact r.inj r'
theorem Inv.tuple_inj(I:Inv X pins σ H s)(h:B7 X.K H a xs)(h':B7 X.K H a ys):xs=ys:=by
 obtain⟨its,r,⟨o,e,_,n,d⟩,_⟩:=I.tuple h;obtain⟨its',r',⟨o',e',_,n',d'⟩,_⟩:=I.tuple h';rw[e]at e';cases e';rw[d]at d';injection d' with d1 _
 have:its=its':=by simpa using congrArg Array.toList d1
 subst this;exact r.inj r'
end
abbrev Cx.wish(X:Cx)(E:Value->Shared->Prop):Cx:={ X with xe:=E }
abbrev Cx.nox(X:Cx):Cx:=X.wish λ_ _=>False
theorem Cx.Ok.wish{X:Cx}(ok:X.Ok)(E:Value->Shared->Prop):(X.wish E).Ok :=
 ⟨ok.mod,ok.kind,ok.glob,ok.blt,ok.above,ok.inj,ok.has,ok.cab,ok.hd,ok.frames,ok.stk,ok.exf,ok.bs,ok.bsz,ok.noex,ok.exfs,ok.funs,ok.frf⟩
theorem Cx.Ok.unwish{X:Cx}{E:Value->Shared->Prop}(ok:(X.wish E).Ok):X.Ok :=
 ⟨ok.mod,ok.kind,ok.glob,ok.blt,ok.above,ok.inj,ok.has,ok.cab,ok.hd,ok.frames,ok.stk,ok.exf,ok.bs,ok.bsz,ok.noex,ok.exfs,ok.funs,ok.frf⟩
section
variable {X:Cx}{pins:List (Addr×Obj)}{σ:St}{H:Hp}{s:Shared}{E:Value->Shared->Prop}
theorem Inv.wish(I:Inv X pins σ H s)(E:Value->Shared->Prop):Inv (X.wish E) pins σ H s:=⟨I.ok.wish E,I.os,I.bare,I.base,I.loc,I.cell,I.free,I.freeC,I.pin,I.hok,I.len⟩
theorem Inv.unwish(I:Inv (X.wish E) pins σ H s):Inv X pins σ H s:=⟨I.ok.unwish,I.os,I.bare,I.base,I.loc,I.cell,I.free,I.freeC,I.pin,I.hok,I.len⟩
theorem SP.unwish{D:Ends}{f:Flow}{s':Shared}(h:SP (X.wish E) pins D f s'):SP X pins D f s':=by
 cases f with
 |next=>obtain⟨σ',H',I,q⟩:=h;exact⟨σ',H',I.unwish,q⟩
 |brk=>obtain⟨σ',H',I,q⟩:=h;exact⟨σ',H',I.unwish,q⟩
 |cont=>obtain⟨σ',H',I,q⟩:=h;exact⟨σ',H',I.unwish,q⟩
 |ret u=>obtain⟨v,σ',H',I,r,q⟩:=h;exact⟨v,σ',H',I.unwish,r,q⟩
theorem PE.nox{e:Expr}{t:TE}(h:PE X.nox e t):PE X e t:=λpins s σ H Q I hw =>
 yeb (h pins s σ H Q (I.wish _) hw) (λ_ _ ⟨v,H',I',r,q⟩=>⟨v,H',I'.unwish,r,q⟩) λ_ _ z=>False.elim z
theorem PT.nox{e:Expr}{t:TT}(h:PT X.nox e t):PT X e t:=λpins s σ H Q I hw =>
 yeb (h pins s σ H Q (I.wish _) hw) (λ_ _ ⟨H',I',q⟩=>⟨H',I'.unwish,q⟩) λ_ _ z=>False.elim z
theorem BC.nox{st:List Stmt}{t:TS}(h:BC X.nox st t):BC X st t:=λpins s σ H D I hw =>
 yeb (h pins s σ H D (I.wish _) hw) (λ_ _ q=>q.unwish) λ_ _ z=>False.elim z
end
section
variable {X:Cx}{st:Stmt}{As:List Stmt}{t u:TS}{e:Expr}{te:TE}{pos:Pos}
def QM:TS:=λD σ H=>D.nx σ H
def QH(t u:TS):TS:=λD σ H=>t { D with nx:=u D } σ H
theorem zho:BC X [] QM:=λ_ _ σ H _ I h=>wpAny_execs_nil ⟨σ,H,I,h⟩
theorem zfo(h1:PS X st t)(h2:BC X As u):BC X (st::As) (QH t u):=by
 intro pins s σ H D I h;refine wpAny_execs_cons (AO (h1 pins s σ H { D with nx:=u D } I h) λf s1 q=>?_)
 cases f with
 |next =>
  obtain⟨σ',H',I',q⟩:=q;exact h2 pins s1 σ' H' D I' q
 |ret v=>exact q
 |brk=>exact q
 |cont=>exact q
theorem zhn(h1:PS X st t):BC X [st] t:=by
 intro pins s σ H D I h;refine wpAny_execs_cons (AO (h1 pins s σ H D I h) λf s1 q=>?_)
 cases f with
 |next=>exact wpAny_execs_nil q
 |ret v=>exact q
 |brk=>exact q
 |cont=>exact q
def zkb:TS:=λD σ H=>D.bk σ H
def tCont:TS:=λD σ H=>D.ct σ H
theorem zhq:PS X (.Pass pos) QM:=λ_ _ σ H _ I h=>wpAny_Pass ⟨σ,H,I,h⟩
theorem zfq:PS X (.Break pos) zkb:=λ_ _ σ H _ I h=>wpAny_Break ⟨σ,H,I,h⟩
theorem zck:PS X (.Continue pos) tCont:=λ_ _ σ H _ I h=>wpAny_Continue ⟨σ,H,I,h⟩
theorem Inv.quiet{pins:List (Addr×Obj)}{σ:St}{H:Hp}{s:Shared}(I:Inv X pins σ H s):interactive X.env=false:=by simp[interactive,I.ok.kind]
def tDrop(te:TE):TS:=λD σ H=>te σ H λ_ H1=>D.nx σ H1
theorem JS(he:PE X e te)(hs:swapsWith e none pos.line X.env=pure false:=by rfl):PS X (.Expr e pos) (tDrop te):=by
 intro pins s σ H D I h;exact wpAny_Expr_any (AO (he pins s σ H _ I h) λv s1 ⟨x,H1,I1,r1,q1⟩=>⟨σ,H1,I1,q1⟩) I.quiet hs
def tRet(te:TE):TS:=λD σ H=>te σ H D.rt
theorem zl5(he:PE X e te):PS X (.Return (some e) pos) (tRet te):=by
 intro pins s σ H D I h;exact wpAny_Return_some (AO (he pins s σ H _ I h) λv s1 ⟨x,H1,I1,r1,q1⟩=>⟨x,σ,H1,I1,r1,q1⟩)
def tRetN:TS:=λD _ H=>D.rt .non H
theorem zhp:PS X (.Return none pos) tRetN:=λ_ _ σ H _ I h=>wpAny_Return_none ⟨.non,σ,H,I,rfl,h⟩
def tIfS(c:TT)(t u:TS):TS:=λD σ H=>c σ H λb H1=>if b=true then t D σ H1 else u D σ H1
theorem ps_if{c:Expr}{a b:List Stmt}{tc:TT}(hc:PT X c tc)(ha:BC X a t)(hb:BC X b u):PS X (.If c a b pos) (tIfS tc t u):=by
 intro pins s σ H D I h;refine wpAny_If (AO (hc pins s σ H _ I h) λd s1 ⟨H1,I1,q1⟩=>?_)
 cases d with
 |true=>exact ha pins s1 σ H1 D I1 q1
 |false=>exact hb pins s1 σ H1 D I1 q1
end
abbrev TG:=V->St->Hp->(St->Hp->Prop)->Prop
abbrev ES:=List V->St->Hp->(St->Hp->Prop)->Prop
def PG(X:Cx)(target:Expr)(t:TG):Prop :=
 ∀(pins:List (Addr×Obj)) (s:Shared) (σ:St) (H:Hp) (v:V) (u:Value) (Q:St->Hp->Prop),Inv X pins σ H s->RelV v u->t v σ H Q ->
  wpAny (model X.prog X.w) X.A (assign target X.env u) (λ_ s'=>∃σ' H',Inv X pins σ' H' s'/\Q σ' H') X.xe s
def Cr(X:Cx)(ts:List Expr)(t:ES):Prop :=
 ∀(pins:List (Addr×Obj)) (s:Shared) (σ:St) (H:Hp) (vs:List V) (us:List Value) (Q:St->Hp->Prop),Inv X pins σ H s->AR vs us->t vs σ H Q ->
  wpAny (model X.prog X.w) X.A (assignInOrder ((assignEach ts X.env).map (·.2)) us) (λ_ s'=>∃σ' H',Inv X pins σ' H' s'/\Q σ' H') X.xe s
abbrev K3:=V->V->V->Hp->(Hp->Prop)->Prop
def P5(X:Cx)(t:K3):Prop :=
 ∀(pins:List (Addr×Obj)) (s:Shared) (σ:St) (H:Hp) (o i v:V) (ov iv u:Value) (Q:Hp->Prop),Inv X pins σ H s->RelV o ov->RelV i iv->RelV v u->t o i v H Q ->
  wpAny (model X.prog X.w) X.A (setItem ov iv u) (λ_ s'=>∃H',Inv X pins σ H' s'/\Q H') X.xe s
section
variable {X:Cx}{pos:Pos}
def Hq(i:Nat):TG:=λv σ H Q=>Q (σ.set i (some v)) H
theorem zhw{i:Nat}{x:Str}(hN:X.N.Nodup)(hi:X.N[i]?=some x)(hx:FR X.env.scope x)(hf:X.fn x=true\/X.env.scope.names.lookup x=some .local:=by first|exact .inl rfl|exact .inr rfl|assumption):PG X (.Name x pos) (Hq i):=by
 intro pins s σ H v u Q I r h;exact wpAny_assign_Name (Q6 I hN hi hx r (λs' I'=>⟨_,H,I',h⟩) hf)
def gNil:ES:=λvs σ H Q=>vs=[]/\Q σ H
def gCons(t:TG)(u:ES):ES:=λvs σ H Q=>∃v r,vs=v::r/\t v σ H λσ' H'=>u r σ' H' Q
theorem zhv:Cr X [] gNil:=by
 intro pins s σ H vs us Q I r h;obtain⟨e,h⟩:=h;subst e;cases r;exact assignInOrder_nil ⟨σ,H,I,h⟩
theorem zfv{e:Expr}{es:List Expr}{t:TG}{u:ES}(h1:PG X e t)(h2:Cr X es u)
  (hs:(assignEach (e::es) X.env).map (·.2)=assign e X.env::(assignEach es X.env).map (·.2):=by rfl):Cr X (e::es) (gCons t u):=by
 intro pins s σ H vs us Q I r h;obtain⟨v,vr,e1,h⟩:=h;subst e1;cases r with
 |cons r rr =>
  rw[hs];refine assignInOrder_cons (AO (h1 pins s σ H _ _ _ I r h) λ_ s1 ⟨σ1,H1,I1,q1⟩=>?_)
  exact h2 pins s1 σ1 H1 _ _ Q I1 rr q1
def Nn(K:k6)(n:Nat)(t:ES):TG:=λv σ H Q=>∃a xs,v=.ref a/\B7 K H a xs/\xs.length=n/\t xs σ H Q
theorem zld{es:List Expr}{k:Nat}{t:ES}{n:Nat}(hc:X.calm=true)(h:Cr X es t)
  (hn:(assignEach es X.env).length=n:=by rfl) (hst:(assignEach es X.env).findIdx? (·.1)=none:=by rfl):PG X (.Tuple es k pos) (Nn X.K n t):=by
 intro pins s σ H v u Q I r hw;obtain⟨a,xs,e1,hq,hl,hw⟩:=hw;subst e1;cases r;obtain⟨its,rv,ht,hz⟩:=I.tuple hq;refine assign_Tuple_tuple (I.ok.hd hc) ht (by simp[hn,<- hl,rv.length]) hst λh' hx=>?_
 have I1:Inv X pins σ H { s with heap:=h' }:=I.kept (t':=s.toks) λb o e=>hx b o (yaq (yad e)) e
 exact h pins _ σ H xs _ Q I1 (by simpa using rv) hw
def gSub(to ti:TE)(t:K3):TG:=λv σ H Q=>to σ H λo H1=>ti σ H1 λi H2=>t o i v H2 λH3=>Q σ H3
theorem RO{o i:Expr}{to ti:TE}{t:K3}(ho:PE X o to)(hi:PE X i ti)(hs:P5 X t)
  (ha : ∀ v, assign (.Subscript o i pos) X.env v = (do
   let ov <- holding [v] (eval o X.env);let iv <- holding [v,ov] (eval i X.env)
   standAt pos
   holding [v,ov,iv] (setItem ov iv v)
   release [v,ov,iv] []):=by intro _;rfl):PG X (.Subscript o i pos) (gSub to ti t):=by
 intro pins s σ H v u Q I r h;rw[ha];refine yed (yee (AO (ho pins s σ H _ I h) λov s1 ⟨x,H1,I1,r1,q1⟩=>?_))
 refine yed (yee (AO (hi pins s1 σ H1 _ I1 q1) λiv s2 ⟨y,H2,I2,r2,q2⟩=>?_))
 refine yed (yef (yed (yee (AO (hs pins s2 σ H2 x y v ov iv u _ I2 r1 r2 r q2) λ_ s3 ⟨H3,I3,q3⟩=>?_))))
 exact wpAny_release ⟨σ,H3,I3,q3⟩
def Ip(te:TE)(g:TG):TS:=λD σ H=>te σ H λx H1=>g x σ H1 D.nx
theorem MW{tg e:Expr}{te:TE}{g:TG}(he:PE X e te)(hg:PG X tg g)(hs:swapsWithSole [tg] e pos.line X.env=pure false:=by rfl)(hw:swappedStores [tg] e X.env=pure none:=by rfl)
  (h1:(assignEach [tg] X.env).map (·.2)=[assign tg X.env]:=by rfl):PS X (.Assign [tg] e pos) (Ip te g):=by
 intro pins s σ H D I h;refine wpAny_Assign_stores (AO (he pins s σ H _ I h) λv s1 ⟨x,H1,I1,r1,q1⟩=>?_) hs hw
 rw[h1];exact AO (hg pins s1 σ H1 x v _ I1 r1 q1) λ_ s2 q=>q
theorem RH{i:Nat}{x:Str}{e:Expr}{te:TE}{pos':Pos}(hN:X.N.Nodup)(hi:X.N[i]?=some x)(hx:FR X.env.scope x)(he:PE X e te)(hs:swapsWith e (some (.Name x pos')) pos.line X.env=pure false:=by rfl)(hf:X.fn x=true\/X.env.scope.names.lookup x=some .local:=by first|exact .inl rfl|exact .inr rfl|assumption) :
  PS X (.Assign [.Name x pos'] e pos) (Ip te (Hq i)):=by
 intro pins s σ H D I h;refine wpAny_Assign_Name (AO (he pins s σ H _ I h) λv s1 ⟨y,H1,I1,r1,q1⟩=>?_) hs
 exact Q6 I1 hN hi hx r1 (λs2 I2=>⟨_,H1,I2,q1⟩) hf
end
section
variable {X:Cx}{pos:Pos}
end
structure It where
 go:Nat->Hp->Prop
 yld:Nat->Hp->V->Hp->Prop
 stop:Nat->Hp->Prop
def Bx(X:Cx)(pins:List (Addr×Obj))(H:Hp)(b:Addr):Prop :=
 H b=none/\b≠X.env.locals/\b∉X.fs/\(b∈X.ex\/X.s₀.heap.objs.size<=b)/\(∀x c,X.env.cells.lookup x=some c->c≠b)/\∀p∈X.pn++pins,p.1≠b
theorem Inv.fpOk{X:Cx}{pins:List (Addr×Obj)}{σ:St}{H H':Hp}{s:Shared}{b:Addr}(I:Inv X pins σ H s)(hb:s.heap.objs.size<=b)(hn:H' b=none):Bx X pins H' b:=by
 refine⟨hn,Nat.ne_of_gt (yaj I.lt hb),I.nofs hb,.inr (yaf I.sz hb),λx c e z=>?_,λp hp z=>?_⟩
 .obtain⟨v,q⟩:=I.cell x c e;exact absurd (yaj q.lt (by rw[z];exact hb)) (yb5 _)
 .exact absurd (yaj (yad (I.pin p hp).1) (by rw[z];exact hb)) (yb5 _)
structure Turn(P:Program)(w:World)(K:k6)(tg:Expr)(J:It)(fp:List Addr)(it:Addr)(tn:Nat->Heap->Prop):Prop where
 mem:it∈fp
 obj:∀i h,tn i h->∀b∈fp,∃o,h.get? b=some o/\∀v,o.data≠.cell v
 keep:∀i h h',tn i h->(∀b∈fp,∀o,h.get? b=some o->h'.get? b=some o)->tn i h'
 item:∀(X:Cx),X.prog=P->X.w=w->X.K=K->X.calm=true->∀(i:Nat) (pins:List (Addr×Obj)) (s:Shared) (σ:St) (H:Hp) (E:Value->Shared->Prop),Inv X pins σ H s->(∀b∈fp,Bx X pins H b)->tn i s.heap->J.go i H ->
  wpAny (model P w) X.A (pyNext (.ref it)) (λr s1=>∃u,r=some u /\
   wpAny (model P w) X.A (letOwnedTupleGo tg (.ref it) u) (λ_ s2=>∃x H',Inv X pins σ H' s2/\RelV x u/\J.yld i H x H'/\tn (i+1) s2.heap/\∀b∈fp,H' b=none) E s1) E s
 done:∀(X:Cx),X.prog=P->X.w=w->X.K=K->X.calm=true->∀(i:Nat) (pins:List (Addr×Obj)) (s:Shared) (σ:St) (H:Hp) (E:Value->Shared->Prop),Inv X pins σ H s->(∀b∈fp,Bx X pins H b)->tn i s.heap->J.stop i H ->
  wpAny (model P w) X.A (pyNext (.ref it)) (λr s1=>r=none/\Inv X pins σ H s1) E s
 self:∀(A:Around) (i:Nat) (s:Shared) (Q:Value->Shared->Prop) (E:Value->Shared->Prop),tn i s.heap->Q (.ref it) s->wpAny (model P w) A (pyIter (.ref it)) Q E s
abbrev TI:=St->Hp->(It->Hp->Prop)->Prop
def VT(X:Cx)(pins:List (Addr×Obj))(σ:St)(tg:Expr)(R:It->Hp->Prop)(itv:Value)(s2:Shared):Prop :=
 ∃(it:Addr) (fp:List Addr) (tn:Nat->Heap->Prop) (J:It) (H':Hp),itv=.ref it/\Inv X pins σ H' s2/\Turn X.prog X.w X.K tg J fp it tn/\tn 0 s2.heap/\(∀b∈fp,Bx X pins H' b)/\R J H'
def PI(X:Cx)(tg iter:Expr)(wi:TI):Prop :=
 ∀(pins:List (Addr×Obj)) (s:Shared) (σ:St) (H:Hp) (R:It->Hp->Prop),Inv X pins σ H s->wi σ H R ->
  wpAny (model X.prog X.w) X.A (eval iter X.env) (λv s1=>wpAny (model X.prog X.w) X.A (pyIter v) (VT X pins σ tg R) X.xe s1) X.xe s
theorem Jq{M:Model}{A:Around}{E:Value->Shared->Prop}{s:Shared}{tg:Expr}{it:Addr}{u:Value}{o:Obj}{n:String}{vs:Array Value}{Q:Unit->Shared->Prop}(ho:s.heap.get? it=some o)(hc:o.cls=.type n)(hd:o.data=.fields vs)
    (hn:["enumerate","zip","dict_itemiterator","dict_reverseitemiterator","odict_iterator","itertools.zip_longest","itertools.pairwise"].contains n=false) (hQ:Q () s):wpAny M A (letOwnedTupleGo tg (.ref it) u) Q E s:=by
  unfold letOwnedTupleGo
  cases tg<;>first
    |exact yeg hQ
    |(cases u<;>first
        |exact yeg hQ
        | (refine yed (wpAny_load ho ?_)
           rw[hc,hd];show wpAny M A (if (["enumerate","zip","dict_itemiterator","dict_reverseitemiterator","odict_iterator","itertools.zip_longest","itertools.pairwise"].contains n && vs[0]? == some (rawInt _))=true then _ else _) Q E s
           rw[if_neg (by intro h;rw[hn,ydp]at h;cases h)]
           exact yeg hQ))
def Pb(K:k6)(a:Addr):It :=
 ⟨λi H=>∃xs x,AS K H a xs/\xs[i]?=some x,λi H x H'=>H'=H/\∀xs,AS K H a xs->xs[i]?=some x,λi H=>∃xs,AS K H a xs/\xs.length<=i⟩
def Pa(K:k6)(a:Addr):It :=
 ⟨λi H=>∃xs x,B7 K H a xs/\xs[i]?=some x,λi H x H'=>H'=H/\∀xs,B7 K H a xs->xs[i]?=some x,λi H=>∃xs,B7 K H a xs/\xs.length<=i⟩
def Kn(lo:Int)(n:Nat):It:=⟨λi _=>i<n,λi H x H'=>H'=H/\x=.int (lo+i),λi _=>n<=i⟩
theorem zdm{P:Program}{w:World}{K:k6}{tg:Expr}(a it:Addr):Turn P w K tg (Pb K a) [it] it (λi h=>h.IsListIter it a i) where
 mem:=by simp
 obj:=λi h st b hb=>by
  have e:b=it:=by simpa using hb
  subst e;obtain⟨o,e,c,d⟩:=st;exact⟨o,e,λv z=>by rw[d]at z;cases z⟩
 keep:=λi h h' st k=>st.at λo e=>k it (by simp) o e
 item:=by
  intro X hP hw hK hc i pins s σ H E I hf st hg;subst hP hw hK;obtain⟨xs,x,hq,hx⟩:=hg;obtain⟨its,rv,p,hz⟩:=I.list hq;obtain⟨u,hu,ru⟩:=rv.get hx;obtain⟨f0,f1,f2,f3,f4,f5⟩:=hf it (by simp)
  refine wpAny_pyNext_list_item st p.isList (x:=u) (by simpa using hu) λh' st' sb=>?_
  have I1:Inv X pins σ H { s with heap:=h' }:=I.turned (t':=s.toks) (λb o hb e=>(sb.2 b hb).trans e) f0 f1 f3 f4 f5
  obtain⟨o,e,c,d⟩:=id st';exact⟨u,rfl,Jq (s:={ s with heap:=h' }) e c d (by decide) ⟨x,H,I1,ru,⟨rfl,λys hy=>by rw[I.list_inj hy hq];exact hx⟩,st',λb hb=>(hf b hb).1⟩⟩
 done:=by
  intro X hP hw hK hc i pins s σ H E I hf st hg;subst hP hw hK;obtain⟨xs,hq,hx⟩:=hg;obtain⟨its,rv,p,hz⟩:=I.list hq;obtain⟨f0,f1,f2,f3,f4,f5⟩:=hf it (by simp)
  have hl:=rv.length;exact wpAny_pyNext_list_end (I.ok.hd hc) st p.isList (by simp;omega) λh' eb=>⟨rfl,I.turned (t':=s.toks) (λb o hb e=>eb b o hb e) f0 f1 f3 f4 f5⟩
 self:=λ_ _ _ _ _ st h=>wpAny_pyIter_listiter st h
theorem zcz{P:Program}{w:World}{K:k6}{tg:Expr}(a it:Addr):Turn P w K tg (Pa K a) [it] it (λi h=>h.IsTupleIter it a i) where
 mem:=by simp
 obj:=λi h st b hb=>by
  have e:b=it:=by simpa using hb
  subst e;obtain⟨o,e,c,d⟩:=st;exact⟨o,e,λv z=>by rw[d]at z;cases z⟩
 keep:=λi h h' st k=>st.at λo e=>k it (by simp) o e
 item:=by
  intro X hP hw hK hc i pins s σ H E I hf st hg;subst hP hw hK;obtain⟨xs,x,hq,hx⟩:=hg;obtain⟨its,rv,p,hz⟩:=I.tuple hq;obtain⟨u,hu,ru⟩:=rv.get hx;obtain⟨f0,f1,f2,f3,f4,f5⟩:=hf it (by simp)
  refine wpAny_pyNext_tuple_item st (show s.heap.IsTuple a its.toArray from p) (x:=u) (by simpa using hu) λh' st' sb=>?_
  have I1:Inv X pins σ H { s with heap:=h' }:=I.turned (t':=s.toks) (λb o hb e=>(sb.2 b hb).trans e) f0 f1 f3 f4 f5
  obtain⟨o,e,c,d⟩:=id st';exact⟨u,rfl,Jq (s:={ s with heap:=h' }) e c d (by decide) ⟨x,H,I1,ru,⟨rfl,λys hy=>by rw[I.tuple_inj hy hq];exact hx⟩,st',λb hb=>(hf b hb).1⟩⟩
 done:=by
  intro X hP hw hK hc i pins s σ H E I hf st hg;subst hP hw hK;obtain⟨xs,hq,hx⟩:=hg;obtain⟨its,rv,p,hz⟩:=I.tuple hq;obtain⟨f0,f1,f2,f3,f4,f5⟩:=hf it (by simp)
  have hl:=rv.length;exact wpAny_pyNext_tuple_end (I.ok.hd hc) st (show s.heap.IsTuple a its.toArray from p) (by simp;omega) λh' eb=>⟨rfl,I.turned (t':=s.toks) (λb o hb e=>eb b o hb e) f0 f1 f3 f4 f5⟩
 self:=λ_ _ _ _ _ st h=>wpAny_pyIter_tupleiter st h
theorem zd0{P:Program}{w:World}{K:k6}{tg:Expr}(it:Addr)(lo:Int)(n:Nat):Turn P w K tg (Kn lo n) [it] it (λi h=>IsRangeIter h it (lo+(i:Nat) * 1) ((n:Int) - (i:Nat)) 1) where
 mem:=by simp
 obj:=λi h st b hb=>by
  have e:b=it:=by simpa using hb
  subst e
  exact⟨_,st,λv z=>by
   have z':Data.fields _=Data.cell v:=z;cases z'⟩
 keep:=λi h h' st k=>k it (by simp) _ st
 item:=by
  intro X hP hw hK hc i pins s σ H E I hf st hg;subst hP hw hK;obtain⟨f0,f1,f2,f3,f4,f5⟩:=hf it (by simp)
  have W:=Walks.range (prog:=X.prog) (w:=X.w) (I.ok.hd hc) it lo 1 n;refine W.item i s _ _ hg st λv h' tk hv st' kk=>?_
  obtain⟨t,rfl⟩:=hv;have I1:Inv X pins σ H { s with heap:=h',toks:=tk }:=I.turned (λb o hb e=>kk b o (by simpa using hb) e) f0 f1 f3 f4 f5
  refine⟨_,rfl,Jq (s:={ s with heap:=h',toks:=tk }) (n:="range_iterator") st' rfl rfl (by decide) ⟨.int (lo+i),H,I1,⟨t,?_⟩,⟨rfl,rfl⟩,st',λb hb=>(hf b hb).1⟩⟩
  rw[Int.mul_one]
 done:=by
  intro X hP hw hK hc i pins s σ H E I hf st hg;subst hP hw hK;obtain⟨f0,f1,f2,f3,f4,f5⟩:=hf it (by simp)
  exact wpAny_pyNext_range_end (I.ok.hd hc) st (by have:n<=i:=hg;omega) λh' eb=>⟨rfl,I.turned (t':=s.toks) (λb o hb e=>eb b o hb e) f0 f1 f3 f4 f5⟩
 self:=λ_ _ _ _ _ st h=>wpAny_pyIter_rangeiter st h
section
variable {X:Cx}{tg:Expr}
def iList(K:k6)(tl:TE):TI:=λσ H R=>tl σ H λx H1=>∃a,x=.ref a/\(∃xs,AS K H1 a xs)/\R (Pb K a) H1
def iTup(K:k6)(tl:TE):TI:=λσ H R=>tl σ H λx H1=>∃a,x=.ref a/\(∃xs,B7 K H1 a xs)/\R (Pa K a) H1
theorem zht{l:Expr}{tl:TE}(hl:PE X l tl):PI X tg l (iList X.K tl):=by
 intro pins s σ H R I h;refine AO (hl pins s σ H _ I h) λv s1 ⟨x,H1,I1,r1,q1⟩=>?_
 obtain⟨a,e,⟨xs,hq⟩,q⟩:=q1;subst e;cases r1;obtain⟨its,rv,p,hz⟩:=I1.list hq;refine yeh p.isList ?_;refine⟨s1.heap.objs.size,[s1.heap.objs.size],_,_,H1,rfl,I1.kept (t':=s1.toks) λb o e=>yab _ e,zdm a _,⟨_,yau _ rfl,rfl,rfl⟩,λb hb=>?_,q⟩
 have e:b=s1.heap.objs.size:=by simpa using hb
 subst e;exact I1.fpOk (ya8 _) (I1.hok.fresh (ya8 _))
theorem zlb{l:Expr}{tl:TE}(hl:PE X l tl):PI X tg l (iTup X.K tl):=by
 intro pins s σ H R I h;refine AO (hl pins s σ H _ I h) λv s1 ⟨x,H1,I1,r1,q1⟩=>?_
 obtain⟨a,e,⟨xs,hq⟩,q⟩:=q1;subst e;cases r1;obtain⟨its,rv,p,hz⟩:=I1.tuple hq;refine wpAny_pyIter_tuple (show s1.heap.IsTuple a its.toArray from p) ?_;refine⟨s1.heap.objs.size,[s1.heap.objs.size],_,_,H1,rfl,I1.kept (t':=s1.toks) λb o e=>yab _ e,zcz a _,⟨_,yau _ rfl,rfl,rfl⟩,λb hb=>?_,q⟩
 have e:b=s1.heap.objs.size:=by simpa using hb
 subst e;exact I1.fpOk (ya8 _) (I1.hok.fresh (ya8 _))
theorem zfj{pins:List (Addr×Obj)}{σ:St}{H:Hp}{s:Shared}{R:It->Hp->Prop}{E:Value->Shared->Prop}{lo hi:Int}{t u v:Tok}{tk:Nat}(I:Inv X pins σ H s)(h1:-(2 ^ 62)<=lo)(h2:lo<2 ^ 62)(h3:-(2 ^ 62)<=hi)(h4:hi<2 ^ 62)
  (q:R (Kn lo (hi - lo).toNat) H):wpAny (model X.prog X.w) X.A (pyIter (.ref s.heap.objs.size)) (VT X pins σ tg R) E { s with heap:=s.heap.push { cls:=.type "range",data:=.fields #[.int lo t,.int hi u,.int 1 v] },toks:=tk }:=by
 refine wpAny_pyIter_range (IsRange.new ..) (small_one h1 h2 h3 h4) ?_;have I1:Inv X pins σ H { s with heap:=s.heap.push { cls:=.type "range",data:=.fields #[.int lo t,.int hi u,.int 1 v] },toks:=tk }:=I.kept λb o e=>yab _ e
 refine⟨(s.heap.push { cls:=.type "range",data:=.fields #[.int lo t,.int hi u,.int 1 v] }).objs.size,[(s.heap.push { cls:=.type "range",data:=.fields #[.int lo t,.int hi u,.int 1 v] }).objs.size],_,_,H,rfl,
  I1.kept (t':=tk) λb o e=>yab _ e,zd0 _ lo (hi - lo).toNat,?_,λb hb=>?_,q⟩
 .have e1:lo+((0:Nat):Int) * 1=lo:=by simp
  have e2:(((hi - lo).toNat:Nat):Int) - ((0:Nat):Int)=Builtin.Range.rangeSize lo hi 1:=by rw[rangeSize_one];split<;>omega
  show IsRangeIter _ _ (lo+((0:Nat):Int) * 1) ((((hi - lo).toNat:Nat):Int) - ((0:Nat):Int)) 1;rw[e1,e2];exact yau _ rfl
 .have e:b=(s.heap.push { cls:=.type "range",data:=.fields #[.int lo t,.int hi u,.int 1 v] }).objs.size:=by simpa using hb
  subst e;exact I1.fpOk (ya8 _) (I1.hok.fresh (ya8 _))
def iRng1(ta:TA):TI:=λσ H R=>ta σ H λvs H1=>∃j:Int,vs=[.int j]/\-(2 ^ 62)<=j/\j<2 ^ 62/\R (Kn 0 j.toNat) H1
theorem zdz{a:Expr}{ta:TA}{p pos:Pos}(hg:Gl X "range")(hm:X.mg "range"=none)(ha:PA X [a] ta)(hs:starEach [a] X.env=[(false,eval a X.env)]:=by rfl):PI X tg (.Call (.Name "range" p) [a] [] pos) (iRng1 ta):=by
 intro pins s σ H R I h;refine Call_ (Fv I hg hm boot_range (ybv (AO (ha pos pins s σ H _ I h) λus s1 ⟨vs,H1,I1,r1,q1⟩=>?_) hs rfl))
 obtain⟨j,e,q1,q2,q⟩:=q1;subst e;cases r1 with
 |cons r rr =>
  cases rr;obtain⟨t,rfl⟩:=r;exact call_range_1 (zfj I1 (by omega) (by omega) q1 q2 (by simpa using q))
def tFor(wi:TI)(g:TG)(tb:TS):TS:=λD σ H=>wi σ H λJ H1=>∃W:Nat->Nat->St->Hp->Prop,(∃m,W 0 m σ H1)/\∀i m σ H,W i m σ H ->
 (J.stop i H/\D.nx σ H)\/(J.go i H/\∃N:St->Hp->Prop,(∀σ' H',N σ' H'->∃m',m'<m/\W (i+1) m' σ' H')/\∀x H',J.yld i H x H'->g x σ H' λσ2 H2=>tb { D with nx:=N,ct:=N,bk:=D.nx } σ2 H2)
def Fh(fp:List Addr)(h:Heap):List (Addr×Obj):=fp.filterMap λb=>(h.get? b).map λo=>(b,o)
theorem Fo{fp:List Addr}{h:Heap}{b:Addr}{o:Obj}(hb:b∈fp)(e:h.get? b=some o):(b,o)∈Fh fp h:=yc5.mpr ⟨b,hb,by rw[e];rfl⟩
theorem R6{fp:List Addr}{h:Heap}{p:Addr×Obj}(hp:p∈Fh fp h):p.1∈fp/\h.get? p.1=some p.2:=by
 obtain⟨b,hb,e⟩:=yc5.mp hp;cases q:h.get? b with
 |none=>rw[q]at e;cases e
 |some o =>
  rw[q]at e;have e':(b,o)=p:=yar e;subst e';exact⟨hb,q⟩
theorem Inv.pinned{pins:List (Addr×Obj)}{σ:St}{H:Hp}{s:Shared}{fp:List Addr}(I:Inv X pins σ H s)(hf:∀b∈fp,Bx X pins H b)(ho:∀b∈fp,∃o,s.heap.get? b=some o/\∀v,o.data≠.cell v):Inv X (pins++Fh fp s.heap) σ H s :=
 I.pins_of λp hp=>(ybb.mp hp).elim (λz=>I.pin p (yal _ z)) λz=>by
  obtain⟨hb,e⟩:=R6 z;obtain⟨f0,f1,f2,_⟩:=hf p.1 hb;obtain⟨o,e',d⟩:=ho p.1 hb;rw[e]at e';cases e';exact⟨e,f0,f1,f2,d⟩
theorem Inv.unpinned{pins pl:List (Addr×Obj)}{σ:St}{H:Hp}{s:Shared}(I:Inv X (pins++pl) σ H s):Inv X pins σ H s:=I.pins_of λp hp=>I.pin p (yal _ (ycb _ hp))
theorem zl6{iter:Expr}{body:List Stmt}{wi:TI}{g:TG}{tb:TS}{pos:Pos}(hp:PassesOwn (model X.prog X.w) X.A X.env X.xe)(hc:X.calm=true)(hi:PI X tg iter wi)(hg:PG X tg g)(hb:BC X body tb)
  (hs:∀x,foldedSetIterable iter X.env x=pure x:=by intro _;rfl):PS X (.For tg iter body [] pos) (tFor wi g tb):=by
 intro pins s σ H D I h;refine wpAny_For (AO (hi pins s σ H _ I h) λv s1 h1=>AO h1 λitv s2 h2=>?_) hs
 obtain⟨it,fp,tn,J,H2,e,I2,T,st2,f2,W,⟨m0,w0⟩,turn⟩:=h2;subst e;have stat:∀{H':Hp},(∀b∈fp,H' b=none)->∀b∈fp,Bx X pins H' b:=λhn b hb=>⟨hn b hb,(f2 b hb).2⟩
 refine codeAny_forLoop_any (λn s'=>∃i σ' H',Inv X pins σ' H' s'/\tn i s'.heap/\(∀b∈fp,H' b=none)/\W i n σ' H') ?_ m0 ⟨0,σ,H2,I2,st2,λb hb=>(f2 b hb).1,w0⟩
 rintro n s3 ⟨i,σ3,H3,I3,st3,fr3,w3⟩
 rcases turn i n σ3 H3 w3 with ⟨stop,qn⟩|⟨go,N,hN,step⟩
 .refine yei hp (AO (T.done X rfl rfl rfl hc i pins s3 σ3 H3 X.xe I3 (stat fr3) st3 stop) λr s4 ⟨hr,I4⟩=>?_)
  subst hr;exact wpAny_execs_nil ⟨σ3,H3,I4,qn⟩
 .refine yei hp (AO (T.item X rfl rfl rfl hc i pins s3 σ3 H3 X.xe I3 (stat fr3) st3 go) λr s4 ⟨u,hr,h4⟩=>?_)
  subst hr;refine yei hp (AO h4 λ_ s5 ⟨x,H5,I5,r5,y5,st5,fr5⟩=>?_)
  have I5':=I5.pinned (stat fr5) (T.obj _ _ st5);refine yei hp (AO (hg _ s5 σ3 H5 x u _ I5' r5 (step x H5 y5)) λ_ s6 ⟨σ6,H6,I6,q6⟩=>?_)
  refine yei hp (AO (hb _ s6 σ6 H6 _ I6 q6) λf s7 q7=>?_)
  have again:∀{σ7:St} {H7:Hp},Inv X (pins++Fh fp s5.heap) σ7 H7 s7->N σ7 H7->∃m,m<n/\∃i σ' H',Inv X pins σ' H' s7/\tn i s7.heap/\(∀b∈fp,H' b=none)/\W i m σ' H':=λ{σ7 H7} I7 n7=>by
   obtain⟨m',hm,w7⟩:=hN σ7 H7 n7;refine⟨m',hm,i+1,σ7,H7,I7.unpinned,T.keep _ _ _ st5 λb hb o e=>(I7.pin (b,o) (yal _ (yal _ (Fo hb e)))).1,λb hb=>?_,w7⟩
   obtain⟨o,e,d⟩:=T.obj _ _ st5 b hb;exact(I7.pin (b,o) (yal _ (yal _ (Fo hb e)))).2.1
  cases f with
  |next=>obtain⟨σ7,H7,I7,n7⟩:=q7;exact again I7 n7
  |cont=>obtain⟨σ7,H7,I7,n7⟩:=q7;exact again I7 n7
  |brk=>obtain⟨σ7,H7,I7,q7⟩:=q7;exact⟨σ7,H7,I7.unpinned,q7⟩
  |ret v=>obtain⟨x7,σ7,H7,I7,r7,q7⟩:=q7;exact⟨x7,σ7,H7,I7.unpinned,r7,q7⟩
end
abbrev R2:=V->V->Hp->VK->Prop
def A2(X:Cx)(f:Value->Value->Sem Value)(r:R2):Prop :=
 ∀(pins:List (Addr×Obj)) (s:Shared) (σ:St) (H:Hp) (x y:V) (v u:Value) (Q:VK),Inv X pins σ H s->RelV x v->RelV y u->r x y H Q ->
  wpAny (model X.prog X.w) X.A (f v u) (EP X pins σ Q) X.xe s
def Hz(X:Cx)(f:Value->Sem Value)(r:V->Hp->VK->Prop):Prop :=
 ∀(pins:List (Addr×Obj)) (s:Shared) (σ:St) (H:Hp) (x:V) (v:Value) (Q:VK),Inv X pins σ H s->RelV x v->r x H Q ->
  wpAny (model X.prog X.w) X.A (f v) (EP X pins σ Q) X.xe s
def BZ(X:Cx)(f:Value)(r:List V->Hp->VK->Prop):Prop :=
 ∀(pins:List (Addr×Obj)) (s:Shared) (σ:St) (H:Hp) (xs:List V) (us:List Value) (Q:VK),Inv X pins σ H s->AR xs us->r xs H Q ->
  wpAny (model X.prog X.w) X.A (call f us) (EP X pins σ Q) X.xe s
def GU(r:R2)(ta tb:TE):TE:=λσ H Q=>ta σ H λx H1=>tb σ H1 λy H2=>r x y H2 Q
def QF(r:V->Hp->VK->Prop)(ta:TE):TE:=λσ H Q=>ta σ H λx H1=>r x H1 Q
def rI(C:Int->Int->Prop)(g:Int->Int->V):R2:=λx y H Q=>∃i j,x=.int i/\y=.int j/\C i j/\Q (g i j) H
def EF(g:Int->Int->V):R2:=λx y H Q=>∃i j,x=.int i/\y=.int j/\Q (g i j) H
def rU(g:Int->V):V->Hp->VK->Prop:=λx H Q=>∃i,x=.int i/\Q (g i) H
section
variable {X:Cx}{a b c:Expr}{ta tb tc:TE}{pos:Pos}
theorem PV(ha:PE X a ta)(hb:PE X b tb){pins:List (Addr×Obj)}{s:Shared}{σ:St}{H:Hp}{R:V->V->Hp->Prop}(I:Inv X pins σ H s)
  (h:ta σ H λx H1=>tb σ H1 λy H2=>R x y H2) {Q:Value->Shared->Prop} {f:Value->Value->Sem Value}
  (hf:∀v u s2 x y H2,Inv X pins σ H2 s2->RelV x v->RelV y u->R x y H2->wpAny (model X.prog X.w) X.A (f v u) Q X.xe s2) :
  wpAny (model X.prog X.w) X.A (eval a X.env) (λv s₁=>wpAny (model X.prog X.w) X.A (eval b X.env) (λu s₂=>wpAny (model X.prog X.w) X.A (f v u) Q X.xe s₂) X.xe s₁) X.xe s:=by
 refine AO (ha pins s σ H _ I h) λv s1 ⟨x,H1,I1,r1,q1⟩=>?_
 refine AO (hb pins s1 σ H1 _ I1 q1) λu s2 ⟨y,H2,I2,r2,q2⟩=>?_
 exact hf v u s2 x y H2 I2 r1 r2 q2
theorem pe_op{op:Operator}{r:R2}(ho:A2 X (binaryOp op) r)(ha:PE X a ta)(hb:PE X b tb):PE X (.BinOp a op b pos) (GU r ta tb):=by
 intro pins s σ H Q I h;exact wpAny_BinOp (PV ha hb I h λv u s2 x y H2 I2 rx ry q=>ho pins s2 σ H2 x y v u Q I2 rx ry q)
theorem pe_un{op:UnaryOp}{r:V->Hp->VK->Prop}(ho:Hz X (unaryOp op) r)(ha:PE X a ta):PE X (.UnaryOp op a pos) (QF r ta):=by
 intro pins s σ H Q I h;exact UnaryOp_ (AO (ha pins s σ H _ I h) λv s1 ⟨x,H1,I1,r1,q1⟩=>ho pins s1 σ H1 x v Q I1 r1 q1)
theorem Hb{f:Value->Value->Sem Value}{C:Int->Int->Prop}{g:Int->Int->Int}
  (rule:∀(i j:Int) (t u:Tok) (s:Shared) (Q:Value->Shared->Prop) (E:Value->Shared->Prop),C i j->Q (.int (g i j) s.toks) { s with toks:=s.toks+1 }->wpAny (model X.prog X.w) X.A (f (.int i t) (.int j u)) Q E s) :
  A2 X f (rI C λi j=>.int (g i j)):=by
 intro pins s σ H x y v u Q I rx ry h;obtain⟨i,j,rfl,rfl,hc,q⟩:=h;obtain⟨t,rfl⟩:=rx;obtain⟨t',rfl⟩:=ry;exact rule i j t t' s _ _ hc ⟨.int (g i j),H,I.tok _,⟨_,rfl⟩,q⟩
theorem RX{f:Value->Value->Sem Value}{g:Int->Int->Int}
  (rule:∀(i j:Int) (t u:Tok) (s:Shared) (Q:Value->Shared->Prop) (E:Value->Shared->Prop),Q (.int (g i j) s.toks) { s with toks:=s.toks+1 }->wpAny (model X.prog X.w) X.A (f (.int i t) (.int j u)) Q E s) :
  A2 X f (EF λi j=>.int (g i j)):=by
 intro pins s σ H x y v u Q I rx ry h;obtain⟨i,j,rfl,rfl,q⟩:=h;obtain⟨t,rfl⟩:=rx;obtain⟨t',rfl⟩:=ry;exact rule i j t t' s _ _ ⟨.int (g i j),H,I.tok _,⟨_,rfl⟩,q⟩
theorem JZ{f:Value->Value->Sem Value}{g:Int->Int->Bool}
  (rule:∀(i j:Int) (t u:Tok) (s:Shared) (Q:Value->Shared->Prop) (E:Value->Shared->Prop),Q (.bool (g i j)) s->wpAny (model X.prog X.w) X.A (f (.int i t) (.int j u)) Q E s) :
  A2 X f (EF λi j=>.bl (g i j)):=by
 intro pins s σ H x y v u Q I rx ry h;obtain⟨i,j,rfl,rfl,q⟩:=h;obtain⟨t,rfl⟩:=rx;obtain⟨t',rfl⟩:=ry;exact rule i j t t' s _ _ ⟨.bl (g i j),H,I,rfl,q⟩
def CPow(i j:Int):Prop:=0<=j/\j<=1000000/\i.natAbs<2 ^ 64
def Pe(i j:Int):Prop:=(-(2 ^ 64)<i/\i<2 ^ 64)\/(-(2 ^ 64)<j/\j<2 ^ 64)
theorem Pe.ok{i j:Int}(h:Pe i j):IntMulOk i j:=by
 rcases h with ⟨h1,h2⟩|⟨h1,h2⟩
 .exact .of_left (intBits_le_64 h1 h2)
 .exact .of_right (intBits_le_64 h1 h2)
theorem zlw:A2 X (binaryOp .Add) (EF λi j=>.int (i+j)):=RX λ_ _ _ _ _ _ _ q=>add_int q
theorem zlq:A2 X (binaryOp .Sub) (EF λi j=>.int (i - j)):=RX λ_ _ _ _ _ _ _ q=>sub_int q
theorem RV:A2 X (binaryOp .Mult) (rI Pe λi j=>.int (i * j)):=Hb λ_ _ _ _ _ _ _ hc q=>mul_int q hc.ok
theorem zi6:A2 X (binaryOp .Mod) (rI (λ_ j=>j≠0) λi j=>.int (i.fmod j)):=Hb λ_ _ _ _ _ _ _ hc q=>mod_int' hc q
theorem zls:A2 X (binaryOp .Pow) (rI CPow λi j=>.int (i ^ j.toNat)):=Hb λ_ _ _ _ _ _ _ hc q=>pow_int_small hc.1 hc.2.1 hc.2.2 q
theorem unI{f:Value->Sem Value}{g:Int->Int}
  (rule:∀(i:Int) (t:Tok) (s:Shared) (Q:Value->Shared->Prop) (E:Value->Shared->Prop),Q (.int (g i) s.toks) { s with toks:=s.toks+1 }->wpAny (model X.prog X.w) X.A (f (.int i t)) Q E s) :
  Hz X f (rU λi=>.int (g i)):=by
 intro pins s σ H x v Q I rx h;obtain⟨i,rfl,q⟩:=h;obtain⟨t,rfl⟩:=rx;exact rule i t s _ _ ⟨.int (g i),H,I.tok _,⟨_,rfl⟩,q⟩
theorem zjy:Hz X (unaryOp .USub) (rU λi=>.int (-i)):=unI λ_ _ _ _ _ q=>neg_int q
end
section
variable {X:Cx}{a b c:Expr}{ta tb tc:TE}{pos:Pos}
theorem Hs{pins:List (Addr×Obj)}{σ:St}{H:Hp}{s:Shared}{Q:VK}{k k':Bool}(I:Inv X pins σ H s)(q:Q (.bl k) H)(e:k=k'):EP X pins σ Q (.bool k') s:=by
 subst e;exact⟨.bl k,H,I,rfl,q⟩
theorem op_lt:A2 X (compareOp .Lt) (EF λi j=>.bl (decide (i<j))):=JZ λ_ _ _ _ _ _ _ q=>lt_int q
theorem RW:A2 X (compareOp .LtE) (EF λi j=>.bl (decide (i<=j))):=JZ λ_ _ _ _ _ _ _ q=>le_int q
theorem op_gt:A2 X (compareOp .Gt) (EF λi j=>.bl (decide (j<i))):=JZ λ_ _ _ _ _ _ _ q=>gt_int q
theorem op_ge:A2 X (compareOp .GtE) (EF λi j=>.bl (decide (j<=i))):=JZ λ_ _ _ _ _ _ _ q=>ge_int q
theorem ze0:A2 X (compareOp .In) (λx y H Q=>∃i j,x=.str i/\y=.str j/\Q (.bl (!(Builtin.Str.occurrences j i 0 j.length 1).isEmpty)) H):=by
 intro pins s σ H x y v u Q I rx ry h;obtain⟨i,j,rfl,rfl,q⟩:=h;obtain⟨t,rfl⟩:=rx;obtain⟨t',rfl⟩:=ry;exact in_str (Hs I q rfl)
theorem zlt:A2 X (compareOp .Is) (λx y H Q=>y=.non/\Q (.bl (decide (x=.non))) H):=by
 intro pins s σ H x y v u Q I rx ry h;obtain⟨rfl,q⟩:=h;cases ry;refine is_none_gen (Hs I q ?_)
 cases x<;>first
  |(cases rx;rfl)
  |(obtain⟨t,rfl⟩:=rx;rfl)
theorem zi3:A2 X (compareOp .IsNot) (λx y H Q=>y=.non/\Q (.bl (!decide (x=.non))) H):=by
 intro pins s σ H x y v u Q I rx ry h;obtain⟨rfl,q⟩:=h;cases ry;refine isnot_none_gen (Hs I q ?_)
 cases x<;>first
  |(cases rx;rfl)
  |(obtain⟨t,rfl⟩:=rx;rfl)
theorem A2.or{f:Value->Value->Sem Value}{r r':R2}(h:A2 X f r)(h':A2 X f r'):A2 X f (λx y H Q=>r x y H Q\/r' x y H Q):=by
 intro pins s σ H x y v u Q I rx ry q
 rcases q with q|q
 .exact h pins s σ H x y v u Q I rx ry q
 .exact h' pins s σ H x y v u Q I rx ry q
theorem zhy{op:CmpOp}{r:R2}(ho:A2 X (compareOp op) r)(ha:PE X a ta)(hb:PE X b tb)(hm:behindInMarks op b=false):PE X (.Compare a [op] [b] pos) (GU r ta tb):=by
 intro pins s σ H Q I h;exact wpAny_Compare1 (PV ha hb I h λv u s2 x y H2 I2 rx ry q=>ho pins s2 σ H2 x y v u Q I2 rx ry q) hm
def QG(t:TE):TT:=λσ H Q=>t σ H λx H'=>∃k,x=.bl k/\Q k H'
theorem zhl{op:CmpOp}{r:R2}(ho:A2 X (compareOp op) r)(ha:PE X a ta)(hb:PE X b tb)(hm:behindInMarks op b=false):PT X (.Compare a [op] [b] pos) (QG (GU r ta tb)):=by
 intro pins s σ H Q I h
 refine wpAny_isTrue_Compare1 (AO (ha pins s σ H _ I h) λv s1 ⟨x,H1,I1,r1,q1⟩=>AO (hb pins s1 σ H1 _ I1 q1) λu s2 ⟨y,H2,I2,r2,q2⟩ =>
  AO (ho pins s2 σ H2 x y v u _ I2 r1 r2 q2) λc s3 ⟨z,H3,I3,r3,k,e,q3⟩=>?_) hm
 subst e;cases r3;exact yec ⟨H3,I3,q3⟩
def LU(r r':R2)(ta tb tc:TE):TE:=λσ H Q=>ta σ H λx H1=>tb σ H1 λy H2=>r x y H2 λz H3=>∃k,z=.bl k /\
 (if k=true then tc σ H3 λw' H4=>r' y w' H4 Q else Q (.bl false) H3)
theorem zfx{op op':CmpOp}{r r':R2}(ho:A2 X (compareOp op) r)(ho':A2 X (compareOp op') r')(ha:PE X a ta)(hb:PE X b tb)(hc:PE X c tc)
  (hm:lastMarks [op,op'] [b,c]=false:=by with_unfolding_all rfl):PE X (.Compare a [op,op'] [b,c] pos) (LU r r' ta tb tc):=by
 intro pins s σ H Q I h
 refine Compare_chain (AO (ha pins s σ H _ I h) λv s1 ⟨x,H1,I1,r1,q1⟩=>chain_link (AO (hb pins s1 σ H1 _ I1 q1) λu s2 ⟨y,H2,I2,r2,q2⟩ =>
  AO (ho pins s2 σ H2 x y v u _ I2 r1 r2 q2) λd s3 ⟨z,H3,I3,r3,k,e,q3⟩=>?_)) hm
 subst e;cases r3;refine yec ?_;cases k with
 |false=>exact ite_ff ⟨.bl false,H3,I3,rfl,q3⟩
 |true=>exact ite_tt (chain_last (AO (hc pins s3 σ H3 _ I3 q3) λw' s4 ⟨z',H4,I4,r4,q4⟩=>ho' pins s4 σ H4 y z' u w' Q I4 r2 r4 q4))
theorem zfn{op op':CmpOp}{r r':R2}(ho:A2 X (compareOp op) r)(ho':A2 X (compareOp op') r')(ha:PE X a ta)(hb:PE X b tb)(hc:PE X c tc)
  (hm:lastMarks [op,op'] [b,c]=false:=by with_unfolding_all rfl):PT X (.Compare a [op,op'] [b,c] pos) (QG (LU r r' ta tb tc)):=by
 intro pins s σ H Q I h
 refine isTrue_chain (AO (ha pins s σ H _ I h) λv s1 ⟨x,H1,I1,r1,q1⟩=>test_link (AO (hb pins s1 σ H1 _ I1 q1) λu s2 ⟨y,H2,I2,r2,q2⟩ =>
  AO (ho pins s2 σ H2 x y v u _ I2 r1 r2 q2) λd s3 ⟨z,H3,I3,r3,k,e,q3⟩=>?_)) hm
 subst e;cases r3;refine yec ?_;cases k with
 |false =>
  obtain⟨k',e',q'⟩:=q3;cases e';exact ite_ff ⟨H3,I3,q'⟩
 |true =>
  refine ite_tt (test_last (AO (hc pins s3 σ H3 _ I3 q3) λw' s4 ⟨z',H4,I4,r4,q4⟩=>AO (ho' pins s4 σ H4 y z' u w' _ I4 r2 r4 q4) λd' s5 ⟨z2,H5,I5,r5,k2,e2,q5⟩=>?_))
  subst e2;cases r5;exact yec ⟨H5,I5,q5⟩
theorem Hh:(sizeLine:Nat)<2 ^ 63:=by rw[yej];decide
theorem zd8:A2 X (binaryOp .Add) (λx y H Q=>∃i j,x=.str i/\y=.str j/\i.length+j.length<=sizeLine/\Q (.str (i++j)) H):=by
 intro pins s σ H x y v u Q I rx ry h;obtain⟨i,j,rfl,rfl,hz,q⟩:=h;obtain⟨t,rfl⟩:=rx;obtain⟨t',rfl⟩:=ry;exact add_str (λt' tk=>⟨.str (i++j),H,I.tok _,⟨_,rfl⟩,q⟩) hz
theorem De{x:V}{us:List Value}(r:AR [x] us):∃u,us=[u]/\RelV x u:=by
 cases r with
 |cons r1 r2=>cases r2;exact⟨_,rfl,r1⟩
theorem GP{x y:V}{us:List Value}(r:AR [x,y] us):∃u w',us=[u,w']/\RelV x u/\RelV y w':=by
 cases r with
 |cons r1 r2 =>
  cases r2 with
  |cons r3 r4=>cases r4;exact⟨_,_,rfl,r1,r3⟩
theorem zgo:BZ X (.builtin "abs") (λxs H Q=>∃i,xs=[.int i]/\Q (.int (if i<0 then -i else i)) H):=by
 intro pins s σ H xs us Q I r h;obtain⟨i,rfl,q⟩:=h;obtain⟨u,rfl,t,rfl⟩:=De r;exact call_abs_int λu tk=>⟨.int (if i<0 then -i else i),H,I.tok _,⟨_,rfl⟩,q⟩
theorem zeo(hc:X.calm=true):BZ X (.builtin "min") (λxs H Q=>∃i j,xs=[.int i,.int j]/\Q (.int (if j<i then j else i)) H):=by
 intro pins s σ H xs us Q I r h;obtain⟨i,j,rfl,q⟩:=h;obtain⟨u,w',rfl,⟨t,rfl⟩,⟨t',rfl⟩⟩:=GP r;refine min_two_ints (I.ok.hd hc) λh' tk k=>⟨_,H,I.kept k,?_,q⟩
 by_cases hj:j<i
 .rw[if_pos hj,if_pos hj];exact⟨_,rfl⟩
 .rw[if_neg hj,if_neg hj];exact⟨_,rfl⟩
theorem VD:BZ X (.type "int") (λxs H Q=>(∃i,xs=[.int i]/\Q (.int i) H)\/∃k,xs=[.bl k]/\Q (.int (if k then 1 else 0)) H):=by
 intro pins s σ H xs us Q I r h
 rcases h with ⟨i,rfl,q⟩|⟨k,rfl,q⟩
 .obtain⟨u,rfl,t,rfl⟩:=De r;exact call_int_int ⟨.int i,H,I,⟨_,rfl⟩,q⟩
 .obtain⟨u,rfl,r1⟩:=De r;cases r1;exact call_int_bool ⟨.int (if k then 1 else 0),H,I.tok _,⟨_,rfl⟩,q⟩
def LenV(K:k6)(x:V)(H:Hp)(n:Nat):Prop :=
 match x with
 |.str y=>y.length<=sizeLine/\n=y.length
 |.byt y=>y.size<=sizeLine/\n=y.size
 |.ref p=>(∃xs,AS K H p xs/\n=xs.length)\/∃xs,B7 K H p xs/\n=xs.length
 |_=>False
theorem VC:BZ X (.builtin "len") (λxs H Q=>∃x n,xs=[x]/\LenV X.K x H n/\Q (.int n) H):=by
 intro pins s σ H xs us Q I r h;obtain⟨x,n,rfl,e,q⟩:=h;obtain⟨u,rfl,rx⟩:=De r;have hl:=Hh;have hs:sizeLine=16777216:=yej;cases x with
 |str y =>
  obtain⟨t,rfl⟩:=rx;obtain⟨hy,e'⟩:y.length<=sizeLine/\n=y.length:=e;subst e';exact len_str (by omega) ⟨.int _,H,I.tok _,⟨_,rfl⟩,q⟩
 |byt y =>
  obtain⟨t,rfl⟩:=rx;obtain⟨hy,e'⟩:y.size<=sizeLine/\n=y.size:=e;subst e';exact PySem.W.len_bytes (by omega) ⟨.int _,H,I.tok _,⟨_,rfl⟩,q⟩
 |ref p =>
  cases rx;have e':(∃xs,AS X.K H p xs/\n=xs.length)\/∃xs,B7 X.K H p xs/\n=xs.length:=e
  rcases e' with ⟨xs,hx,e'⟩|⟨xs,hx,e'⟩
  .subst e';obtain⟨its,r',pl,hz⟩:=I.list hx;have hlen:=r'.length;exact Calls.call_len_list pl.isList (by simp only[yah];omega) ⟨.int xs.length,H,I.tok _,⟨_,by simp only[yah];rw[hlen]⟩,q⟩
  .subst e';obtain⟨its,r',pl,hz⟩:=I.tuple hx;have hlen:=r'.length;exact len_tuple pl (by simp only[yah];omega) ⟨.int xs.length,H,I.tok _,⟨_,by simp only[yah];rw[hlen]⟩,q⟩
 |_=>exact(show False from e).elim
end
structure ObjM(h:Heap)(x dx C:Addr)(mA:Str->Option Value):Prop where
 obj:h.get? x=some (PySem.W.instObj C dx)
 ns:h.Ns1 dx mA
 ne:dx≠x
theorem ze8{h:Heap}{dx:Addr}{mA:Str->Option Value}(n:h.Ns1 dx mA):∃od,h.get? dx=some od/\∀name,PySem.W.lookIn name od=some (mA name):=by
 obtain⟨o,es,ep,ho,hd,hk,_,hm⟩:=n;refine⟨o,ho,λname=>?_⟩
 have e:=hm name;unfold nsFind findBy at e;rw[<- Array.find?_toList]at e;unfold PySem.W.lookIn;rw[hd];dsimp only;split
 .rename_i y q;rw[q]at e;exact congrArg some e
 .rename_i q;rw[q]at e
  have a:es.toList.any (·.refKey)=false:=by
   rw[List.any_eq_false];intro y hy;obtain⟨z,t,hkey⟩:=hk y (Array.mem_toList_iff.mp hy);simp[DictEntry.refKey,hkey]
  have a':¬ es.toList.any (·.refKey)=true:=by rw[a];exact ybm
  rw[if_neg a'];exact congrArg some e
theorem ObjM.look{h:Heap}{x dx C:Addr}{mA:Str->Option Value}(I:ObjM h x dx C mA):∃od,PySem.W.InstAt h x (PySem.W.instObj C dx) C (some od)/\∀name,PySem.W.lookIn name od=some (mA name) :=
 let ⟨od,ho,hl⟩:=ze8 I.ns
 ⟨od,⟨I.obj,rfl,rfl,ho⟩,hl⟩
section
variable {prog:Program}{w:World}{A:Around}{E:Value->Shared->Prop}{s:Shared}{K:k6}{x dx C f:Addr}{mA:Str->Option Value}{name:Str}{v:Value}
theorem zj8{expr:Bool}{Q:Value->Shared->Prop}(X:K.In s.heap)(I:ObjM s.heap x dx C mA)(hg:PySem.W.plainGet K C name=true)(hh:PySem.W.hasDictIn K C=true)
  (ha:PySem.W.findIn K (.ref C) name=some none) (hv:mA name=some v) (hv':PySem.W.handedIn v=true) (h:Q v { s with toks:=s.toks+1 }) :
  wpAny (model prog w) A (getAttr (.ref x) name expr) Q E s:=by
 obtain⟨od,J,hl⟩:=I.look;exact PySem.W.get_value X J (ydm hg).1 (PySem.W.findObj_own hh ha rfl (by rw[hl,hv])) hv' h
theorem zgf{pl:Sem Bool}{Q:Value×List Value->Shared->Prop}(X:K.In s.heap)(I:ObjM s.heap x dx C mA)(hg:PySem.W.plainGet K C name=true)
  (hf:PySem.W.findIn K (.ref C) name=some (some (.ref f))) (ht:PySem.W.isFn K (.ref f)=true) (hv:mA name=none) (h:Q (.ref f,[.ref x]) s) :
  wpAny (model prog w) A (getMethod (.ref x) name pl) Q E s:=by
 obtain⟨od,J,hl⟩:=I.look;exact PySem.W.method_fn X J (ydm hg).1 (ydm hg).2 hf (beq_iff_eq.mp ht) (by show(PySem.W.lookIn name od).map (·.isSome)=some false;rw[hl,hv];rfl) h
theorem zha{ns:List Str}{Q:Unit->Shared->Prop}(X:K.In s.heap)(I:ObjM s.heap x dx C mA)
  (hs:PySem.W.findIn K (.ref C) "__setattr__"=some (some (.builtin "object.__setattr__"))) (hp:PySem.W.plainOver K C=true) (ht:PySem.W.takerIn K C name=some none) (hh:PySem.W.hasDictIn K C=true)
  (hw:PySem.Within mA ns) (hsz:ns.length<=sizeLine)
  (h:∀h',ObjM h' x dx C (λy=>if y=name then some v else mA y)->Heap.SameBut dx s.heap h'->Q () { s with heap:=h',toks:=s.toks+2 }) :
  wpAny (model prog w) A (setAttr (.ref x) name v) Q E s:=by
 obtain⟨od,J,hl⟩:=I.look;refine PySem.W.set_plain X J hs (PySem.W.osa_open (s:={ s with toks:=s.toks+1 }) (r:=none) X J hp ht λb=>?_)
 obtain⟨cd,hc,hd'⟩:=PySem.W.any_some hh;have hx:s.heap.get? x=some ⟨.ref C,some dx,.plain,#[]⟩:=I.obj;refine yed (yeg (yed (yed (wpAny_loadPart hx (yed (PySem.W.Looks.here (s:={ s with toks:=s.toks+1 }) (PySem.W.looks_clsIn X hc) ?_))))))
 rw[hd'];refine yeg (a:=some dx) (yed (yeg (yed ?_)));refine wpAny_nsSet1 (s:={ s with toks:=s.toks+1 }) I.ns λh' hn2 hs2=>?_
 obtain⟨oD,esD,epD,hoD,hdD,hcD⟩:=hn2.count (PySem.Within.cons name v hw);refine yed (wpAny_lookBehind hoD (by rw[hdD];exact pastItsLine_dict (yaf hcD (by rw[yao];omega))) ?_)
 exact yeg (h _ ⟨(hs2.2 _ (yb1 I.ne)).trans I.obj,hn2,I.ne⟩ hs2)
theorem zg7{R:Result->Shared->Prop}{vs:List Value}{kw:List (Str×Value)}(X:K.In s.heap)(hm:PySem.W.makesIn K C=true)
  (hi:PySem.W.findIn K (.ref C) "__init__"=some (some (.ref f))) (hf:PySem.W.typeIn K (.ref f)=some (.type "function"))
  (h : codeAny (model prog w) (A.under (.builtin "type.__call__" ⟨.ref C :: vs, kw⟩)) (.call (.ref f) ⟨.ref (s.heap.objs.size + 1) :: vs, kw⟩) (PySem.W.InitBack (s.heap.objs.size + 1) R)
   { s with heap:=(s.heap.push PySem.W.emptyDict).push (PySem.W.instObj C s.heap.objs.size) }) :
  codeAny (model prog w) A (.call (.ref C) ⟨vs,kw⟩) R s:=by
 obtain⟨hh,g,d,t,os⟩:=s;exact PySem.W.make_core (PySem.W.makes_of X hm) (PySem.W.looks_findIn X hi) (λself=>PySem.W.bind_fn X self hf) (.inl rfl) h
end
def CT(f:Str)(v:V):List (Str×V)->List (Str×V)
 |[]=>[(f,v)]
 |(g,x)::r=>if g=f then (g,v)::r else (g,x)::CT f v r
theorem Ss(f g:Str)(v:V):∀fs:List (Str×V),(CT f v fs).lookup g=if g=f then some v else fs.lookup g
 |[]=>by
  show List.lookup g [(f,v)]=_
  by_cases h:g=f
  .have hb:(g == f)=true:=beq_iff_eq.mpr h;simp only[List.lookup,hb,if_pos h]
  .have hb:(g == f)=false:=beq_eq_false_iff_ne.mpr h;simp only[List.lookup,hb,if_neg h]
 |(k,x)::r=>by
  have ih:=Ss f g v r;rw[show CT f v ((k,x)::r)=(if k=f then (k,v)::r else (k,x)::CT f v r) from rfl]
  by_cases hk:k=f
  .rw[if_pos hk]
   by_cases h:g=k
   .have hb:(g == k)=true:=beq_iff_eq.mpr h;simp only[List.lookup,hb,if_pos (h.trans hk)]
   .have hb:(g == k)=false:=beq_eq_false_iff_ne.mpr h;simp only[List.lookup,hb,if_neg (λe:g=f=>h (e.trans hk.symm))]
  .rw[if_neg hk]
   by_cases h:g=k
   .have hb:(g == k)=true:=beq_iff_eq.mpr h;simp only[List.lookup,hb,if_neg (λe:g=f=>hk (h.symm.trans e))]
   .have hb:(g == k)=false:=beq_eq_false_iff_ne.mpr h;simp only[List.lookup,hb];exact ih
theorem NT(f:Str)(v:V):∀fs:List (Str×V),f∈(CT f v fs).map (·.1)/\∀g,g∈fs.map (·.1)->g∈(CT f v fs).map (·.1)
 |[]=>⟨by simp[CT],λg h=>by simp at h⟩
 |(k,x)::r=>by
  obtain⟨i1,i2⟩:=NT f v r;rw[show CT f v ((k,x)::r)=(if k=f then (k,v)::r else (k,x)::CT f v r) from rfl]
  by_cases hk:k=f
  .rw[if_pos hk];subst hk;exact⟨by simp,λg h=>by simpa using h⟩
  .rw[if_neg hk];refine⟨?_,λg h=>?_⟩
   .rw[yae];exact ya6 _ i1
   .rw[yae]at h ⊢
    rcases yai.mp h with e|e
    .exact yai.mpr (.inl e)
    .exact ya6 _ (i2 g e)
theorem Sy(f:Str)(v:V):∀fs:List (Str×V),(CT f v fs).length<=fs.length+1
 |[]=>by simp[CT]
 |(k,x)::r=>by
  have ih:=Sy f v r;rw[show CT f v ((k,x)::r)=(if k=f then (k,v)::r else (k,x)::CT f v r) from rfl]
  by_cases hk:k=f
  .rw[if_pos hk,yao,yao];omega
  .rw[if_neg hk,yao,yao];omega
theorem CW.some_of{v:V}{o:Option Value}(r:CW (some v) o):∃u,o=some u/\RelV v u:=by
 cases o with
 |none=>exact(show False from r).elim
 |some u=>exact⟨u,rfl,r⟩
theorem CW.none_of{o:Option Value}(r:CW none o):o=none:=by
 cases o with
 |none=>rfl
 |some u=>exact(show False from r).elim
theorem zef{v:V}{u:Value}(r:RelV v u):PySem.W.handedIn u=true:=by
 cases v with
 |non=>cases (show u=Value.none from r);rfl
 |bl b=>cases (show u=Value.bool b from r);rfl
 |int i=>obtain⟨t,e⟩:=(show ∃t,u=Value.int i t from r);cases e;rfl
 |str x=>obtain⟨t,e⟩:=(show ∃t,u=Value.str x t from r);cases e;rfl
 |byt b=>obtain⟨t,e⟩:=(show ∃t,u=Value.bytes b t from r);cases e;rfl
 |flt b=>obtain⟨t,e⟩:=(show ∃t,u=Value.float b t from r);cases e;rfl
 |ref a=>cases (show u=Value.ref a from r);rfl
 |ty n=>cases (show u=Value.type n from r);rfl
section
variable {P:Program}{w:World}{H H':Hp}{h h':Heap}{a C dx:Addr}{fs fs':List (Str×V)}
theorem Jm(hok:HOk P w H h)(e:H a=some (.ins C dx fs)):∃mA,ObjM h a dx C mA/\(∀f,CW (fs.lookup f) (mA f))/\PySem.Within mA (fs.map (·.1))/\fs.length<=1000/\H dx=some (.own a):=by
 obtain⟨d,z,ne,ob,mA,n,r,q⟩:=(show BR P w H h a (.ins C dx fs) from hok a _ e);exact⟨mA,⟨ob,n,ne⟩,r,q,z,d⟩
end
structure Cls(K:k6)(C:Addr):Prop where
 pg:PySem.W.plainGet K C Str.empty=true
 hd:PySem.W.hasDictIn K C=true
 po:PySem.W.plainOver K C=true
 sa:PySem.W.findIn K (.ref C) "__setattr__"=some (some (.builtin "object.__setattr__"))
theorem Cls.get{K:k6}{C:Addr}(c:Cls K C)(f:Str):PySem.W.plainGet K C f=true:=c.pg
def Bi(K:k6)(C:Addr)(f:Str):Prop:=PySem.W.findIn K (.ref C) f=some none
theorem Bi.taker{K:k6}{C:Addr}{f:Str}(n:Bi K C f):PySem.W.takerIn K C f=some none:=by
 unfold PySem.W.takerIn;rw[show PySem.W.findIn K (.ref C) f=some none from n]
 rfl
structure Meth(K:k6)(C:Addr)(m:Str)(f:Addr):Prop where
 at_:PySem.W.findIn K (.ref C) m=some (some (.ref f))
 fn:PySem.W.isFn K (.ref f)=true
 kp:PySem.W.keepIn K (.ref f)=true
section
variable {X:Cx}{pins:List (Addr×Obj)}{σ:St}{H:Hp}{s:Shared}{a C dx:Addr}{fs:List (Str×V)}{f:Str}{v:V}{A:Around}{E:Value->Shared->Prop}
theorem zdc{b:Bool}{Q:Value->Shared->Prop}(I:Inv X pins σ H s)(e:H a=some (.ins C dx fs))(c:Cls X.K C)(n:Bi X.K C f)(l:fs.lookup f=some v)
  (h:∀u s',Inv X pins σ H s'->RelV v u->Q u s'):wpAny (model X.prog X.w) A (getAttr (.ref a) f b) Q E s:=by
 obtain⟨mA,O,r,_,_,_⟩:=Jm I.hok e;obtain⟨u,hu,ru⟩:=CW.some_of (v:=v) (o:=mA f) (by rw[<- l];exact r f)
 exact zj8 I.kIn O (c.get f) c.hd n hu (zef ru) (h u _ (I.tok _) ru)
theorem UQ{m:Str}{g:Addr}{pl:Sem Bool}{Q:Value×List Value->Shared->Prop}(I:Inv X pins σ H s)(e:H a=some (.ins C dx fs))(c:Cls X.K C)(k:Meth X.K C m g)(l:fs.lookup m=none)
  (h:Q (.ref g,[.ref a]) s):wpAny (model X.prog X.w) A (getMethod (.ref a) m pl) Q E s:=by
 obtain⟨mA,O,r,_,_,_⟩:=Jm I.hok e;have hn:mA m=none:=CW.none_of (by rw[<- l];exact r m)
 exact zgf I.kIn O (c.get m) k.at_ k.fn hn h
theorem zd1{y:V}{u:Value}{Q:Unit->Shared->Prop}(I:Inv X pins σ H s)(e:H a=some (.ins C dx fs))(c:Cls X.K C)(n:Bi X.K C f)(hl:fs.length<1000)(ry:RelV y u)
  (h:∀s',Inv X pins σ (upd H a (.ins C dx (CT f y fs))) s'->Q () s'):wpAny (model X.prog X.w) A (setAttr (.ref a) f u) Q E s:=by
 obtain⟨mA,O,r,wi,_,ho⟩:=Jm I.hok e;have hz:(fs.map (·.1)).length<=sizeLine:=by rw[ya1,yej];omega
 refine zha I.kIn O c.sa c.po n.taker c.hd wi hz λh' O' sb=>h _ ?_
 have hd:∃o,h'.get? dx=some o:=let ⟨o,_,_,e',_⟩:=O'.ns;⟨o,e'⟩;refine I.write (x:=a) (e:=dx) (by rw[e];exact True.intro) (.inr ho) (λb q hb z=>(sb.2 b hb).trans z) hd ?_
 refine⟨by rw[Aj O.ne];exact ho,?_,O.ne,O'.obj,_,O'.ns,λg=>?_,λg hg=>?_⟩
 .have:=Sy f y fs;omega
 .show CW ((CT f y fs).lookup g) (if g=f then some u else mA g)
  rw[Ss]
  by_cases q:g=f
  .rw[if_pos q,if_pos q];exact ry
  .rw[if_neg q,if_neg q];exact r g
 .by_cases q:g=f
  .rw[q];exact(NT f y fs).1
  .refine(NT f y fs).2 g (wi g λz=>hg ?_)
   show(if g=f then some u else mA g)=none
   rw[if_neg q];exact z
theorem Inv.made(I:Inv X pins σ H s):Inv X pins σ (upd (upd H s.heap.objs.size (.own (s.heap.objs.size+1))) (s.heap.objs.size+1) (.ins C s.heap.objs.size []))
  { s with heap:=(s.heap.push PySem.W.emptyDict).push (PySem.W.instObj C s.heap.objs.size) }:=by
 have e1:(s.heap.push PySem.W.emptyDict).get? s.heap.objs.size=some PySem.W.emptyDict:=yau s.heap rfl
 have e2:((s.heap.push PySem.W.emptyDict).push (PySem.W.instObj C s.heap.objs.size)).get? (s.heap.objs.size+1)=some (PySem.W.instObj C s.heap.objs.size):=by
  have:=yau (s.heap.push PySem.W.emptyDict) (o:=PySem.W.instObj C s.heap.objs.size) rfl
  rwa[yc4]at this
 have e3:(s.heap.push PySem.W.emptyDict).Ns s.heap.objs.size (λ_=>none):=⟨PySem.W.emptyDict,#[],_,e1,rfl,(λe he=>absurd he (by simp)),λ_=>rfl⟩
 have I1:=I.laid (a:=s.heap.objs.size) (o:=.own (s.heap.objs.size+1)) (h':=s.heap.push PySem.W.emptyDict) (t':=s.toks) (λb u q=>yab _ q) (ya8 _) ⟨_,e1⟩
 refine I1.laid (a:=s.heap.objs.size+1) (o:=.ins C s.heap.objs.size []) (t':=s.toks) (λb u q=>yab _ q) (Nat.le_of_eq (yc4 _ _)) ?_
 have ne:s.heap.objs.size≠s.heap.objs.size+1:=yaq (ycr _);refine⟨by rw[Aj ne,Br],yba _,ne,e2,λ_=>none,(Heap.Ns1.of_empty e3).at λo q=>yab _ q,λ_=>True.intro,λy hy=>absurd rfl hy⟩
theorem zjo{prog:Program}{w:World}{env:Env}{e:Expr}{f:Str}{pos:Pos}{s:Shared}{Q:Value->Shared->Prop}(hb:attributeBase e f env (eval e env)=eval e env)
  (h:wpAny (model prog w) A (eval e env) (λo s₁=>wpAny (model prog w) A (getAttr o f true) Q E s₁) E s):wpAny (model prog w) A (eval (.Attribute e f pos) env) Q E s :=
 Attribute_any_ h (by rw[arm_eval_Attribute,hb])
end
def tFld(K:k6)(ta:TE)(f:Str):TE:=λσ H Q=>ta σ H λx H1=>∃a C dx fs v,x=.ref a/\H1 a=some (.ins C dx fs)/\Cls K C/\Bi K C f/\fs.lookup f=some v/\Q v H1
def sFld(K:k6)(ta tv:TE)(f:Str):TS:=λD σ H=>tv σ H λy H1=>ta σ H1 λx H2=>∃a C dx fs,x=.ref a/\H2 a=some (.ins C dx fs)/\Cls K C/\Bi K C f/\fs.length<1000 /\
 D.nx σ (upd H2 a (.ins C dx (CT f y fs)))
section
variable {X:Cx}{o e value:Expr}{f:Str}{pos pos' tpos:Pos}{ta tv:TE}
theorem RS(he:PE X e ta)(hb:attributeBase e f X.env (eval e X.env)=eval e X.env):PE X (.Attribute e f pos) (tFld X.K ta f):=by
 intro pins s σ H Q I h;refine zjo hb (AO (he pins s σ H _ I h) λu s1 ⟨x,H1,I1,rx,a,C,dx,fs,v,ex,ea,c,n,l,q⟩=>?_)
 subst ex;obtain rfl:u=Value.ref a:=rx;exact zdc I1 ea c n l λu' s2 I2 ru=>⟨v,H1,I2,ru,q⟩
theorem zl7(ha:PE X o ta)(hv:PE X value tv)(hs:swapsWith value (some (.Attribute o f pos')) pos.line X.env=pure false):PS X (.Assign [.Attribute o f pos'] value pos) (sFld X.K ta tv f):=by
 intro pins s σ H D I h;refine plainObj_wpAny_Assign_Attribute (AO (hv pins s σ H _ I h) λu s1 ⟨y,H1,I1,ry,q⟩=>AO (ha pins s1 σ H1 _ I1 q) λov s2 ⟨x,H2,I2,rx,a,C,dx,fs,ex,ea,c,n,l,q2⟩=>?_) hs
 subst ex;obtain rfl:ov=Value.ref a:=rx;exact zd1 I2 ea c n l ry λs3 I3=>⟨σ,_,I3,q2⟩
end
section
variable {X:Cx}{pins:List (Addr×Obj)}{σ:St}{H:Hp}{s:Shared}{A:Around}{E:Value->Shared->Prop}{Q:Value->Shared->Prop}{c:Value}{b:Bool}
inductive TyOf(K:k6)(H:Hp):V->Value->Prop where
 |non:TyOf K H .non (.type "NoneType")
 |bl (x:Bool):TyOf K H (.bl x) (.type "bool")
 |int (i:Int):TyOf K H (.int i) (.type "int")
 |str (x:Str):TyOf K H (.str x) (.type "str")
 |flt (x:UInt64):TyOf K H (.flt x) (.type "float")
 |lst {a:Addr} {xs:List V} (e:H a=some (.lst xs)):TyOf K H (.ref a) (.type "list")
 |frz {a:Addr} {o:Obj} {xs:List V} (e:H a=some (.frz o (.lst xs))):TyOf K H (.ref a) (.type "list")
 |tup {a:Addr} {xs:List V} (e:H a=some (.tup xs)):TyOf K H (.ref a) (.type "tuple")
 |dK {a:Addr} {kvs:List (Key×V)} (e:H a=some (.dK kvs)):TyOf K H (.ref a) (.type "dict")
 |dT {a:Addr} {kvs:List (List Key×V)} (e:H a=some (.dT kvs)):TyOf K H (.ref a) (.type "dict")
 |ins {a C dx:Addr} {fs:List (Str×V)} (e:H a=some (.ins C dx fs)) (cl:Cls K C) (ha:PySem.W.findIn K (.ref C) "__class__"=some (some (.builtin "object.__class__")))
   (hn:PySem.W.specialIn K (.builtin "object.__class__") "__get__"=some (some (.builtin "getset_descriptor.__get__"))) (htk:PySem.W.takesIn K (.builtin "object.__class__")=some true)
   (hm:PySem.W.mroIn K C (.type "object")=some true):TyOf K H (.ref a) (.ref C)
theorem N3{x:V}{u t:Value}(I:Inv X pins σ H s)(rx:RelV x u)(ty:TyOf X.K H x t)(e:PySem.W.kitOne X.K t c=some b)(h:∀tk,Q (.bool b) { s with toks:=tk }) :
  wpAny (model X.prog X.w) A (call (.builtin "isinstance") [u,c]) Q E s:=by
 cases ty with
 |non=>cases (show u=Value.none from rx);exact ybd PySem.W.kitx_none I.kIn True.intro e (λz=>nomatch z) h
 |bl y=>cases (show u=Value.bool y from rx);exact ybd PySem.W.kitx_bool I.kIn True.intro e (λz=>nomatch z) h
 |int i=>obtain⟨t,q⟩:=(show ∃t,u=Value.int i t from rx);cases q;exact ybd PySem.W.kitx_int I.kIn True.intro e (λz=>nomatch z) h
 |str y=>obtain⟨t,q⟩:=(show ∃t,u=Value.str y t from rx);cases q;exact ybd PySem.W.kitx_str I.kIn True.intro e (λz=>nomatch z) h
 |flt y=>obtain⟨t,q⟩:=(show ∃t,u=Value.float y t from rx);cases q;exact ybd PySem.W.kitx_float I.kIn True.intro e (λz=>nomatch z) h
 |@lst a xs ea =>
  cases (show u=Value.ref a from rx);obtain⟨_,_,n,_,h1⟩:=(show BR X.prog X.w H s.heap a (.lst xs) from I.hok a _ ea);exact ybd PySem.W.kitx_list I.kIn ⟨_,h1,rfl⟩ e (λz=>nomatch z) h
 |@frz a ob xs ea =>
  cases (show u=Value.ref a from rx);obtain⟨_,_,_,n,_,h1⟩:=(show BR X.prog X.w H s.heap a (.frz ob (.lst xs)) from I.hok a _ ea);exact ybd PySem.W.kitx_list I.kIn ⟨_,h1,rfl⟩ e (λz=>nomatch z) h
 |@tup a xs ea =>
  cases (show u=Value.ref a from rx);obtain⟨_,_,_,p⟩:=(show BR X.prog X.w H s.heap a (.tup xs) from I.hok a _ ea);obtain⟨o,h1,h2,_⟩:=p;exact ybd PySem.W.kitx_tuple I.kIn ⟨o,h1,h2⟩ e (λz=>nomatch z) h
 |@dK a kvs ea =>
  cases (show u=Value.ref a from rx);obtain⟨_,_,vs,_,p⟩:=(show BR X.prog X.w H s.heap a (.dK kvs) from I.hok a _ ea);obtain⟨o,es,ep,h1,h2,_⟩:=p;exact ybd ydz I.kIn ⟨o,h1,h2.1⟩ e (λz=>nomatch z) h
 |@dT a kvs ea =>
  cases (show u=Value.ref a from rx);obtain⟨_,_,xs,_,o,es,ep,h1,h2,_⟩:=(show BR X.prog X.w H s.heap a (.dT kvs) from I.hok a _ ea);exact ybd ydz I.kIn ⟨o,h1,h2.1⟩ e (λz=>nomatch z) h
 |@ins a C dx fs ea cl ha hn htk hm =>
  cases (show u=Value.ref a from rx);obtain⟨mA,O,_⟩:=Jm I.hok ea;obtain⟨od,J,_⟩:=O.look;exact ybd (PySem.W.kitx_own (cl.get _) cl.hd ha hn htk hm) I.kIn J e (λz=>nomatch z) h
end
structure Room(k:Nat)(A:Around):Prop where
 hd:A.handled=none
 dp:A.depth+3 * k+5<recursionLimit
 un:A.units+16 * k+200<cLine
theorem Room.mono{j k:Nat}{A:Around}(r:Room k A)(h:j<=k):Room j A:=⟨r.hd,by have:=r.dp;omega,by have:=r.un;omega⟩
theorem Room.deeper{k:Nat}{A:Around}(r:Room (k+1) A)(env:Env):Room k (A.deeper env) :=
 ⟨r.hd,by have:=r.dp;show A.depth+1+3 * k+5<_;omega,by have:=r.un;show A.units+3+16 * k+200<_;omega⟩
theorem Room.in1{k:Nat}{A:Around}(r:Room (k+1) A):Room k A.in1 :=
 ⟨r.hd,by have:=r.dp;show A.depth+3 * k+5<_;omega,by have:=r.un;show A.units+1+16 * k+200<_;omega⟩
theorem zdb{A:Around}{C:Addr}{us:List Value}{kw:List (Str×Value)}:(A.under (.builtin "type.__call__" ⟨.ref C::us,kw⟩)).depth=A.depth+1:=by
 first|rfl|simp[Around.under,Code.weight,Code.isCreation,Code.isGuard,Code.isCaller,Code.frames,Code.isFrame,guardIds]
theorem zda{A:Around}{C:Addr}{us:List Value}{kw:List (Str×Value)}:(A.under (.builtin "type.__call__" ⟨.ref C::us,kw⟩)).units=A.units+1:=by
 first|rfl|simp[Around.under,Code.cUnits,Code.frames,Code.isFrame]
theorem Room.make{k:Nat}{A:Around}(r:Room (k+1) A)(C:Addr)(us:List Value)(kw:List (Str×Value)):Room k (A.under (.builtin "type.__call__" ⟨.ref C::us,kw⟩)) :=
 ⟨r.hd,by have:=r.dp;rw[zdb];omega,by have:=r.un;rw[zda];omega⟩
theorem Room.depth{k:Nat}{A:Around}(r:Room k A):A.depth<recursionLimit:=by have:=r.dp;omega
theorem Room.units{k:Nat}{A:Around}(r:Room k A):A.units+64<cLine:=by have:=r.un;omega
def QL:TA:=λ_ H Q=>Q [] H
def tCons(ta:TE)(tr:TA):TA:=λσ H Q=>ta σ H λx H1=>tr σ H1 λxs H2=>Q (x::xs) H2
section
variable {X:Cx}{e:Expr}{es:List Expr}{te:TE}{t:TA}{pos:Pos}
theorem EI:PA X [] QL:=λ_ _ _ _ H Q I h=>Calls.spliced_nil ⟨[],H,I,.nil,h⟩
theorem DU(ha:PE X e te)(hr:PA X es t)(hs:starEach (e::es) X.env=(false,eval e X.env)::starEach es X.env:=by rfl):PA X (e::es) (tCons te t):=by
 intro pos pins s σ H Q I h;rw[hs];show wpAny _ _ (spliced ((false,eval e X.env)::backTo pos (starEach es X.env))) _ _ s;refine Calls.spliced_cons (AO (ha pins s σ H _ I h) λu s1 ⟨x,H1,I1,r1,q1⟩=>?_)
 exact AO (hr pos pins s1 σ H1 _ I1 q1) λus s2 ⟨xs,H2,I2,r2,q2⟩=>⟨x::xs,H2,I2,.cons r1 r2,q2⟩
def tTup(t:TA):TE:=λσ H Q=>t σ H λxs H1=>xs.length<=sizeLine/\∀p,H1 p=none->Q (.ref p) (upd H1 p (.tup xs))
def tLst(t:TA):TE:=λσ H Q=>t σ H λxs H1=>xs.length<=sizeLine/\∀p,H1 p=none->Q (.ref p) (upd H1 p (.lst xs))
theorem zlf{x1}(h:PA X es t):PE X (.Tuple es x1 pos) (tTup t):=by
 intro pins s σ H Q I hq;refine wpAny_Tuple_spliced (AO (h pos pins s σ H _ I hq) λus s1 ⟨xs,H1,I1,r,z,q⟩=>⟨by rw[<- r.length];exact z,?_⟩)
 have hf:H1 s1.heap.objs.size=none:=I1.hok.fresh (ya8 _);refine⟨.ref s1.heap.objs.size,upd H1 s1.heap.objs.size (.tup xs),I1.laid (t':=s1.toks) (λb u e=>yab _ e) (ya8 _) ?_,rfl,q _ hf⟩
 exact⟨z,us,r,⟨_,yau _ rfl,rfl,_,rfl⟩⟩
theorem zlk(h:PA X es t):PE X (.List es pos) (tLst t):=by
 intro pins s σ H Q I hq;refine wpAny_List_spliced (AO (h pos pins s σ H _ I hq) λus s1 ⟨xs,H1,I1,r,z,q⟩=>⟨by rw[<- r.length];exact z,?_⟩)
 have hf:H1 s1.heap.objs.size=none:=I1.hok.fresh (ya8 _);refine⟨.ref s1.heap.objs.size,upd H1 s1.heap.objs.size (.lst xs),I1.laid (t':=s1.toks) (λb u e=>yab _ e) (ya8 _) ?_,rfl,q _ hf⟩
 exact⟨z,us,0,r,yau _ rfl⟩
end
abbrev Sp:=List V->Hp->VK->XK->Prop
abbrev DD:=List Env->Hp->Shared->XK->Value->Shared->Prop
structure Env0(P:Program)(w:World)(K:k6)(mg:Str->Option Value)(base:Heap)(A:Around)(outer:List Env)(s:Shared)(H:Hp):Prop where
 frames:A.frames=some outer
 mod:Mod K mg base
 bs:∀b o,base.get? b=some o->s.heap.get? b=some o/\H b=none
 bsz:base.objs.size<=s.heap.objs.size
 funs:s.heap.FunFrames base outer
 frf:∀b∈BH outer,H b=none
 hok:HOk P w H s.heap
 bare:AllBare s.gens
def CE(outer:List Env)(P:Program)(w:World)(H:Hp)(s:Shared)(Q:VK)(u:Value)(s':Shared):Prop :=
 ∃v H',s'.os=s.os/\AllBare s'.gens/\Un (BH outer) [] H H' s.heap s'.heap/\HOk P w H' s'.heap/\RelV v u/\Q v H'
def CR(CX:DD)(outer:List Env)(P:Program)(w:World)(H:Hp)(s:Shared)(Q:VK)(E:XK)(r:Result)(s':Shared):Prop :=
 match r with
 |.ok (.ret u)=>CE outer P w H s Q u s'
 |.ok _=>False
 |.error e=>CX outer H s E e s'
structure FnOk(P:Program)(w:World)(K:k6)(mg:Str->Option Value)(base:Heap)(CX:DD)(k:Nat)(f:Addr)(fd:FuncData)(ps:List Str)(sp:Sp):Prop where
 len:∀vs H Q E,sp vs H Q E->vs.length=ps.length
 run:∀(A:Around) (outer:List Env) (s:Shared) (H:Hp) (args:Args) (us:List Value) (vs:List V) (Q:VK) (E:XK),Room k A->Env0 P w K mg base A outer s H->BindsTo s fd args (ps.zip us)->AR vs us->sp vs H Q E ->
  codeAny (model P w) A (.call (.ref f) args) (CR CX outer P w H s Q E) s
theorem FnOk.mono{P:Program}{w:World}{K:k6}{mg:Str->Option Value}{base:Heap}{CX:DD}{j k:Nat}{f:Addr}{fd:FuncData}{ps:List Str}{sp:Sp}(F:FnOk P w K mg base CX j f fd ps sp)(h:j<=k) :
  FnOk P w K mg base CX k f fd ps sp:=⟨F.len,λA outer s H args us vs Q E hr=>F.run A outer s H args us vs Q E (hr.mono h)⟩
theorem FnOk.imp{P:Program}{w:World}{K:k6}{mg:Str->Option Value}{base:Heap}{CX:DD}{k:Nat}{f:Addr}{fd:FuncData}{ps:List Str}{sp sp':Sp}(F:FnOk P w K mg base CX k f fd ps sp)
  (h:∀vs H Q E,sp' vs H Q E->sp vs H Q E):FnOk P w K mg base CX k f fd ps sp' :=
 ⟨λvs H Q E q=>F.len vs H Q E (h _ _ _ _ q),λA outer s H args us vs Q E hr he hb hv hs=>F.run A outer s H args us vs Q E hr he hb hv (h _ _ _ _ hs)⟩
theorem Env0.make{P:Program}{w:World}{K:k6}{mg:Str->Option Value}{base:Heap}{A:Around}{outer:List Env}{s:Shared}{H:Hp}(e:Env0 P w K mg base A outer s H)(C:Addr)(us:List Value)(kw:List (Str×Value)) :
  Env0 P w K mg base (A.under (.builtin "type.__call__" ⟨.ref C::us,kw⟩)) outer s H:=⟨by first|exact e.frames|(simpa[Around.under,Code.envs,Code.isFrame,pushEnvs] using e.frames),e.mod,e.bs,e.bsz,e.funs,e.frf,e.hok,e.bare⟩
theorem Env0.in1{P:Program}{w:World}{K:k6}{mg:Str->Option Value}{base:Heap}{A:Around}{outer:List Env}{s:Shared}{H:Hp}(e:Env0 P w K mg base A outer s H) :
  Env0 P w K mg base A.in1 outer s H:=⟨e.frames,e.mod,e.bs,e.bsz,e.funs,e.frf,e.hok,e.bare⟩
section
variable {X:Cx}{pins:List (Addr×Obj)}{σ:St}{H:Hp}{s s':Shared}
theorem Inv.env0(I:Inv X pins σ H s):Env0 X.prog X.w X.K X.mg X.base X.A X.stack s H :=
 ⟨I.ok.frames,I.ok.mod,I.bs,yaf I.ok.bsz I.sz,I.stack,I.stkFree,I.hok,I.bare⟩
theorem Inv.after{Q:VK}{u:Value}(I:Inv X pins σ H s)(h:CE X.stack X.prog X.w H s Q u s'):EP X pins σ Q u s':=by
 obtain⟨v,H',os,bare,un,hok,r,q⟩:=h;obtain⟨hh,g,d,t,os'⟩:=s';obtain rfl:os'=s.os:=os;exact⟨v,H',I.call (h':=hh) (g':=g) (d':=d) (t':=t) (ch:=[]) un hok bare (λb z=>absurd z (by simp)),r,q⟩
end
def QY(sp:Sp)(dvs:List V)(E:XK)(t:TA):TE:=λσ H Q=>t σ H λvs H1=>sp (vs++dvs) H1 Q E
def CY(K:k6)(fd:FuncData)(ps:List Str)(ds:List Value):Prop :=
 ∀(s:Shared) (us:List Value),K.In s.heap->(us++ds).length=ps.length->BindsTo s fd ⟨us,[]⟩ (ps.zip (us++ds))
theorem CY.all{K:k6}{fd:FuncData}{ps:List Str}(h:∀us:List Value,us.length=ps.length->bindArgs fd ⟨us,[]⟩=pure (ps.zip us)):CY K fd ps []:=λs us _ hl=>by
 rw[yaw]at hl ⊢;exact .of_eq (h us hl)
def P4(CX:DD)(X:Cx)(E:XK):Prop:=∀(pins:List (Addr×Obj)) (σ:St) (H:Hp) (s:Shared) (e:Value) (s':Shared),Inv X pins σ H s->CX X.stack H s E e s'->X.xe e s'
section
variable {X:Cx}{CX:DD}{k:Nat}{f C:Addr}{fd:FuncData}{ps:List Str}{sp:Sp}{dvs:List V}{ds:List Value}{E:XK}{x m:Str}{p pos apos:Pos}{e o:Expr}{es:List Expr}{ta:TE}{t:TA}
theorem zkp{pins:List (Addr×Obj)}{σ:St}{H:Hp}{s:Shared}{Q:VK}{us:List Value}{vs:List V}(F:FnOk X.prog X.w X.K X.mg X.base CX k f fd ps sp)(hr:Room k X.A)(hb:CY X.K fd ps ds)(hd:AR dvs ds)(hx:P4 CX X E)
  (I:Inv X pins σ H s) (r:AR vs us) (h:sp (vs++dvs) H Q E):wpAny (model X.prog X.w) X.A (call (.ref f) us) (EP X pins σ Q) X.xe s:=by
 have r2:AR (vs++dvs) (us++ds):=r.append hd;have hl:(us++ds).length=ps.length:=by rw[<- r2.length];exact F.len _ _ _ _ h
 refine yek (yel (F.run X.A X.stack s H ⟨us,[]⟩ (us++ds) (vs++dvs) Q E hr I.env0 (hb s us I.kIn hl) r2 h) λr s' hq=>?_)
 cases r with
 |error e=>exact hx pins σ H s e s' I hq
 |ok fl =>
  cases fl with
  |ret u=>exact I.after hq
  |next=>exact False.elim hq
  |brk=>exact False.elim hq
  |cont=>exact False.elim hq
theorem zhz(F:FnOk X.prog X.w X.K X.mg X.base CX k f fd ps sp)(hr:Room k X.A)(hg:Gl X x)(hm:X.mg x=some (.ref f))(hk:PySem.W.keepIn X.K (.ref f)=true)(hb:CY X.K fd ps ds)(hd:AR dvs ds)(hx:P4 CX X E)
  (ha:PA X (e::es) t) (hdb:(x == ("__debug__":Str))=false:=by decide) (he:starEach (e::es) X.env=(false,eval e X.env)::starEach es X.env:=by rfl) (hpl:(backTo pos (starEach es X.env)).any (·.1)=false:=by rfl) :
  PE X (.Call (.Name x p) (e::es) [] pos) (QY sp dvs E t):=by
 intro pins s σ H Q I h;refine yem (Hi I hg hm ?_ hdb);refine ycx (h₀:=X.base) I.ok.mod.kin hk (AO (ha pos pins s σ H _ I h) λus s1 ⟨vs,H1,I1,r,q⟩=>⟨I1.kIn,?_⟩) he hpl
 exact zkp F hr hb hd hx I1 r q
structure Mk(K:k6)(C f:Addr):Prop where
 makes:PySem.W.makesIn K C=true
 init:PySem.W.findIn K (.ref C) "__init__"=some (some (.ref f))
 fn:PySem.W.isFn K (.ref f)=true
 kp:PySem.W.keepIn K (.ref C)=true
end
section
variable {X:Cx}{CX:DD}{k:Nat}{f C:Addr}{fd:FuncData}{ps ks:List Str}{sp:Sp}{E:XK}{x m:Str}{p pos apos kpos:Pos}{e o:Expr}{es:List Expr}{kws:List Keyword}{te ta:TE}{t tk:TA}{nm:Option Str}
variable {g:List Value->List Value->List Value}{gV:List V->List V->List V}
end
structure FnScope(N P:List Str)(sc:Scope):Prop where
 kind:sc.kind=.function
 co:sc.isCoroutine=false
 gen:sc.isGenerator=false
 nd:N.Nodup
 pre:N.take P.length=P
 par:∀x∈P,sc.names.lookup x=some .local\/sc.names.lookup x=some .cell
 nofree:∀y∈sc.names,y.2≠.free
theorem VJ{kindOf:Str->Option NameKind}{x:Str}:∀{binds:List (Str×Value)} {m:Str->Option Value},(∀v,(x,v)∉binds)->bindL kindOf binds m x=m x
 |[],_,_=>rfl
 |(n,v)::r,m,h=>by
  unfold bindL;rw[VJ λw hw=>h w (ya6 _ hw)]
  split
  .have:x≠n:=by rintro rfl;exact h v ya7
   simp[this]
  .rfl
theorem VM{kindOf:Str->Option NameKind}{x:Str}:∀{binds:List (Str×Value)} {m:Str->Option Value},(∀v,(x,v)∉binds)->bindC kindOf binds m x=m x
 |[],_,_=>rfl
 |(n,v)::r,m,h=>by
  unfold bindC;rw[VM λw hw=>h w (ya6 _ hw)]
  split
  .rfl
  .have:x≠n:=by rintro rfl;exact h v ya7
   simp[this]
theorem VL{kindOf:Str->Option NameKind}{x:Str}{v:Value}:∀{P:List Str} {vs:List Value} {i:Nat} {m:Str->Option Value},P.Nodup->P[i]?=some x->vs[i]?=some v->kindOf x=some .local ->
  bindL kindOf (P.zip vs) m x=some v
 |[],_,_,_,_,h,_,_=>by simp at h
 |_::_,[],_,_,_,_,h,_=>by simp at h
 |p::P,w::vs,0,m,nd,h1,h2,hk=>by
  simp at h1 h2;subst h1;subst h2;show bindL kindOf ((p,w)::P.zip vs) m p=_;unfold bindL;rw[VJ λv hv=>(ycv.mp nd).1 (List.of_mem_zip hv).1,if_pos hk]
  simp
 |p::P,w::vs,i+1,m,nd,h1,h2,hk=>by
  show bindL kindOf ((p,w)::P.zip vs) m x=_;unfold bindL;exact VL (i:=i) (ycv.mp nd).2 (by simpa using h1) (by simpa using h2) hk
theorem VN{kindOf:Str->Option NameKind}{x:Str}{v:Value}:∀{P:List Str} {vs:List Value} {i:Nat} {m:Str->Option Value},P.Nodup->P[i]?=some x->vs[i]?=some v->kindOf x≠some .local ->
  bindC kindOf (P.zip vs) m x=some v
 |[],_,_,_,_,h,_,_=>by simp at h
 |_::_,[],_,_,_,_,h,_=>by simp at h
 |p::P,w::vs,0,m,nd,h1,h2,hk=>by
  simp at h1 h2;subst h1;subst h2;show bindC kindOf ((p,w)::P.zip vs) m p=_;unfold bindC;rw[VM λv hv=>(ycv.mp nd).1 (List.of_mem_zip hv).1,if_neg hk]
  simp
 |p::P,w::vs,i+1,m,nd,h1,h2,hk=>by
  show bindC kindOf ((p,w)::P.zip vs) m x=_;unfold bindC;exact VN (i:=i) (ycv.mp nd).2 (by simpa using h1) (by simpa using h2) hk
def start(N:List Str)(vs:List V):St:=vs.map some++List.replicate (N.length - vs.length) none
noncomputable def D0(CX:DD)(P:Program)(w:World)(K:k6)(mg:Str->Option Value)(base:Heap)(N:List Str)(qual:Str)(scope:Scope)(f:Addr)(cd:Value)(A:Around)(outer:List Env)(s:Shared)(H:Hp)(E:XK):Cx where
 prog:=P
 w:=w
 K:=K
 mg:=mg
 base:=base
 A:=A.deeper (envOfC qual scope s.heap.objs.size f cd)
 N:=N
 s₀:=s
 H₀:=H
 env:=envOfC qual scope s.heap.objs.size f cd
 outer:=outer
 stack:=envOfC qual scope s.heap.objs.size f cd::outer
 ex:=[]
 calm:=true
 fn:=λ_=>true
 pn:=[]
 xe:=λe s'=>wpAny (model P w) (A.deeper (envOfC qual scope s.heap.objs.size f cd)) (leaving (envOfC qual scope s.heap.objs.size f cd) e) (λ_ s''=>CX outer H s E e s'') (λe' s''=>CX outer H s E e' s'') s'
theorem VA{sc:Scope}{n:Nat}{x:Str}(h:sc.names.lookup x=some .cell):∃c,(cellsFrom n sc.names []).lookup x=some c:=by
 have q:=PySem.W.cellsFrom_some sc.names n [] (.inl h);exact Option.isSome_iff_exists.mp q
theorem zed{CX:DD}{P:Program}{w:World}{K:k6}{mg:Str->Option Value}{base:Heap}{N ps:List Str}{qual:Str}{scope:Scope}{f:Addr}{cd:Value}{A:Around}{outer:List Env}{s s1:Shared}{H:Hp}{E:XK}{us:List Value}{vs:List V}
  (S:FnScope N ps scope) (hd:A.handled=none) (e0:Env0 P w K mg base A outer s H) (hl:vs.length=ps.length) (r:AR vs us)
  (x:InCallC s s.heap.objs.size (bindL (envOfC qual scope s.heap.objs.size f cd).kindOf (ps.zip us) λ_=>none) (cellsFrom (s.heap.objs.size+1) scope.names []) (bindC (envOfC qual scope s.heap.objs.size f cd).kindOf (ps.zip us) λ_=>none) s1) :
  Inv (D0 CX P w K mg base N qual scope f cd A outer s H E) [] (start N vs) H s1:=by
 have hpl:ps.length<=N.length:=by have:=congrArg List.length S.pre;rw[ybp]at this;omega
 obtain⟨h1,tk,rfl,hk⟩:=x.done;have noA:∀b:Addr,b∉(D0 CX P w K mg base N qual scope f cd A outer s H E).ex:=λb z=>absurd (show b∈([]:List Addr) from z) (by simp)
 refine⟨⟨e0.mod,S.kind,rfl,rfl,ya8 _,λy z c h1 h2=>?_,λy hy=>?_,λy c _ h=>?_,λ_=>hd,Around.frames_deeper e0.frames,.inr ⟨rfl,rfl⟩,λb z=>absurd z (noA b),e0.bs,e0.bsz,λb _ _=>noA b,λb z=>absurd z (noA b),e0.funs,e0.frf⟩,
  rfl,e0.bare,Un.kept hk,⟨_,x.toInCall.ns,λi y v h1 h2 h3=>?_⟩,λy c h=>⟨_,x.cell y c h⟩,e0.hok.fresh (ya8 _),λy c h=>?_,λp hp=>absurd (show p∈([]:List (Addr×Obj)) from hp) (by simp),e0.hok.kept hk,?_⟩
 .exact name_of_addr x.apart (ybx h1) (ybx h2)
 .have hy:scope.names.lookup y=some .cell\/scope.names.lookup y=some .free:=hy
  rcases hy with hy|hy
  .exact VA hy
  .exact absurd rfl (S.nofree _ (ybx hy))
 .exact ydh (x.above y c (ybx h))
 .have hi:i<vs.length:=by
   unfold start at h2
   by_cases hi:i<vs.length
   .exact hi
   .rw[yaz (by simpa using hi)]at h2
    rw[yd3]at h2;split at h2<;>cases h2
  have ha:vs[i]?=some v:=by
   unfold start at h2;rw[yax (by simpa using hi),ya4]at h2
   cases e:vs[i]? with
   |none=>rw[e]at h2;cases h2
   |some a=>rw[e]at h2;cases h2;rfl
  obtain⟨u,hu,rv⟩:=r.get ha
  have hp:ps[i]?=some y:=by
   rw[<- S.pre,ycy (by omega)];exact h1
  have ndP:ps.Nodup:=by rw[<- S.pre];exact S.nd.sublist (List.take_sublist _ _)
  refine⟨u,rv,?_⟩
  rcases S.par y (yak hp) with k|k
  .exact .inl ⟨k,VL ndP hp hu k⟩
  .obtain⟨c,e⟩:=VA (n:=s.heap.objs.size+1) k;refine .inr ⟨.inl k,c,e,?_⟩;have q:=x.cell y c e;rw[VN ndP hp hu (by show scope.names.lookup y≠_;rw[k];decide)]at q
   exact q
 .exact e0.hok.fresh (ydh (x.above y c (ybx h)))
 .unfold start;show _=N.length;rw[yac,ya1,ybz]
  omega
theorem Nz{CX:DD}{P:Program}{w:World}{K:k6}{mg:Str->Option Value}{base:Heap}{k:Nat}{f:Addr}{name qual:Str}{params:Arguments}{body:List Stmt}{scope:Scope}{dV kV doc pm cdv ct oc:Value}{an od:Option Addr}
  {osl:Array (Option Value)} {N ps:List Str} {sp:Sp} (lk:K.lookup f=some ⟨oc,od,.func (PySem.W.fnOf name qual params body scope dV kV doc pm an cdv ct),osl⟩) (hcd:PySem.W.codeIn K cdv qual=true) (S:FnScope N ps scope)
  (len:∀vs H Q E,sp vs H Q E->vs.length=ps.length)
  (hbody : ∀ (A : Around) (outer : List Env) (s : Shared) (H : Hp) (vs : List V) (Q : VK) (E : XK), Room k (A.deeper (envOfC qual scope s.heap.objs.size f cdv)) -> sp vs H Q E ->
   ∃t,BC (D0 CX P w K mg base N qual scope f cdv A outer s H E) body t/\t { nx:=λ_ H'=>Q .non H',rt:=Q } (start N vs) H) :
  FnOk P w K mg base CX (k+1) f (PySem.W.fnOf name qual params body scope dV kV doc pm an cdv ct) ps sp:=by
 refine⟨len,λA outer s H args us vs Q E hr e0 hb r hsp=>?_⟩
 have hl:=len _ _ _ _ hsp;have KX:K.In s.heap:=e0.mod.kin.keeps λb o e=>(e0.bs b o e).1
 have BE:s.heap.NoLimit:=e0.mod.nolimit.keeps λb o e=>(e0.bs b o e).1
 have hkind:∀y∈ps.zip us,scope.names.lookup y.1=some .local\/(scope.names.lookup y.1=some .cell/\((cellsFrom (s.heap.objs.size+1) scope.names []).lookup y.1).isSome=true):=λ⟨n,v⟩ hy=>by
  rcases S.par n (List.of_mem_zip hy).1 with q|q
  .exact .inl q
  .exact .inr ⟨q,PySem.W.cellsFrom_some _ _ _ (.inl q)⟩
 refine codeAny_call_function hr.depth (KX _ _ lk) rfl S.co S.gen rfl (PySem.W.codeRec_of KX hcd) (hb _ _ _ _ ?_);refine wpAny_newFunctionEnv_cells S.kind hkind λenv he s1 x=>?_
 subst he;refine⟨BE.keeps x.toInCall.keep,codeAny_func ?_⟩;obtain⟨t,ht,hq⟩:=hbody A outer s H vs Q E (hr.deeper _) hsp;have I:Inv (D0 CX P w K mg base N qual scope f cdv A outer s H E) [] (start N vs) H s1:=zed S hr.hd e0 hl r x;refine yeb (ht [] s1 (start N vs) H _ I hq) (λfl s' hs=>?_) λe s' hs=>hs
 have Ay:∀{σ':St} {H':Hp} {v:V} {u:Value},Inv (D0 CX P w K mg base N qual scope f cdv A outer s H E) [] σ' H' s'->RelV v u->Q v H'->CE outer P w H s Q u s' :=
  λ{σ' H' v u} J rv q=>⟨v,H',J.os,J.bare,J.base,J.hok,rv,q⟩
 cases fl with
 |ret u =>
  obtain⟨v,σ',H',J,rv,q⟩:=hs;exact Ay J rv q
 |next =>
  obtain⟨σ',H',J,q⟩:=hs;exact Ay (v:=V.non) (u:=Value.none) J rfl q
 |brk =>
  obtain⟨_,_,_,q⟩:=hs;exact False.elim q
 |cont =>
  obtain⟨_,_,_,q⟩:=hs;exact False.elim q
section
variable {X:Cx}{x:Str}{p pos:Pos}{e:Expr}{es:List Expr}{t:TA}{id T:String}{r:List V->Hp->VK->Prop}
def QZ(r:List V->Hp->VK->Prop)(t:TA):TE:=λσ H Q=>t σ H λvs H1=>r vs H1 Q
theorem JU(hc:BZ X (.builtin id) r)(hg:Gl X x)(hm:X.mg x=none)(hv:bootBuiltins x=some (.builtin id))(ha:PA X (e::es) t)(hn:x≠"__name__":=by decide)(hdb:(x == ("__debug__":Str))=false:=by decide)
  (he:starEach (e::es) X.env=(false,eval e X.env)::starEach es X.env:=by rfl) (hpl:(backTo pos (starEach es X.env)).any (·.1)=false:=by rfl):PE X (.Call (.Name x p) (e::es) [] pos) (QZ r t):=by
 intro pins s σ H Q I h;refine yem (Fv I hg hm hv ?_ hn hdb);exact PyProof.Rows.callWith_builtin1 (AO (ha pos pins s σ H _ I h) λus s1 ⟨vs,H1,I1,r1,q1⟩=>hc pins s1 σ H1 vs us Q I1 r1 q1) he hpl
theorem RT(hc:BZ X (.type T) r)(hg:Gl X x)(hm:X.mg x=none)(hv:bootBuiltins x=some (.type T))(ha:PA X (e::es) t)(hn:x≠"__name__":=by decide)(hdb:(x == ("__debug__":Str))=false:=by decide)
  (he:starEach (e::es) X.env=(false,eval e X.env)::starEach es X.env:=by rfl) (hpl:(backTo pos (starEach es X.env)).any (·.1)=false:=by rfl):PE X (.Call (.Name x p) (e::es) [] pos) (QZ r t):=by
 intro pins s σ H Q I h;refine yem (Fv I hg hm hv ?_ hn hdb);exact ybv (AO (ha pos pins s σ H _ I h) λus s1 ⟨vs,H1,I1,r1,q1⟩=>hc pins s1 σ H1 vs us Q I1 r1 q1) he hpl
end
end L2
namespace HT
open PySem PyProof.Rows
section
open PySem.SeqAt
open PySem.AutoSeq1 (wpAny_loadPart')
open PySem.MeetsSeq PySem.MeetsSeq2 PySem.MeetsSeq3
end
section
variable {prog:Program}{w:World}{A:Around}{E:Value->Shared->Prop}{s:Shared}
noncomputable def sIx(n d:Nat):Option Int->Nat
 |none=>d
 |some v=>if v<0 then (v+(n:Int)).toNat else min v.toNat n
theorem sIx_none(n d:Nat):sIx n d none=d:=rfl
theorem sIx_nat(n d k:Nat):sIx n d (some (k:Int))=min k n:=by
 show(if (k:Int)<0 then ((k:Int)+(n:Int)).toNat else min (k:Int).toNat n)=min k n
 rw[if_neg (by omega),ye0]
end
end HT
namespace L2
open PySem PySem.Spec PyProof.Rows
abbrev TO:=St->Hp->(Option Int->Hp->Prop)->Prop
def PO(X:Cx)(e:Option Expr)(t:TO):Prop :=
 ∀(pins:List (Addr×Obj)) (s:Shared) (σ:St) (H:Hp) (Q:Option Int->Hp->Prop),Inv X pins σ H s->t σ H Q ->
  wpAny (model X.prog X.w) X.A (evalPart e X.env) (λu s'=>∃o H',Inv X pins σ H' s'/\IsPart u o/\Q o H') X.xe s
def zgx:TO:=λ_ H Q=>Q none H
def tPart(t:TE):TO:=λσ H Q=>t σ H λx H1=>∃i,x=.int i/\Q (some i) H1
section
variable {X:Cx}{e:Expr}{te:TE}{lo hi:Option Expr}{tl th:TO}{pos p2:Pos}
theorem zhs:PO X none zgx:=by
 intro pins s σ H Q I h;rw[evalPart_none];exact yeg ⟨none,H,I,.none,h⟩
theorem zhr(h:PE X e te):PO X (some e) (tPart te):=by
 intro pins s σ H Q I hw;rw[evalPart_some];refine AO (h pins s σ H _ I hw) λu s1 ⟨x,H1,I1,r1,q1⟩=>?_
 obtain⟨i,rfl,q⟩:=q1;obtain⟨t,rfl⟩:=r1;exact⟨some i,H1,I1,.int i t,q⟩
def GF(X:Cx)(r:V->Option Int->Option Int->Hp->VK->Prop):Prop :=
 ∀(pins:List (Addr×Obj)) (s:Shared) (σ:St) (H:Hp) (x:V) (v vl vu:Value) (lo hi:Option Int) (sl:Addr) (Q:VK),Inv X pins σ H s->RelV x v->s.heap.IsSliceOf sl vl vu .none->IsPart vl lo->IsPart vu hi->r x lo hi H Q ->
  ∃T id,typeLookup (.type T) "__getitem__"=pure (some (.builtin id))/\s.TypeIs v T/\wpAny (model X.prog X.w) X.A (getItem v (.ref sl)) (EP X pins σ Q) X.xe s
theorem GF.or{r r':V->Option Int->Option Int->Hp->VK->Prop}(h:GF X r)(h':GF X r'):GF X (λx lo hi H Q=>r x lo hi H Q\/r' x lo hi H Q):=by
 intro pins s σ H x v vl vu lo hi sl Q I rx hs pl pu q
 rcases q with q|q
 .exact h pins s σ H x v vl vu lo hi sl Q I rx hs pl pu q
 .exact h' pins s σ H x v vl vu lo hi sl Q I rx hs pl pu q
def tSl(r:V->Option Int->Option Int->Hp->VK->Prop)(te:TE)(tl th:TO):TE:=λσ H Q=>te σ H λx H1=>tl σ H1 λl H2=>th σ H2 λu H3=>r x l u H3 Q
theorem RP{r:V->Option Int->Option Int->Hp->VK->Prop}(hr:GF X r)(he:PE X e te)(hl:PO X lo tl)(hu:PO X hi th):PE X (.Subscript e (.Slice lo hi none p2) pos) (tSl r te tl th):=by
 intro pins s σ H Q I h;refine Subscript_ (AO (he pins s σ H _ I h) λv s1 ⟨x,H1,I1,r1,q1⟩=>?_)
 refine wpAny_Slice (AO (hl pins s1 σ H1 _ I1 q1) λvl s2 ⟨l,H2,I2,pl,q2⟩=>AO (hu pins s2 σ H2 _ I2 q2) λvu s3 ⟨u,H3,I3,pu,q3⟩=>?_)
 rw[evalPart_none];refine yeg ?_;have I4:Inv X pins σ H3 { s3 with heap:=s3.heap.push { cls:=.type "slice",data:=.fields #[vl,vu,.none] } }:=I3.kept (t':=s3.toks) λb ob q=>yab _ q
 obtain⟨T,id,hT,ht,hg⟩:=hr pins { s3 with heap:=s3.heap.push { cls:=.type "slice",data:=.fields #[vl,vu,.none] } } σ H3 x v vl vu l u s3.heap.objs.size Q I4 r1 (Heap.IsSliceOf.new ..) pl pu q3
 show wpAny (model X.prog X.w) X.A (subscriptTail e (.Slice lo hi none p2) v (.ref s3.heap.objs.size)) (EP X pins σ Q) X.xe { s3 with heap:=s3.heap.push { cls:=.type "slice",data:=.fields #[vl,vu,.none] } }
 exact tail_any (ops:=[.ref s3.heap.objs.size,v]) ht hT hg (by with_unfolding_all rfl)
def Gf(xs:List V)(lo hi:Option Int):List V:=(xs.drop (HT.sIx xs.length 0 lo)).take (HT.sIx xs.length xs.length hi - HT.sIx xs.length 0 lo)
theorem zcr(xs:List V)(lo hi:Option Int):(Gf xs lo hi).length<=xs.length:=by
 unfold Gf;rw[ybp,List.length_drop]
 omega
end
noncomputable def CU(n:Nat)(i:Int):Option Nat:=if 0<=i then (if i<n then some i.toNat else none) else if -(n:Int)<=i then some (i+n).toNat else none
def Ab{α:Type}(xs:List α)(i:Int):Option α:=(CU xs.length i).bind λj=>xs[j]?
theorem N0{n:Nat}{i:Int}{j:Nat}(h:CU n i=some j):seqIndex? i n=some j/\j<n/\-(n:Int)<=i/\i<n:=by
 unfold CU at h
 by_cases h0:0<=i
 .rw[if_pos h0]at h
  by_cases h1:i<n
  .rw[if_pos h1]at h;have e:i.toNat=j:=yar h;exact⟨by rw[seqIndex_of h0 h1,e],by omega,by omega,h1⟩
  .rw[if_neg h1]at h;cases h
 .rw[if_neg h0]at h
  by_cases h1:-(n:Int)<=i
  .rw[if_pos h1]at h;have e:(i+n).toNat=j:=yar h;exact⟨by rw[seqIndex_neg (by omega) h1,e],by omega,h1,by omega⟩
  .rw[if_neg h1]at h;cases h
theorem PZ{α:Type}{xs:List α}{i:Int}{v:α}(h:Ab xs i=some v):∃j,seqIndex? i xs.length=some j/\xs[j]?=some v/\j<xs.length/\-(xs.length:Int)<=i/\i<xs.length:=by
 unfold Ab at h;cases e:CU xs.length i with
 |none=>rw[e]at h;cases h
 |some j =>
  rw[e]at h;obtain⟨h1,h2,h3,h4⟩:=N0 e;exact⟨j,h1,h,h2,h3,h4⟩
theorem Dw{α:Type}{xs:List α}{j:Nat}{v:α}(h:xs[j]?=some v):Ab xs (j:Int)=some v:=by
 have hj:j<xs.length:=(ya5.mp h).1
 have e:CU xs.length (j:Int)=some j:=by
  unfold CU;rw[if_pos (by omega),if_pos (by omega)];simp
 unfold Ab;rw[e];exact h
def Km(b:Expr):Prop:=∀o i,subscripted b false o i=operate [o,i] (getItem o i)
def EV(X:Cx)(r:R2):Prop :=
 ∀(value slice:Expr) (pins:List (Addr×Obj)) (s:Shared) (σ:St) (H:Hp) (x y:V) (v u:Value) (Q:VK),Inv X pins σ H s->RelV x v->RelV y u->r x y H Q ->
  subscripted slice false v u=operate [v,u] (getItem v u)->wpAny (model X.prog X.w) X.A (subscriptTail value slice v u) (EP X pins σ Q) X.xe s
def Gy(X:Cx)(id:String)(r:V->List V->Hp->VK->Prop):Prop :=
 ∀(pins:List (Addr×Obj)) (s:Shared) (σ:St) (H:Hp) (x:V) (xs:List V) (v:Value) (us:List Value) (Q:VK),Inv X pins σ H s->RelV x v->AR xs us->r x xs H Q ->
  wpAny (model X.prog X.w) X.A (call (.builtin id) (v::us)) (EP X pins σ Q) X.xe s
section
variable {X:Cx}{a b:Expr}{ta tb:TE}{pos:Pos}
theorem EV.or{r r':R2}(h:EV X r)(h':EV X r'):EV X (λx y H Q=>r x y H Q\/r' x y H Q):=by
 intro value slice pins s σ H x y v u Q I rx ry q hs
 rcases q with q|q
 .exact h value slice pins s σ H x y v u Q I rx ry q hs
 .exact h' value slice pins s σ H x y v u Q I rx ry q hs
theorem Gy.or{id:String}{r r':V->List V->Hp->VK->Prop}(h:Gy X id r)(h':Gy X id r'):Gy X id (λx xs H Q=>r x xs H Q\/r' x xs H Q):=by
 intro pins s σ H x xs v us Q I rx rs q
 rcases q with q|q
 .exact h pins s σ H x xs v us Q I rx rs q
 .exact h' pins s σ H x xs v us Q I rx rs q
theorem RQ{r:R2}(hr:EV X r)(ha:PE X a ta)(hb:PE X b tb)(hs:Km b):PE X (.Subscript a b pos) (GU r ta tb):=by
 intro pins s σ H Q I h;exact Subscript_ (PV ha hb I h λv u s2 x y H2 I2 rx ry q=>hr a b pins s2 σ H2 x y v u Q I2 rx ry q (hs _ _))
def RE(K:k6):R2:=λx y H Q=>∃p xs i v,x=.ref p/\y=.int i/\AS K H p xs/\Ab xs i=some v/\Q v H
def RC(K:k6):R2:=λx y H Q=>∃p xs i v,x=.ref p/\y=.int i/\B7 K H p xs/\Ab xs i=some v/\Q v H
def RD:R2:=λx y H Q=>∃z i c,x=.str z/\y=.int i/\z.length<=sizeLine/\Ab z.cps.toList i=some c/\Q (.str ⟨#[c]⟩) H
theorem zj0:EV X (RE X.K):=by
 intro value slice pins s σ H x y v u Q I rx ry h hs;obtain⟨p,xs,i,z,rfl,rfl,hq,he,q⟩:=h;cases rx;obtain⟨t,rfl⟩:=ry;obtain⟨its,r,pl,hz⟩:=I.list hq;obtain⟨j,h1,h2,h3,h4,h5⟩:=PZ he;obtain⟨w,ew,rw'⟩:=r.get h2;have hl:=r.length;have hn:=Hh;have Ay:EP X pins σ Q w s:=⟨z,H,I,rw',q⟩
 by_cases h0:0<=i
 .have hj:i.toNat=j:=by
   rw[seqIndex_of h0 h5]at h1;exact yar h1
  exact item_listR pl.isList h0 (by omega) (by rw[hj];simpa using ew) Ay hs
 .have hj:(i+(its.toArray.size:Int)).toNat=j:=by
   rw[seqIndex_neg (by omega) h4]at h1
   rw[yah,<- hl];exact yar h1
  exact subscriptTail_builtinR (x:=w) pl.isList.typeIs slot_list_getitem.lookup
   (wpAny_getItem_list_neg (Q:=λr s'=>r=w/\EP X pins σ Q r s') pl.isList (by omega) (by rw[yah]<;>omega) (by omega) (by rw[hj];simpa using ew) ⟨rfl,Ay⟩) hs
theorem zmq:EV X (RC X.K):=by
 intro value slice pins s σ H x y v u Q I rx ry h hs;obtain⟨p,xs,i,z,rfl,rfl,hq,he,q⟩:=h;cases rx;obtain⟨t,rfl⟩:=ry;obtain⟨its,r,pl,hz⟩:=I.tuple hq;obtain⟨j,h1,h2,h3,h4,h5⟩:=PZ he;obtain⟨w,ew,rw'⟩:=r.get h2;have hl:=r.length;have hn:=Hh;have Ay:EP X pins σ Q w s:=⟨z,H,I,rw',q⟩
 exact subscriptTail_builtinR (x:=w) pl.typeIs slot_tuple_getitem.lookup
  (getItem_tuple (j:=j) (Q:=λr s'=>r=w/\EP X pins σ Q r s') pl (by omega) (by omega) (by rw[yah,<- hl];exact h1) (by simpa using ew) ⟨rfl,Ay⟩) hs
theorem zmr:EV X RD:=by
 intro value slice pins s σ H x y v u Q I rx ry h hs;obtain⟨z,i,c,rfl,rfl,hz,he,q⟩:=h;obtain⟨t,rfl⟩:=rx;obtain⟨t',rfl⟩:=ry;obtain⟨j,h1,h2,h3,h4,h5⟩:=PZ he;have hl:z.cps.toList.length=z.length:=by simp[Str.length]
 rw[hl]at h1 h4 h5;have hn:=Hh
 exact tail_any (yen s z t) slot_str_getitem.lookup (getItem_str (c:=c) (by
  have e1:decide (i < -(2 ^ 63:Int))=false:=yea (by omega)
  have e2:decide (i ≥ 2 ^ 63)=false:=yea (by omega)
  rw[e1,e2,ydv]) (by rw[h1];simpa using h2) ⟨.str ⟨#[c]⟩,H,I.tok _,⟨_,rfl⟩,q⟩) hs
def RF(K:k6):R2:=λx y H Q=>RE K x y H Q\/RC K x y H Q\/RD x y H Q
theorem zms:EV X (RF X.K):=zj0.or (zmq.or zmr)
theorem zd9(its:List Value)(n j:Nat)(u:Value):Obj.mapSeq (·.setIfInBounds j u) { cls:=.type "list",data:=.seq its.toArray n }={ cls:=.type "list",data:=.seq (its.set j u).toArray n }:=by
 simp[Obj.mapSeq]
theorem Inv.lst{pins:List (Addr×Obj)}{σ:St}{H:Hp}{s:Shared}{p:Addr}{xs:List V}(I:Inv X pins σ H s)(h:H p=some (.lst xs)) :
  ∃(its:List Value) (n:Nat),AR xs its/\s.heap.get? p=some { cls:=.type "list",data:=.seq its.toArray n }/\xs.length<=sizeLine:=by
 obtain⟨z,its,n,r,e⟩:=I.hok p _ h;exact⟨its,n,r,e,z⟩
theorem Inv.lstUpd{pins:List (Addr×Obj)}{σ:St}{H:Hp}{s:Shared}{p:Addr}{xs ys:List V}{its its':List Value}{n n':Nat}{f:Obj->Obj}(I:Inv X pins σ H s)(h:H p=some (.lst xs))
  (ho:s.heap.get? p=some { cls:=.type "list",data:=.seq its.toArray n }) (hf:f { cls:=.type "list",data:=.seq its.toArray n }={ cls:=.type "list",data:=.seq its'.toArray n' }) (r:AR ys its') (hz:ys.length<=sizeLine) (t:Nat) :
  Inv X pins σ (upd H p (.lst ys)) { s with heap:=s.heap.update p f,toks:=t }:=by
 have e:(s.heap.update p f).get? p=some { cls:=.type "list",data:=.seq its'.toArray n' }:=by
  rw[yco f ho (by rw[hf]<;>rfl),hf]
 refine I.write (x:=p) (e:=p) (by rw[h];trivial) (.inl rfl) (λb u hb q=>(ybf _ _ (yb1 hb)).trans q) ⟨_,e⟩ ?_
 exact⟨hz,its',n',r,e⟩
def rSetL:V->V->V->Hp->(Hp->Prop)->Prop:=λo i v H Q=>∃p xs k j,o=.ref p/\i=.int k/\H p=some (.lst xs)/\CU xs.length k=some j/\Q (upd H p (.lst (xs.set j v)))
theorem zf9:P5 X rSetL:=by
 intro pins s σ H o i v ov iv u Q I ro ri rv h;obtain⟨p,xs,k,j,rfl,rfl,hp,hj,q⟩:=h;cases ro;obtain⟨t,rfl⟩:=ri;obtain⟨its,n,r,ho,hz⟩:=I.lst hp;obtain⟨h1,h2,h3,h4⟩:=N0 hj;have hl:=r.length;have hn:=Hh
 have I':Inv X pins σ (upd H p (.lst (xs.set j v))) { s with heap:=s.heap.update p (Obj.mapSeq (·.setIfInBounds j u)) } :=
  I.lstUpd hp ho (zd9 its n j u) (r.set rv j) (by rw[yc7];exact hz) s.toks
 by_cases h0:0<=k
 .have hk:k.toNat=j:=by
   rw[seqIndex_of h0 h4]at h1;exact yar h1
  exact PySem.W.ki_setAt ho h0 (by omega) (by rw[yah,<- hl];exact h4) (by rw[hk];exact⟨_,I',q⟩)
 .have hk:(k+(its.toArray.size:Int)).toNat=j:=by
   rw[seqIndex_neg (by omega) h3]at h1
   rw[yah,<- hl];exact yar h1
  exact PySem.W.ki_setBack ho (by omega) (by rw[yah,<- hl];exact h3) (by omega) (by rw[hk];exact⟨_,I',q⟩)
theorem zbt(lo hi:Option Int)(n:Nat):(sliceBounds lo hi none n).1=((HT.sIx n 0 lo:Nat):Int)/\(sliceBounds lo hi none n).2.1=((HT.sIx n n hi:Nat):Int)/\(sliceBounds lo hi none n).2.2=1:=by
 refine⟨?_,?_,rfl⟩
 .cases lo with
  |none=>simp[sliceBounds,HT.sIx]
  |some i =>
   simp only[sliceBounds,HT.sIx,Option.getD_none,show(1:Int) > 0 by decide,yeo]
   by_cases h:i<0
   .simp only[h,yeo]<;>omega
   .simp only[h,yep]<;>omega
 .cases hi with
  |none=>simp[sliceBounds,HT.sIx]
  |some i =>
   simp only[sliceBounds,HT.sIx,Option.getD_none,show(1:Int) > 0 by decide,yeo]
   by_cases h:i<0
   .simp only[h,yeo]<;>omega
   .simp only[h,yep]<;>omega
theorem zbc(its:List Value)(lo hi:Option Int):slicePick its.toArray lo hi none=((its.drop (HT.sIx its.length 0 lo)).take (HT.sIx its.length its.length hi - HT.sIx its.length 0 lo)).toArray:=by
 obtain⟨h1,h2,h3⟩:=zbt lo hi its.toArray.size;unfold slicePick;rw[h1,h2,h3];simp only[sliceRange_one,pick_run,yah]<;>rfl
def RB(K:k6):V->Option Int->Option Int->Hp->VK->Prop:=λx lo hi H Q=>∃a xs,x=.ref a/\AS K H a xs/\∀p,H p=none->Q (.ref p) (upd H p (.lst (Gf xs lo hi)))
theorem zh4:GF X (RB X.K):=by
 intro pins s σ H x v vl vu lo hi sl Q I rx hs pl pu h;obtain⟨a,xs,rfl,hx,q⟩:=h;cases rx;obtain⟨its,r,ht,hz⟩:=I.list hx;have hlen:=r.length;refine⟨"list",_,slot_list_getitem.lookup,ht.isList.typeIs,?_⟩;refine wpAny_getItem_list_slice ht.isList hs pl pu .none (by simp) ?_ (by rw[yah]<;>omega)
 rw[zbc,<- hlen];refine⟨.ref s.heap.objs.size,_,I.laid (t':=s.toks) (o:=.lst (Gf xs lo hi)) (λb ob q=>yab _ q) (ya8 _) ?_,rfl,q _ (I.hok.fresh (ya8 _))⟩
 exact⟨yaf (zcr xs lo hi) hz,_,0,(r.drop (HT.sIx xs.length 0 lo)).take (HT.sIx xs.length xs.length hi - HT.sIx xs.length 0 lo),yau _ rfl⟩
theorem BZ.or{f:Value}{r r':List V->Hp->VK->Prop}(h:BZ X f r)(h':BZ X f r'):BZ X f (λxs H Q=>r xs H Q\/r' xs H Q):=by
 intro pins s σ H xs us Q I rs q
 rcases q with q|q
 .exact h pins s σ H xs us Q I rs q
 .exact h' pins s σ H xs us Q I rs q
theorem zcc:BZ X (.type "list") (λxs H Q=>∃p ys,xs=[.ref p]/\(AS X.K H p ys\/B7 X.K H p ys)/\∀l,H l=none->Q (.ref l) (upd H l (.lst ys))):=by
 intro pins s σ H xs us Q I r h;obtain⟨p,ys,rfl,hq,q⟩:=h;obtain⟨u,rfl,rx⟩:=De r;cases rx
 have Ay:∀(its:List Value),AR ys its->ys.length<=sizeLine->∀(h':Heap) (c':Nat),(∀b o',s.heap.get? b=some o'->h'.get? b=some o') ->
   h'.get? s.heap.objs.size=some { cls:=.type "list",dict:=none,data:=.seq its.toArray c',slots:=#[] }->EP X pins σ Q (.ref s.heap.objs.size) { s with heap:=h' }:=λits r' hz h' c' kp e =>
  ⟨.ref s.heap.objs.size,_,I.laid (t':=s.toks) kp (ya8 _) (show BR X.prog X.w _ h' _ (.lst ys) from⟨hz,its,c',r',e⟩),rfl,q _ (I.hok.fresh (ya8 _))⟩
 rcases hq with hq|hq
 .obtain⟨its,r',pl,hz⟩:=I.list hq;have hlen:=r'.length;obtain⟨o,ho,hc,n,hd⟩:=pl.isList;exact call_list_seq p (.inl rfl) ho hc hd (λh' c' kp e=>Ay its r' hz h' c' kp e) (by simp only[yah]<;>omega)
 .obtain⟨its,r',pl,hz⟩:=I.tuple hq;have hlen:=r'.length;obtain⟨o,ho,hc,n,hd⟩:=pl;exact call_list_seq p (.inr rfl) ho hc hd (λh' c' kp e=>Ay its r' hz h' c' kp e) (by simp only[yah]<;>omega)
theorem zbr:BZ X (.type "tuple") (λxs H Q=>∃p ys,xs=[.ref p]/\((AS X.K H p ys/\∀l,H l=none->Q (.ref l) (upd H l (.tup ys)))\/(B7 X.K H p ys/\Q (.ref p) H))):=by
 intro pins s σ H xs us Q I r h;obtain⟨p,ys,rfl,h⟩:=h;obtain⟨u,rfl,rx⟩:=De r;cases rx
 rcases h with ⟨hq,q⟩|⟨hq,q⟩
 .obtain⟨its,r',pl,hz⟩:=I.list hq;have hlen:=r'.length;refine call_tuple_list pl.isList (λh' kp=>?_) (by simp only[yah]<;>omega)
  have I1:Inv X pins σ H { s with heap:=h' }:=I.kept (t':=s.toks) kp
  have I2:Inv X pins σ (upd H h'.objs.size (.tup ys)) { s with heap:=h'.push { cls:=.type "tuple",data:=.seq its.toArray } } :=
   I1.laid (t':=s.toks) (λb o e=>yab _ e) (ya8 _) (show BR X.prog X.w _ _ _ (.tup ys) from⟨hz,its,r',IsTup.new _ _⟩)
  exact⟨.ref h'.objs.size,_,I2,rfl,q _ (I1.hok.fresh (ya8 _))⟩
 .obtain⟨its,r',pl,hz⟩:=I.tuple hq;exact call_tuple_same pl ⟨.ref p,H,I,rfl,q⟩
def LJ(K:k6)(T:String)(x:V)(H:Hp):Prop:=match x with
 |.str _=>T="str"
 |.int _=>T="int"
 |.ref p=>(T="list"/\∃xs,AS K H p xs)\/(T="tuple"/\∃o,K.lookup p=some o/\o.cls=.type "tuple"/\o.dict=none) \/
   (T="dict"/\((∃kvs,H p=some (.dK kvs))\/∃kvs,H p=some (.dT kvs)))\/(T="set"/\∃S n,H p=some (.set S n))
 |_=>False
theorem Py{pins:List (Addr×Obj)}{σ:St}{H:Hp}{s:Shared}{T:String}{x:V}{v:Value}(I:Inv X pins σ H s)(r:RelV x v)(ty:LJ X.K T x H) :
  s.TypeIs v T/\∀a,v=.ref a->∃ob,s.heap.get? a=some ob/\ob.dict=none:=by
 cases x with
 |str z =>
  obtain⟨t,rfl⟩:=r;cases (show T="str" from ty);exact⟨yen s z t,λ_ e=>nomatch e⟩
 |int i =>
  obtain⟨t,rfl⟩:=r;cases (show T="int" from ty);exact⟨typeIs_int s i t,λ_ e=>nomatch e⟩
 |ref p =>
  cases r
  rcases ty with ⟨rfl,xs,hq⟩|⟨rfl,o,hk,hc,hd⟩|⟨rfl,hk⟩|⟨rfl,S,n,hk⟩
  .obtain⟨its,_,pl,_⟩:=I.list hq;refine⟨pl.isList.typeIs,λa e=>?_⟩
   cases e;obtain⟨o,n,e,c,hd,_⟩:=pl;exact⟨o,e,hd⟩
  .refine⟨⟨o,I.kIn p o hk,hc⟩,λa e=>?_⟩
   cases e;exact⟨o,I.kIn _ o hk,hd⟩
  .have z:∃o,s.heap.get? p=some o/\o.ExactDict:=by
    rcases hk with ⟨kvs,hk⟩|⟨kvs,hk⟩
    .obtain⟨_,_,_,_,o,_,_,e,ex,_⟩:=I.hok p _ hk;exact⟨o,e,ex⟩
    .obtain⟨_,_,_,_,o,_,_,e,ex,_⟩:=I.hok p _ hk;exact⟨o,e,ex⟩
   obtain⟨o,e,ex⟩:=z;refine⟨⟨o,e,ex.1⟩,λa e2=>?_⟩
   cases e2;exact⟨o,e,ex.2.1⟩
  .obtain⟨o,_,_,_,e,ex,_⟩:=I.hok p _ hk;refine⟨⟨o,e,ex.1⟩,λa e2=>?_⟩
   cases e2;exact⟨o,e,ex.2.1⟩
 |_=>exact False.elim ty
def tBM0(K:k6)(T:String)(r:V->List V->Hp->VK->Prop)(to:TE):TE:=λσ H Q=>to σ H λx H1=>LJ K T x H1/\r x [] H1 Q
def tBM(K:k6)(T:String)(r:V->List V->Hp->VK->Prop)(to:TE)(t:TA):TE:=λσ H Q=>to σ H λx H1=>LJ K T x H1/\t σ H1 λxs H2=>r x xs H2 Q
variable {o e:Expr}{es:List Expr}{to:TE}{t:TA}{name:Str}{apos cpos:Pos}{T id:String}{r:V->List V->Hp->VK->Prop}
theorem zln(pa:PlainAttrs T)(slot:Slot T name id)(hty:typeOf (.builtin id)=pure (.type "method_descriptor"))(hm:Gy X id r)(ho:PE X o to)
  (hbase:attributeBase o name X.env (eval o X.env)=eval o X.env:=by rfl) (hline:(apos.endLine == cpos.line)=true:=by rfl):PE X (.Call (.Attribute o name apos) [] [] cpos) (tBM0 X.K T r to):=by
 intro pins s σ H Q I h;refine wpAny_Call_method0_late hbase hline (AO (ho pins s σ H _ I h) λv s1 ⟨x,H1,I1,r1,ty,q1⟩=>?_)
 obtain⟨h1,h2⟩:=Py I1 r1 ty;exact⟨T,id,pa,slot,hty,h1,h2,Calls.callWith_builtin rfl (PySem.evalArgs_none (hm pins s1 σ H1 x [] v [] Q I1 r1 .nil q1))⟩
theorem JV(pa:PlainAttrs T)(slot:Slot T name id)(hty:typeOf (.builtin id)=pure (.type "method_descriptor"))(hm:Gy X id r)(ho:PE X o to)(ha:PA X (e::es) t)
  (hbase:attributeBase o name X.env (eval o X.env)=eval o X.env:=by rfl)
  (hfew : ((backTo cpos (starEach (e :: es) X.env)).all (fun x => !x.1) && (backToKw cpos (keywordEach [] X.env)).all (fun x => x.1.isSome)
   && decide ((e::es).length+([]:List Keyword).length+(if ([]:List Keyword).isEmpty then 0 else 1)<30))=true:=by rfl)
  (hline:(apos.endLine == cpos.line)=true:=by rfl) (hs:starEach (e::es) X.env=(false,eval e X.env)::starEach es X.env:=by rfl) (hplain:(backTo cpos (starEach es X.env)).any (·.1)=false:=by rfl) :
  PE X (.Call (.Attribute o name apos) (e::es) [] cpos) (tBM X.K T r to t):=by
 intro pins s σ H Q I h;refine wpAny_Call_method_late hbase hfew hline rfl (AO (ho pins s σ H _ I h) λv s1 ⟨x,H1,I1,r1,ty,q1⟩=>?_)
 obtain⟨h1,h2⟩:=Py I1 r1 ty;refine⟨T,id,pa,slot,hty,h1,h2,?_⟩;have hA:=ha cpos pins s1 σ H1 _ I1 q1;rw[hs]at hA ⊢;refine Calls.callWith_builtin (by show(false || (backTo cpos (starEach es X.env)).any (·.1))=false;rw[hplain]<;>rfl) (Calls.evalArgs_plain ?_)
 exact AO hA λus s2 ⟨vs,H2,I2,r2,q2⟩=>hm pins s2 σ H2 x vs v us Q I2 r1 r2 q2
end
def IJ(X:Cx)(id:String)(r:V->List V->Hp->VK->Prop):Prop :=
 ∀(pins:List (Addr×Obj)) (s:Shared) (σ:St) (H:Hp) (x:V) (xs:List V) (v:Value) (us:List Value) (Q:VK),Inv X pins σ H s->RelV x v->AR xs us->r x xs H Q ->
  wpAny (model X.prog X.w) X.A (call (.builtin id) (v::us)) (EP X pins σ Q) X.xe s
theorem AR.one:∀{x:V} {us:List Value},AR [x] us->∃u,us=[u]/\RelV x u
 |_,_,.cons r .nil=>⟨_,rfl,r⟩
theorem AR.two:∀{x y:V} {us:List Value},AR [x,y] us->∃u v,us=[u,v]/\RelV x u/\RelV y v
 |_,_,_,.cons r (.cons q .nil)=>⟨_,_,rfl,r,q⟩
theorem AR.zero:∀{us:List Value},AR [] us->us=[]
 |_,.nil=>rfl
theorem AR.rep{xs:List V}{us:List Value}(h:AR xs us):∀k:Nat,AR (List.replicate k xs).flatten (List.replicate k us).flatten
 |0=>.nil
 |k+1=>by
  rw[ybr,ybr,yc8,yc8];exact AR.append h (AR.rep h k)
theorem UU(its:List Value):∀(k:Nat) (acc:List Value),
  List.foldl (λx1 x2=>x1++x2) acc.toArray (List.replicate k its.toArray)=(acc++(List.replicate k its).flatten).toArray
 |0,acc=>by simp
 |k+1,acc=>by
  have e:acc.toArray++its.toArray=(acc++its).toArray:=by simp
  have e2:(acc++its)++(List.replicate k its).flatten=acc++(List.replicate (k+1) its).flatten:=by
   rw[ybr,yc8,ybq]
  rw[<- e2,<- UU its k (acc++its),<- e,ybr,List.foldl_cons]
section
variable {X:Cx}{pins:List (Addr×Obj)}{σ:St}{H:Hp}{s:Shared}{l b:Addr}{xs ys zs:List V}
theorem Inv.lset{its its':List Value}{n:Nat}{f:Array Value->Array Value}{t':Nat}(I:Inv X pins σ H s)(hH:H l=some (.lst xs))
  (e:s.heap.get? l=some { cls:=.type "list",data:=.seq its.toArray n }) (hf:f its.toArray=its'.toArray) (hv:AR ys its') (hz:ys.length<=sizeLine) :
  Inv X pins σ (upd H l (.lst ys)) { s with heap:=s.heap.update l (Obj.mapSeq f),toks:=t' }:=by
 have q:=PySem.IsL.update e f;rw[hf]at q;refine I.write (x:=l) (e:=l) (by rw[hH];exact trivial) (.inl rfl) (λb' u hb hu=>(ybf s.heap (Obj.mapSeq f) (yb1 hb)).trans hu) ⟨_,q⟩ ?_
 exact⟨hz,its',_,hv,q⟩
theorem Inv.lnew{its:List Value}{t':Nat}(I:Inv X pins σ H s)(hv:AR ys its)(hz:ys.length<=sizeLine) :
  Inv X pins σ (upd H s.heap.objs.size (.lst ys)) { s with heap:=s.heap.push { cls:=.type "list",data:=.seq its.toArray },toks:=t' } :=
 I.laid (λ_ _ q=>yab _ q) (ya8 _) ⟨hz,its,0,hv,yau _ rfl⟩
theorem Inv.fresh(I:Inv X pins σ H s):H s.heap.objs.size=none:=I.hok.fresh (ya8 _)
theorem Inv.lstM(I:Inv X pins σ H s)(hH:H l=some (.lst xs)):xs.length<=sizeLine/\∃(its:List Value) (n:Nat),AR xs its/\xs.length=its.length/\s.heap.get? l=some { cls:=.type "list",data:=.seq its.toArray n }:=by
 obtain⟨z,its,n,r,e⟩:=I.hok l _ hH;exact⟨z,its,n,r,r.length,e⟩
theorem Sb{n:Nat}(h:n<=sizeLine):Builtin.List.listTooLong n=false:=by
 unfold Builtin.List.listTooLong;exact yea (by omega)
end
section
variable {X:Cx}
def zhh:V->List V->Hp->VK->Prop:=λx vs H Q=>∃l xs y,x=.ref l/\vs=[y]/\H l=some (.lst xs)/\xs.length<sizeLine/\Q .non (upd H l (.lst (xs++[y])))
theorem ze5:IJ X "list.append" zhh:=by
 intro pins s σ H x vs v us Q I rx rv h;obtain⟨l,xs,y,rfl,rfl,hH,hz,q⟩:=h;cases rx;obtain⟨u,rfl,ru⟩:=rv.one;obtain⟨z,its,n,r,hl,e⟩:=I.lstM hH;refine yeq F.slot_list_append ⟨_,e,rfl⟩ F.entry_list_append (F.args_list_append_2 _ _) (PySem.list_append l its.toArray n u (by rw[yah];omega)) ⟨e,?_⟩
 refine⟨.non,_,I.lset (its':=its++[u]) hH e (by simp) (r.append (.cons ru .nil)) ?_,rfl,q⟩
 rw[yac,ybi]
 omega
def zhg:V->List V->Hp->VK->Prop:=λx vs H Q=>∃l b xs zs,x=.ref l/\vs=[.ref b]/\H l=some (.lst xs)/\H b=some (.lst zs)/\xs.length+zs.length<=sizeLine/\Q .non (upd H l (.lst (xs++zs)))
theorem ze4:IJ X "list.extend" zhg:=by
 intro pins s σ H x vs v us Q I rx rv h;obtain⟨l,b,xs,zs,rfl,rfl,hH,hB,hz,q⟩:=h;cases rx;obtain⟨u,rfl,ru⟩:=rv.one;cases ru;obtain⟨z,its,n,r,hl,e⟩:=I.lstM hH;obtain⟨z2,its2,n2,r2,hl2,e2⟩:=I.lstM hB;have hsz:its.toArray.size+its2.toArray.size<=sizeLine:=by rw[yah,yah];omega
 have hlong:¬ (!its.toArray.isEmpty && Builtin.List.listTooLong (its.toArray.size+its2.toArray.size))=true:=by
  rw[Sb hsz,Bool.and_false];exact ybm
 refine yeq F.slot_list_extend ⟨_,e,rfl⟩ F.entry_list_extend (F.args_list_extend_2 _ _)
  (AutoSeq1.list_extend_list_list_0 l its.toArray n b its2.toArray n2 hlong (by rw[yah];omega) (by omega)) ⟨e,e2,?_⟩
 refine⟨.non,_,I.lset (its':=its++its2) hH e (by simp) (r.append r2) ?_,rfl,q⟩
 rw[yac]
 omega
def zl0:V->List V->Hp->VK->Prop:=λx vs H Q=>∃l xs,x=.ref l/\vs=[]/\H l=some (.lst xs)/\Q .non (upd H l (.lst []))
theorem zg6:IJ X "list.clear" zl0:=by
 intro pins s σ H x vs v us Q I rx rv h;obtain⟨l,xs,rfl,rfl,hH,q⟩:=h;cases rx;have hus:=rv.zero;subst hus;obtain⟨z,its,n,r,hl,e⟩:=I.lstM hH;refine yeq F.slot_list_clear ⟨_,e,rfl⟩ F.entry_list_clear (F.args_list_clear_1 _) (AutoSeq1.list_clear_list_0 l its.toArray n (by rw[yah];omega)) ⟨e,?_⟩
 exact⟨.non,_,I.lset (its':=[]) (ys:=[]) hH e rfl .nil (yba _),rfl,q⟩
def rCat:R2:=λx y H Q=>∃l b xs zs,x=.ref l/\y=.ref b/\H l=some (.lst xs)/\H b=some (.lst zs)/\xs.length+zs.length<=sizeLine/\∀p,H p=none->Q (.ref p) (upd H p (.lst (xs++zs)))
theorem zlv:A2 X (binaryOp .Add) rCat:=by
 intro pins s σ H x y v u Q I rx ry h;obtain⟨l,b,xs,zs,rfl,rfl,hH,hB,hz,q⟩:=h;cases rx;cases ry;obtain⟨z,its,n,r,hl,e⟩:=I.lstM hH;obtain⟨z2,its2,n2,r2,hl2,e2⟩:=I.lstM hB;refine PySem.P.add_list e e2 ?_ (by rw[yah,yah];omega)
 have ea:its.toArray++its2.toArray=(its++its2).toArray:=by simp
 rw[ea];exact⟨.ref _,_,I.lnew (t':=s.toks) (r.append r2) (by rw[yac];omega),rfl,q _ I.fresh⟩
def rRep:R2:=λx y H Q=>∃l k xs,x=.ref l/\y=.int k/\H l=some (.lst xs)/\-(2 ^ 63)<=k/\k<2 ^ 63/\xs.length * k.toNat<=sizeLine /\
 ∀p,H p=none->Q (.ref p) (upd H p (.lst (List.replicate k.toNat xs).flatten))
theorem zit{α:Type}(xs:List α)(k:Nat):(List.replicate k xs).flatten.length=k * xs.length:=by
 induction k with
 |zero=>simp
 |succ k ih=>rw[ybr,yc8,yac,ih,Nat.succ_mul,Nat.add_comm]
theorem zlr:A2 X (binaryOp .Mult) rRep:=by
 intro pins s σ H x y v u Q I rx ry h;obtain⟨l,k,xs,rfl,rfl,hH,h1,h2,hz,q⟩:=h;cases rx;obtain⟨t,rfl⟩:=ry;obtain⟨z,its,n,r,hl,e⟩:=I.lstM hH;have hlen:its.toArray.size * k.toNat<=sizeLine:=by rw[yah,<- hl];exact hz
 have hcap:¬ its.toArray.size * k.toNat > (2 ^ 63 - 1) / 8:=by
  have:(sizeLine:Nat)<=(2 ^ 63 - 1) / 8:=by decide
  omega
 have hfit:¬ (!Builtin.List.listFitsIndex k)=true:=by
  rw[fitsIndex_both h1 h2];exact ybm
 have hlong:¬ Builtin.List.listTooLong (its.toArray.size * k.toNat)=true:=by
  rw[Sb hlen];exact ybm
 have hnew:List.foldl (λx1 x2=>x1++x2) #[] (List.replicate (if its.toArray.isEmpty=true then 0 else k.toNat) its.toArray)=(List.replicate k.toNat its).flatten.toArray:=by
  have f0:∀m:Nat,List.foldl (λx1 x2=>x1++x2) #[] (List.replicate m its.toArray)=(List.replicate m its).flatten.toArray:=λm=>by
   have:=UU its m [];rw[ybe]at this;exact this
  rw[f0];cases its with
  |nil=>simp
  |cons a r'=>rw[if_neg (by simp)]
 refine wpAny_binaryOp_repeat_ref (T:="list") (U:="int") (by decide) ⟨_,e,rfl⟩ (λs'=>typeIs_int s' k t) noFill_list_mul F.fills_int_mul F.slot_int_rmul repeat_list F.slot_int_index.lookup
  (yeq F.slot_int_rmul (typeIs_int s k t) F.entry_int_rmul (F.args_int_rmul_2 _ _) (int___rmul___int_list k t l its.toArray n)
   ⟨e,rfl,⟨_,e,rfl⟩,yeq F.slot_list_mul ⟨_,e,rfl⟩ F.entry_list_mul (F.args_list_mul_2 _ _) (AutoListH.list___mul___list_int_3 l its.toArray n k t hfit hcap hlong) ⟨e,?_⟩⟩)
 rw[hnew];exact⟨.ref _,_,I.lnew (t':=s.toks) (r.rep k.toNat) (by rw[zit,Nat.mul_comm];exact hz),rfl,q _ I.fresh⟩
end
section
variable {prog:Program}{w:World}{A:Around}{E:Value->Shared->Prop}{s:Shared}
end
section
variable {X:Cx}
end
end L2
namespace Att
open PySem PySem.W PySem.Calls PyProof.Rows
theorem zam{P:Params}{h:Heap}:∀(ns:List Int) (vs:List Value),WellAll P h vs (ns.map WData.int)->IntsAre vs ns:=by
 intro ns
 induction ns with
 |nil =>
  intro vs w;rw[yce]at w;cases w;exact .nil
 |cons n ns ih =>
  intro vs w;rw[yae]at w;cases w with
  |cons a b =>
   cases a;exact .cons _ _ (ih _ b)
theorem zdt{l:OpenLaw}{n:Nat}(hn:l.most=some n){P:Params}{h:Heap}{args:List WData}{vals:List Value}
  (hpre:l.row.toRowW.claim.pre args=true) (hwl:WellAll P h vals args) :
  ∃a vs ns,vals=[Value.ref a]/\args=[WData.list (ns.map WData.int)]/\h.get? a=some { cls:=.type "list",data:=.seq vs.toArray }/\IntsAre vs ns/\ns.length<=n:=by
 have hsh:WShape.hasAll [] args [.list .int]=true:=(pre_splitW hpre).1;have hc:l.pre.holds [] { args:=args }=true:=(pre_splitW hpre).2;obtain⟨d,r,rfl,h1,h2⟩:=hasAllW_cons hsh;obtain rfl:=hasAllW_nil h2;obtain⟨xs,rfl,h3⟩:=hasW_list h1;obtain⟨ns,rfl⟩:=items_int h3
 have hlen:ns.length<=n:=by
  unfold OpenLaw.pre at hc
  have h4:(WTm.not (.lt (.lit (.int (n:Int))) (.len (.arg 0)))).holds [] { args:=[.list (ns.map .int)] }=true:=by
   have h4:=(holds_andW hc).1;rw[hn]at h4;exact h4
  have h5:=condW_of h4 (w_not (w_lt w_lit (w_len_list (w_arg rfl))));rw[ya1]at h5;refine Nat.le_of_not_lt λq=>?_
  have q':(n:Int)<((ns.length:Nat):Int):=by omega
  first
   |(rw[yer q']at h5;exact absurd h5 (by decide))
   |(simp at h5;omega)
 cases hwl with
 |cons w1 w2 =>
  cases w2;cases w1 with
  |list ho hall=>exact⟨_,_,ns,rfl,rfl,ho,zam ns _ hall,hlen⟩
theorem zdy(l:OpenLaw)(args:List WData):l.row.toRowW.claim.post args (.bool true) args=true :=
 postW_of (r:=l.row.toRowW) (X:=(true == true))
  (show WShape.has [] (.bool true) .bool=true by first|rfl|decide|simp[WShape.has,WShape.arms,WShape.armsAll])
  (show(WTm.eq .res (.lit (.bool true))).value [] { args:=args,res:=some (.bool true),after:=args }=some (.bool (true == true)) from w_eq_bool (w_res rfl) w_lit) rfl
theorem attach_call{l:OpenLaw}{n:Nat}{q:Program}{loose:List Str}{XP:(Str->Option Value)->Heap->Prop}{YP:World->Heap->Prop}{d:DefRec}
  (hn:l.most=some n) (hdf:d.params.defaults=[])
  (call : ∀ (w : World) (s₀ s₁ : Shared) (mg mb : Str -> Option Value) (fa : Addr) (o : Obj) (pm cd doc : Value) (a : Addr) (vs : List Value) (ns : List Int),
   Ground q loose [] XP w s₀ mg mb s₁.heap->YP w s₁.heap ->
   s₁.heap.get? fa=some o->o.data=.func (docDef d.name d.params d.body d.scope pm cd doc)->s₁.heap.CodeRec cd d.name->mg d.name=some (.ref fa) ->
   s₁.heap.get? a=some { cls:=.type "list",data:=.seq vs.toArray }->IntsAre vs ns->ns.length<=n->s₁.gens=#[] ->
   codeAny (model l.prog w) callerA (.call (.ref fa) ⟨[.ref a],[]⟩) (λr s'=>r=.ok (.ret (.bool true))/\OldK s₁.heap s'.heap/\s'.os=s₁.os/\AllBare s'.gens) s₁) :
  WalkO q loose XP YP l.row.toRowW d [] (λf vs=>PySem.call f vs):=by
 intro w s₀ s₁ mg mb G Y fa o pm cd doc dV kV ho hd hcd hD hmg hg args vals as hpre hlay hrd hwl hlo;obtain rfl:dV=.none:=Dflts.none hD hdf;obtain rfl:kV=.none:=Dflts.noKw hD;obtain⟨a,vs,ns,rfl,rfl,hobj,hints,hlen⟩:=zdt hn hpre hwl;refine enter_call (yel (call w s₀ s₁ mg mb fa o pm cd doc a vs ns G Y ho (fd_plain hd) hcd hmg hobj hints hlen hg) λr s' hq=>?_)
 obtain⟨rfl,h2,h3,h4⟩:=hq;exact⟨.inl ⟨.bool true,.bool true,[],rfl,λ_=>rfl,.bool true,zdy l _,λ_=>⟨List.Pairwise.nil,λ_ hm=>(nomatch hm)⟩⟩,h2,h3,h4⟩
section
variable {prog:Program}{w:World}{A:Around}{E:Value->Shared->Prop}{s:Shared}{K:Frag}
end
end Att
namespace L2
open PySem PySem.Spec PyProof.Rows
theorem Po:∀{vs:List Value} {ns:List Int},IntsAre vs ns->AR (ns.map V.int) vs
 |_,_,.nil=>.nil
 |_,_,.cons n t h=>.cons ⟨t,rfl⟩ (Po h)
def P6(H:Hp):Prop:=∀b,H b=none\/∃o xs,H b=some (.frz o (.lst xs))
theorem zg9{P:Program}{w:World}{K:k6}{mg mb:Str->Option Value}{CX:DD}{k:Nat}{fa a:Addr}{fd:FuncData}{x:Str}{sp:Sp}{s₁:Shared}{vs:List Value}{ns:List Int}
  (KX:K.In s₁.heap) (hns:s₁.heap.Ns mainGlobals mg) (hb:s₁.heap.Ns builtinsNs mb) (hbb:∀x:Str,x≠"__name__"->mb x=bootBuiltins x) (hlim:s₁.heap.NoLimit) (hg:s₁.gens=#[])
  (ha:s₁.heap.get? a=some { cls:=.type "list",data:=.seq vs.toArray }) (hi:IntsAre vs ns) (hl:ns.length<=sizeLine) (hr:Room k callerA)
  (F:∀base:Heap,K.In base->base.Ns mainGlobals mg->FnOk P w K mg base CX k fa fd [x] sp) (hbind:∀(s:Shared) (u:Value),BindsTo s fd ⟨[u],[]⟩ [(x,u)])
  (hsp:∀H:Hp,P6 H->AS K H a (ns.map V.int)->sp [.ref a] H (λv _=>v=.bl true) λ_ _ _=>False)
  (hCX:∀H e s',CX [] H s₁ (λ_ _ _=>False) e s'->False) :
  codeAny (model P w) callerA (.call (.ref fa) ⟨[.ref a],[]⟩) (λr s'=>r=.ok (.ret (.bool true))/\OldK s₁.heap s'.heap/\s'.os=s₁.os/\AllBare s'.gens) s₁:=by
 have rv:=Po hi;have lenV:=hi.length
 have core:∀H:Hp,P6 H->AS K H a (ns.map V.int)->HOk P w H s₁.heap->(∀b,H b≠none->b=a)->(H a≠none->K.lookup a=none) ->
   codeAny (model P w) callerA (.call (.ref fa) ⟨[.ref a],[]⟩) (λr s'=>r=.ok (.ret (.bool true))/\OldK s₁.heap s'.heap/\s'.os=s₁.os/\AllBare s'.gens) s₁:=by
  intro H hO hS hok hA hK;have base_of:∀{b:Addr} {o:Obj},s₁.heap.get? b=some o->H b=none->(E9 s₁.heap H).get? b=some o:=λe n=>zge e n
  have noA:∀{b:Addr} {o:Obj} {es:Array DictEntry} {ep:Nat},s₁.heap.get? b=some o->o.data=.dict es ep->H b=none:=λ{b o es ep} e d=>by
   cases q:H b with
   |none=>rfl
   |some u =>
    have e':b=a:=hA b (by rw[q];simp)
    subst e';rw[ha]at e;cases e;have d':Data.seq vs.toArray _=Data.dict es ep:=d;cases d'
  have nsK:∀{b:Addr} {m:Str->Option Value},s₁.heap.Ns b m->(E9 s₁.heap H).Ns b m:=λ{b m} ⟨o,es,ep,e,d,r⟩=>⟨o,es,ep,base_of e (noA e d),d,r⟩
  have hKb:K.In (E9 s₁.heap H):=λb o e=>base_of (KX b o e) (by
   cases q:H b with
   |none=>rfl
   |some u =>
    have e':b=a:=hA b (by rw[q];simp)
    subst e';rw[hK (by rw[q];simp)]at e;cases e)
  have hM:Mod K mg (E9 s₁.heap H):=⟨hKb,nsK hns,⟨mb,nsK hb,hbb⟩,let ⟨mc,h1,h2⟩:=hlim;⟨mc,nsK h1,h2⟩⟩;have e0:Env0 P w K mg (E9 s₁.heap H) callerA [] s₁ H:=⟨rfl,hM,λb o e=>zie e,Nat.le_of_eq (zee _ _),trivial,λb hb=>absurd (show b∈([]:List Addr) from hb) (by simp),hok,.of_eq hg⟩
  refine yel ((F _ hKb (nsK hns)).run callerA [] s₁ H ⟨[.ref a],[]⟩ [.ref a] [.ref a] _ _ hr e0 (hbind s₁ (.ref a)) (.cons rfl .nil) (hsp H hO hS)) λr s' h=>?_
  cases r with
  |error e=>exact(hCX H e s' h).elim
  |ok fl =>
   cases fl with
   |next=>exact False.elim h
   |brk=>exact False.elim h
   |cont=>exact False.elim h
   |ret u =>
    obtain⟨v,H',os,bare,un,hok',r',q⟩:=h;have q':v=.bl true:=q;subst q';obtain rfl:u=Value.bool true:=r';refine⟨rfl,OldK.of_keep λb o e=>?_,os,bare⟩
    cases q:H b with
    |none=>exact un.keep b o e q (by intro z;exact absurd (show b∈([]:List Addr) from z) (by simp)) (by simp)
    |some u =>
     rcases hO b with z|⟨ob,xs,z⟩
     .rw[q]at z;cases z
     .have z2:=un.frzs b ob _ z;obtain⟨e1,_⟩:=hok b _ z;obtain⟨e2,_⟩:=hok' b _ z2;rw[e]at e1;cases e1;exact e2
 cases hk:K.lookup a with
 |some o =>
  have e:=KX a o hk;rw[ha]at e;cases e;refine core (λ_=>none) (λ_=>.inl rfl) (.inr ⟨_,vs.toArray,_,hk,rfl,rfl,rfl,by rw[yah,lenV];exact hl,by simpa using rv⟩) (λb u z=>by have z':(none:Option HO)=some u:=z;cases z') (λb z=>absurd rfl z) λz=>absurd rfl z
 |none =>
  refine core (λb=>if b=a then some (.frz { cls:=.type "list",data:=.seq vs.toArray } (.lst (ns.map V.int))) else none) (λb=>?_) (.inl (.inr ⟨{ cls:=.type "list",data:=.seq vs.toArray },if_pos rfl⟩)) (λb u z=>?_) (λb z=>?_) λ_=>hk
  .by_cases hb:b=a
   .exact .inr ⟨_,_,if_pos hb⟩
   .exact .inl (if_neg hb)
  .by_cases hb:b=a
   .have z':=(if_pos hb).symm.trans z;cases z';subst hb;exact⟨ha,by rw[ya1];exact hl,vs,_,rv,ha⟩
   .have z':=(if_neg hb).symm.trans z;cases z'
  .by_cases hb:b=a
   .exact hb
   .exact absurd (if_neg hb) z
theorem walk_of{l:PySem.W.OpenLaw}{n k:Nat}{q:Program}{loose:List Str}{XP:(Str->Option Value)->Heap->Prop}{YP:World->Heap->Prop}{d:DefRec}{K:Params->k6}{CX:World->DD}{sp:World->Sp}{x:Str}
  (hn:l.most=some n) (hn2:n<=sizeLine) (hdf:d.params.defaults=[]) (hr:Room k callerA)
  (hY:∀(w:World) (h:Heap),YP w h->(K w.params).In h)
  (F : ∀ (w : World) (mg : Str -> Option Value) (fa : Addr) (h : Heap), (K w.params).In h -> h.Ns mainGlobals mg -> mg d.name = some (.ref fa) ->
   ∃fd:FuncData,(∀(s:Shared) (u:Value),BindsTo s fd ⟨[u],[]⟩ [(x,u)]) /\
    ∀base:Heap,(K w.params).In base->base.Ns mainGlobals mg->FnOk l.prog w (K w.params) mg base (CX w) k fa fd [x] (sp w))
  (hsp:∀(w:World) (H:Hp) (a:Addr) (ns:List Int),ns.length<=n->P6 H->AS (K w.params) H a (ns.map V.int)->sp w [.ref a] H (λv _=>v=.bl true) λ_ _ _=>False)
  (hCX:∀(w:World) (H:Hp) (s:Shared) (e:Value) (s':Shared),CX w [] H s (λ_ _ _=>False) e s'->False) :
  PySem.W.WalkO q loose XP YP l.row.toRowW d [] (λf vs=>PySem.call f vs):=by
 refine Att.attach_call hn hdf λw s₀ s₁ mg mb fa o pm cd doc a vs ns G Y ho hd hcd hmg hobj hints hlen hg=>?_
 have KX:=hY w _ Y;obtain⟨fd,hb,hF⟩:=F w mg fa _ KX G.T.g hmg;exact zg9 KX G.T.g G.T.b G.T.builtins G.T.nolimit hg hobj hints (yaf hlen hn2) hr hF hb (λH hO hS=>hsp w H a ns hlen hO hS) λH e s'=>hCX w H s₁ e s'
def FN(s:Stmt):Arguments:=match s with
 |.FunctionDef _ a _ _ _ _ _ _ _ _=>a
 |_=>{ posonlyargs:=[],args:=[],vararg:=none,kwonlyargs:=[],kw_defaults:=[],kwarg:=none,defaults:=[] }
def A9(s:Stmt):List Stmt:=match s with
 |.FunctionDef _ _ b _ _ _ _ _ _ _=>b
 |_=>[]
noncomputable def AL(s:Stmt):Scope:=match s with
 |.FunctionDef _ _ _ _ _ _ sc _ _ _=>sc
 |_=>{ kind:=.function,names:=[],isGenerator:=false,isCoroutine:=false }
abbrev Dz:DD:=λ_ _ _ _ _ _=>False
abbrev E0:XK:=λ_ _ _=>False
theorem pass0{X:Cx}:P4 Dz X E0:=λ_ _ _ _ _ _ _ h=>h.elim
structure Fun(K:k6)(x qual:Str)(st:Stmt)(f:Addr)(fd:FuncData):Prop where
 ex:∃(oc:Value) (od:Option Addr) (kV doc pm:Value) (an:Option Addr) (cdv ct:Value) (osl:Array (Option Value)),
  fd=PySem.W.fnOf x qual (FN st) (A9 st) (AL st) .none kV doc pm an cdv ct/\K.lookup f=some ⟨oc,od,.func fd,osl⟩/\PySem.W.codeIn K cdv qual=true
 kp:PySem.W.keepIn K (.ref f)=true
section
variable {P:Program}{w:World}{K:k6}{mg:Str->Option Value}{base:Heap}
theorem Fun.ok{x qual:Str}{st:Stmt}{f:Addr}{fd:FuncData}{N ps:List Str}{k:Nat}{sp:Sp}(F:Fun K x qual st f fd)(S:FnScope N ps (AL st))(len:∀vs H Q E,sp vs H Q E->vs.length=ps.length)
  (hbody : ∀ (cdv : Value) (A : Around) (outer : List Env) (s : Shared) (H : Hp) (vs : List V) (Q : VK) (E : XK), Room k (A.deeper (envOfC qual (AL st) s.heap.objs.size f cdv)) -> sp vs H Q E ->
   ∃t,BC (D0 Dz P w K mg base N qual (AL st) f cdv A outer s H E).nox (A9 st) t/\t { nx:=λ_ H'=>Q .non H',rt:=Q } (start N vs) H):FnOk P w K mg base Dz (k+1) f fd ps sp:=by
 obtain⟨oc,od,kV,doc,pm,an,cdv,ct,osl,rfl,lk,hcd⟩:=F.ex;refine Nz lk hcd S len λA outer s H vs Q E hr hsp=>?_
 obtain⟨t,h,q⟩:=hbody cdv A outer s H vs Q E hr hsp;exact⟨t,h.nox,q⟩
theorem Fun.binds{x qual:Str}{st:Stmt}{f:Addr}{fd:FuncData}{ps:List Str}(F:Fun K x qual st f fd)
  (h:∀(kV doc pm:Value) (an:Option Addr) (cdv ct:Value) (us:List Value),us.length=ps.length->bindArgs (PySem.W.fnOf x qual (FN st) (A9 st) (AL st) .none kV doc pm an cdv ct) ⟨us,[]⟩=pure (ps.zip us)):CY K fd ps []:=by
 obtain⟨oc,od,kV,doc,pm,an,cdv,ct,osl,rfl,lk,hcd⟩:=F.ex;exact .all (h kV doc pm an cdv ct)
end
theorem zdr{n:Nat}(h:n<=1000):n<sizeLine:=Nat.lt_of_le_of_lt h (by decide)
section
variable {X:Cx}
theorem pv(i:Nat){x:Str}{pos:Pos}(hN:X.N[i]?=some x:=by rfl)(hv:C7 X.env.scope x:=by first|exact Or.inl rfl|exact Or.inr (Or.inl rfl)|exact Or.inr (Or.inr rfl))(hd:(x == ("__debug__":Str))=false:=by decide)
  (hcd:(x == ("__classdict__":Str))=false:=by decide):PE X (.Name x pos) (LM i):=FA hN hv hd hcd
end
theorem Jk{A B:Prop}(h:B):if false=true then A else B:=by
 rw[if_neg ybm];exact h
theorem Jj{A B:Prop}(h:A):if true=true then A else B:=by
 rw[if_pos rfl];exact h
def AQ(H H':Hp):Prop:=∀b o,H b=some o->H' b=some o
theorem AQ.refl(H:Hp):AQ H H:=λ_ _ h=>h
theorem AQ.trans{H H1 H2:Hp}(a:AQ H H1)(b:AQ H1 H2):AQ H H2:=λc o h=>b c o (a c o h)
theorem AQ.free{H H':Hp}(e:AQ H H'){l:Addr}(h:H' l=Option.none):H l=Option.none:=by
 cases q:H l with
 |none=>rfl
 |some o =>
  rw[e l o q]at h;cases h
theorem AQ.seq{K:k6}{H H':Hp}{a:Addr}{xs:List V}(e:AQ H H')(h:AS K H a xs):AS K H' a xs:=by
 rcases h with (h|⟨o,h⟩)|h
 .exact .inl (.inl (e _ _ h))
 .exact .inl (.inr ⟨o,e _ _ h⟩)
 .exact .inr h
section
variable {κ:Type} [DecidableEq κ]
noncomputable def Cg(kvs:List (κ×V))(k:κ):Option V:=(kvs.find? λkv=>decide (kv.1=k)).map (·.2)
noncomputable def Cn(kvs:List (κ×V))(k:κ)(v:V):List (κ×V) :=
 if (kvs.any λkv=>decide (kv.1=k))=true then kvs.map (λkv=>if kv.1=k then (kv.1,v) else kv) else kvs++[(k,v)]
def Ud(kvs:List (κ×V))(k:κ):List (κ×V):=kvs.filter λkv=>decide (kv.1≠k)
theorem IZ{p:κ×V}{r:List (κ×V)}{k:κ}(e:p.1=k):Cg (p::r) k=some p.2:=by simp[Cg,yck,e]
theorem Ia{p:κ×V}{r:List (κ×V)}{k:κ}(e:¬ p.1=k):Cg (p::r) k=Cg r k:=by simp[Cg,yck,e]
theorem Pq(k:κ):∀kvs:List (κ×V),(kvs.any λkv=>decide (kv.1=k))=(Cg kvs k).isSome
 |[]=>rfl
 |p::r=>by
  rw[ydw]
  by_cases e:p.1=k
  .simp only[IZ e,yer e,ye4,Option.isSome_some]
  .rw[Ia e,yea e,ydx];exact Pq k r
theorem Sx(kvs:List (κ×V))(k:κ)(v:V):(Cn kvs k v).length<=kvs.length+1:=by
 unfold Cn;split
 .rw[ya1];omega
 .rw[yac,yao,yb4];omega
theorem CW.isSome_eq{o:Option V}{u:Option Value}(r:CW o u):o.isSome=u.isSome:=by
 cases o with
 |none=>cases u with
  |none=>rfl
  |some _=>exact(show False from r).elim
 |some _=>cases u with
  |none=>exact(show False from r).elim
  |some _=>rfl
theorem CW.getD{o:Option V}{u:Option Value}{d:V}{d':Value}(r:CW o u)(rd:RelV d d'):RelV (o.getD d) (u.getD d'):=by
 cases o with
 |none=>cases u with
  |none=>exact rd
  |some _=>exact(show False from r).elim
 |some _=>cases u with
  |none=>exact(show False from r).elim
  |some _=>exact r
theorem KV.val{kvs:List (κ×V)}{vs:List (κ×Value)}(r:KV kvs vs)(k:κ):CW (Cg kvs k) (valueAt vs k):=by
 unfold KV at r
 induction r with
 |nil=>exact True.intro
 |@cons p q ps qs h t ih =>
  obtain⟨h1,h2⟩:=h
  by_cases e:p.1=k
  .have e':q.1=k:=h1.symm.trans e;have b:valueAt (q::qs) k=some q.2:=by simp[valueAt,yck,e']
   rw[IZ e,b];exact h2
  .have e':¬ q.1=k:=λz=>e (h1.trans z)
   have b:valueAt (q::qs) k=valueAt qs k:=by simp[valueAt,yck,e']
   rw[Ia e,b];exact ih
theorem KV.any{kvs:List (κ×V)}{vs:List (κ×Value)}(r:KV kvs vs)(k:κ):(kvs.any λkv=>decide (kv.1=k))=vs.any λkv=>decide (kv.1=k):=by
 unfold KV at r
 induction r with
 |nil=>rfl
 |cons h t ih=>rw[ydw,ydw,ih,h.1]
theorem KV.repl{kvs:List (κ×V)}{vs:List (κ×Value)}(r:KV kvs vs)(k:κ){y:V}{u:Value}(ry:RelV y u) :
  KV (kvs.map λkv=>if kv.1=k then (kv.1,y) else kv) (vs.map λkv=>if kv.1=k then (kv.1,u) else kv):=by
 unfold KV at r ⊢
 induction r with
 |nil=>exact .nil
 |@cons p q ps qs h t ih =>
  rw[yae,yae];refine .cons ?_ ih;obtain⟨h1,h2⟩:=h
  by_cases e:p.1=k
  .rw[if_pos e,if_pos (h1.symm.trans e)];exact⟨h1,ry⟩
  .rw[if_neg e,if_neg (λz=>e (h1.trans z))];exact⟨h1,h2⟩
theorem KV.put{kvs:List (κ×V)}{vs:List (κ×Value)}(r:KV kvs vs)(k:κ){y:V}{u:Value}(ry:RelV y u):KV (Cn kvs k y) (stored vs k u):=by
 unfold Cn stored;rw[r.any k]
 by_cases e:(vs.any λkv=>decide (kv.1=k))=true
 .rw[if_pos e,if_pos e];exact r.repl k ry
 .rw[if_neg e,if_neg e];exact Paired.snoc r ⟨rfl,ry⟩
theorem KV.drop{kvs:List (κ×V)}{vs:List (κ×Value)}(r:KV kvs vs)(k:κ):KV (Ud kvs k) (without vs k):=by
 unfold KV at r ⊢;unfold Ud without
 induction r with
 |nil=>exact .nil
 |@cons p q ps qs h t ih =>
  obtain⟨h1,h2⟩:=h;rw[ye5,ye5]
  by_cases e:p.1=k
  .have a:¬ decide (p.1≠k)=true:=by simp[e]
   have b:¬ decide (q.1≠k)=true:=by simp[h1.symm.trans e]
   rw[if_neg a,if_neg b];exact ih
  .have e':¬ q.1=k:=λz=>e (h1.trans z)
   have a:decide (p.1≠k)=true:=by simp[e]
   have b:decide (q.1≠k)=true:=by simp[e']
   rw[if_pos a,if_pos b];exact .cons ⟨h1,h2⟩ ih
theorem KV.length{kvs:List (κ×V)}{vs:List (κ×Value)}(r:KV kvs vs):kvs.length=vs.length:=ydu r
end
theorem NZ{P:Program}{w:World}{k:Key}{u:Value}(r:RelV (kV k) u):(CB P w).is k u=true:=by
 cases k with
 |inl i=>obtain⟨t,e⟩:=(show ∃t,u=Value.int i t from r);subst e;exact zcm P w i t
 |inr x=>obtain⟨t,e⟩:=(show ∃t,u=Value.str x t from r);subst e;exact zcl P w x t
theorem T4{P:Program}{w:World}:∀{ks:List Key} {us:List Value},AR (ks.map kV) us->ItemsAre (CB P w) ks us
 |[],_,r=>by rw[yce]at r;cases r;exact .nil
 |k::ks,_,r=>by
  rw[yae]at r;cases r with
  |cons h t=>exact .cons (NZ h) (T4 t)
abbrev KT(H:Hp):List (List Key×V)->List (List Key×Addr×Value)->Prop:=Paired λp q=>p.1=q.1/\H q.2.1=some (.tup (p.1.map kV))/\RelV p.2 q.2.2
theorem KT.val{H:Hp}{kvs:List (List Key×V)}{xs:List (List Key×Addr×Value)}(r:KT H kvs xs)(k:List Key):CW (Cg kvs k) ((atKey xs k).map (·.2)):=by
 induction r with
 |nil=>exact True.intro
 |@cons p q ps qs h t ih =>
  obtain⟨h1,_,h2⟩:=h
  by_cases e:p.1=k
  .have e':q.1=k:=h1.symm.trans e;have b:atKey (q::qs) k=some q.2:=by simp[atKey,yck,e']
   rw[IZ e,b];exact h2
  .have e':¬ q.1=k:=λz=>e (h1.trans z)
   have b:atKey (q::qs) k=atKey qs k:=by simp[atKey,yck,e']
   rw[Ia e,b];exact ih
theorem KT.repl{H:Hp}{kvs:List (List Key×V)}{xs:List (List Key×Addr×Value)}(r:KT H kvs xs)(k:List Key){y:V}{u:Value}(ry:RelV y u) :
  KT H (kvs.map λkv=>if kv.1=k then (kv.1,y) else kv) (xs.map (putAt k u)):=by
 induction r with
 |nil=>exact .nil
 |@cons p q ps qs h t ih =>
  rw[yae,yae];refine .cons ?_ ih;obtain⟨h1,h2,h3⟩:=h;unfold putAt
  by_cases e:p.1=k
  .rw[if_pos e,if_pos (h1.symm.trans e)];exact⟨h1,h2,ry⟩
  .rw[if_neg e,if_neg (λz=>e (h1.trans z))];exact⟨h1,h2,h3⟩
theorem KT.put{H:Hp}{kvs:List (List Key×V)}{xs:List (List Key×Addr×Value)}(r:KT H kvs xs)(k:List Key){b:Addr}{y:V}{u:Value}(hb:H b=some (.tup (k.map kV)))(ry:RelV y u) :
  KT H (Cn kvs k y) (storedH xs k b u):=by
 have e:(kvs.any λkv=>decide (kv.1=k))=(atKey xs k).isSome:=by
  rw[Pq,(r.val k).isSome_eq,Option.isSome_map]
 unfold Cn storedH;rw[e]
 by_cases q:(atKey xs k).isSome=true
 .rw[if_pos q,if_pos q];exact r.repl k ry
 .rw[if_neg q,if_neg q];exact Paired.snoc r ⟨rfl,hb,ry⟩
theorem KT.keeps{H H':Hp}{kvs:List (List Key×V)}{xs:List (List Key×Addr×Value)}(r:KT H kvs xs)(ht:∀b ys,H b=some (.tup ys)->H' b=some (.tup ys)):KT H' kvs xs :=
 Paired.mapP r λ_ _ z=>⟨z.1,ht _ _ z.2.1,z.2.2⟩
section
variable {P:Program}{w:World}{H:Hp}{h:Heap}{a:Addr}
theorem Qr{u:HO}(ok:HOk P w H h)(e:Rd H a u):BR P w H h a u:=e.ok ok
theorem KC{kvs:List (Key×V)}(ok:HOk P w H h)(e:Rd H a (.dK kvs)):kvs.length<=sizeLine/\(a == sysModules)=false/\∃vs,KV kvs vs/\h.DictOf (CB P w) a vs :=
 show BR P w H h a (.dK kvs) from Qr ok e
theorem Ug{kvs:List (Key×V)}(ok:HOk P w H h)(e:H a=some (.dK kvs)):kvs.length<=sizeLine/\(a == sysModules)=false/\∃vs,KV kvs vs/\h.DictOf (CB P w) a vs:=KC ok (.inl e)
theorem NV{ks:List Key}(ok:HOk P w H h)(e:H a=some (.tup (ks.map kV))):(tupleKind (CB P w)).is h ks a:=by
 obtain⟨_,its,r,o,h1,h2,n,h3⟩:=(show BR P w H h a (.tup (ks.map kV)) from ok a _ e);exact⟨o,its.toArray,n,h1,h2,h3,by simpa using T4 r⟩
theorem Uc{kvs:List (List Key×V)}(ok:HOk P w H h)(e:Rd H a (.dT kvs)):kvs.length<=sizeLine/\(a == sysModules)=false /\
  ∃xs,KT H kvs xs/\h.DictOfH (tupleKind (CB P w)) a xs:=by
 obtain⟨z,y,xs,r,o,es,ep,h1,h2,h3,h4,h5⟩:=(show BR P w H h a (.dT kvs) from Qr ok e);refine⟨z,y,xs,r,o,es,ep,h1,h2,h3,h4,λx hx=>?_,h5⟩
 have all:∀{l:List (List Key×V)} {m:List (List Key×Addr×Value)},KT H l m->∀x∈m,(tupleKind (CB P w)).is h x.1 x.2.1:=by
  intro l m q
  induction q with
  |nil=>intro x hx;exact nomatch hx
  |@cons p q ps qs hq t ih =>
   intro x hx
   rcases(yai.mp hx) with e|hx
   .subst e;exact NV ok (by rw[<- hq.1];exact hq.2.1)
   .exact ih x hx
 exact all r x hx
theorem dt_of{kvs:List (List Key×V)}(ok:HOk P w H h)(e:H a=some (.dT kvs)):kvs.length<=sizeLine/\(a == sysModules)=false /\
  ∃xs,KT H kvs xs/\h.DictOfH (tupleKind (CB P w)) a xs:=Uc ok (.inl e)
end
def GL(H:Hp)(a:Addr)(y:V)(r:Option V):Prop :=
 (∃kvs k,Rd H a (.dK kvs)/\y=kV k/\r=Cg kvs k)\/∃kvs k b,Rd H a (.dT kvs)/\y=.ref b/\H b=some (.tup (k.map kV))/\r=Cg kvs k
def HB(H:Hp)(a:Addr)(y v:V)(H':Hp):Prop :=
 (∃kvs k,H a=some (.dK kvs)/\y=kV k/\kvs.length<sizeLine/\H'=upd H a (.dK (Cn kvs k v))) \/
 ∃kvs k b,H a=some (.dT kvs)/\y=.ref b/\H b=some (.tup (k.map kV))/\kvs.length<sizeLine/\H'=upd H a (.dT (Cn kvs k v))
theorem GL.k{H:Hp}{a:Addr}{kvs:List (Key×V)}{k:Key}(e:H a=some (.dK kvs)):GL H a (kV k) (Cg kvs k):=.inl ⟨kvs,k,.inl e,rfl,rfl⟩
theorem GL.t{H:Hp}{a b:Addr}{kvs:List (List Key×V)}{k:List Key}(e:H a=some (.dT kvs))(eb:H b=some (.tup (k.map kV))):GL H a (.ref b) (Cg kvs k):=.inr ⟨kvs,k,b,.inl e,rfl,eb,rfl⟩
theorem HB.k{H:Hp}{a:Addr}{kvs:List (Key×V)}{k:Key}{v:V}(e:H a=some (.dK kvs))(hl:kvs.length<sizeLine):HB H a (kV k) v (upd H a (.dK (Cn kvs k v))):=.inl ⟨kvs,k,e,rfl,hl,rfl⟩
theorem HB.t{H:Hp}{a b:Addr}{kvs:List (List Key×V)}{k:List Key}{v:V}(e:H a=some (.dT kvs))(eb:H b=some (.tup (k.map kV)))(hl:kvs.length<sizeLine) :
  HB H a (.ref b) v (upd H a (.dT (Cn kvs k v))):=.inr ⟨kvs,k,b,e,rfl,eb,hl,rfl⟩
section
variable {X:Cx}{pins:List (Addr×Obj)}{σ:St}{H:Hp}{s:Shared}{a:Addr}{y v:V}{u r:Value}{o:Option V}{A:Around}{E:Value->Shared->Prop}
theorem Inv.big(I:Inv X pins σ H s):sysModules<s.heap.objs.size:=by
 have h:mainGlobals<s.heap.objs.size:=(I.mod.glob.keeps I.bk).lt;exact yde (by decide) h
theorem zei{Q:Value->Shared->Prop}(hu:A.units+1<cLine)(I:Inv X pins σ H s)(g:GL H a y (some v))(ry:RelV y u)(h:∀w' s',Inv X pins σ H s'->RelV v w'->Q w' s') :
  wpAny (model X.prog X.w) A (getItem (.ref a) u) Q E s:=by
 rcases g with ⟨kvs,k,e,ey,l⟩|⟨kvs,k,b,e,ey,eb,l⟩
 .subst ey;obtain⟨z,hd,vs,rel,dd⟩:=KC I.hok e;obtain⟨w',hw,rw'⟩:=CW.some_of (v:=v) (o:=valueAt vs k) (by rw[l];exact rel.val k)
  exact wpAny_getItem_of (NZ ry) dd.mapOf hw (h w' _ (I.tok _) rw')
 .subst ey;cases (show u=Value.ref b from ry);obtain⟨z,hd,xs,rel,dd⟩:=Uc I.hok e;obtain⟨w',hw,rw'⟩:=CW.some_of (v:=v) (o:=(atKey xs k).map (·.2)) (by rw[l];exact rel.val k)
  obtain⟨p,hp,hp2⟩:=ya2.mp hw;refine wpAny_getItem_heap (tupleKind_room_in1 hu) (NV I.hok eb) dd hp ?_;rw[hp2];exact h w' _ (I.tok _) rw'
theorem Up{h':Heap}{t':Nat}{ob:HO}(I:Inv X pins σ H s)(mu:II (H a))(hs:Heap.SameBut a s.heap h')(he:∃q,h'.get? a=some q)(new:BR X.prog X.w (upd H a ob) h' a ob) :
  Inv X pins σ (upd H a ob) { s with heap:=h',toks:=t' } :=
 I.write (x:=a) (e:=a) mu (.inl rfl) (λb q hb z=>(hs.2 b hb).trans z) he new
theorem zn1{P:Program}{w:World}{H':Hp}{h':Heap}{kvs:List (Key×V)}{vs:List (Key×Value)}(z:kvs.length<=sizeLine)(hd:(a == sysModules)=false)(rel:KV kvs vs)(dd:h'.DictOf (CB P w) a vs) :
  BR P w H' h' a (.dK kvs):=⟨z,hd,vs,rel,dd⟩
theorem zeh{H':Hp}{Q:Unit->Shared->Prop}(hu:A.units+1<cLine)(I:Inv X pins σ H s)(g:HB H a y v H')(ry:RelV y u)(rv:RelV v r)(h:∀s',Inv X pins σ H' s'->Q () s') :
  wpAny (model X.prog X.w) A (setItem (.ref a) u r) Q E s:=by
 rcases g with ⟨kvs,k,e,ey,l,eH⟩|⟨kvs,k,b,e,ey,eb,l,eH⟩
 .subst ey eH;obtain⟨z,hd,vs,rel,dd⟩:=Ug I.hok e;have hz:vs.length<=sizeLine:=by rw[<- rel.length];exact z
  have hl:(Cn kvs k v).length<=sizeLine:=by have:=Sx kvs k v;omega
  refine wpAny_setItem_pairs (hsz:=hz) (NZ ry) dd λh' dd' hs=>h _ ?_
  have he:∃q,h'.get? a=some q:=let ⟨q,_,_,hq,_⟩:=dd';⟨q,hq⟩;exact Up I (by rw[e];exact True.intro) hs he (zn1 hl hd (rel.put k rv) dd')
 .subst ey eH;cases (show u=Value.ref b from ry);obtain⟨z,hd,xs,rel,dd⟩:=dt_of I.hok e;have hz:xs.length<=sizeLine:=by rw[<- ydu rel];exact z
  have hl:(Cn kvs k v).length<=sizeLine:=by have:=Sx kvs k v;omega
  refine wpAny_setItem_heap (hsz:=hz) (tupleKind_room_in1 hu) (NV I.hok eb) dd λh' dd' hs=>h _ ?_
  obtain⟨q,es,ep,hq,h2,h3,h4,_,h5⟩:=dd';refine Up I (by rw[e];exact True.intro) hs ⟨q,hq⟩ ⟨hl,hd,_,(rel.put k eb rv).keeps λc ys ec=>?_,q,es,ep,hq,h2,h3,h4,h5⟩
  rw[Aj (ne_of ec e (λz=>nomatch z))]
  exact ec
end
section
variable {X:Cx}{pins:List (Addr×Obj)}{σ:St}{H:Hp}{s:Shared}{a:Addr}{kvs:List (Key×V)}{k:Key}{u:Value}{A:Around}{E:Value->Shared->Prop}
end
section
variable {X:Cx}{o i e value:Expr}{pos pos' tpos:Pos}{td ty tv:TE}
end
theorem zgh{P:Program}{w:World}{H:Hp}(h:Heap)(hb:sysModules<h.objs.size):BR P w H (h.push { cls:=.type "dict",data:=.dict #[] }) h.objs.size (.dK []) :=
 ⟨yba _,beq_eq_false_iff_ne.mpr (yb1 (yaq hb)),[],.nil,Heap.DictOf.new h⟩
section
variable {X:Cx}{pos:Pos}
end
section
variable {X:Cx}{pins:List (Addr×Obj)}{σ:St}{H:Hp}{s:Shared}{a:Addr}{y d:V}{u r:Value}{o:Option V}{A:Around}{E:Value->Shared->Prop}
end
section
variable {X:Cx}{o e f:Expr}{apos cpos:Pos}{td ty tx:TE}
end
section
variable {X:Cx}{pins:List (Addr×Obj)}{σ:St}{H:Hp}{s:Shared}{a:Addr}{kvs:List (Key×V)}{A:Around}{E:Value->Shared->Prop}
end
section
variable {X:Cx}{pins:List (Addr×Obj)}{σ:St}{H:Hp}{s:Shared}{a:Addr}{y:V}{u:Value}{A:Around}{E:Value->Shared->Prop}
end
end L2
namespace Zm
def gd(a b:Int):Int:=(Int.gcd a b:Nat)
def lt(t b:Int):Int:=t.fdiv (gd t b)
theorem sum_le{n m t b u c:Int}(hb:0<b)(hc:0<c)(h1:t<=n * b)(h2:u<=m * c):t * c+u * b<=(n+m) * (b * c):=by
 have e1:=ydi h1 (Int.le_of_lt hc);have e2:=ydi h2 (Int.le_of_lt hb)
 have e3:(n+m) * (b * c)=n * b * c+m * c * b:=by
  rw[Int.add_mul,Int.mul_assoc,Int.mul_assoc,Int.mul_comm c b]
 omega
def sg(t b:Int):Int:=if b<0 then -(gd t b) else gd t b
end Zm
namespace Zw
open PySem PySem.Spec PyProof.Rows L2
def Sm(i:Int):Prop:=-(10 ^ 70)<i/\i<10 ^ 70
theorem Sm.nat{i:Int}(h:Sm i):i.natAbs<10 ^ 70:=by
 unfold Sm at h
 omega
theorem zl8:10 ^ 70<=2 ^ 300:=by decide +kernel
theorem Sm.log{i:Int}(h:Sm i):i.natAbs.log2<300:=by
 by_cases z:i.natAbs=0
 .rw[z]
  decide
 .exact(Nat.log2_lt z).mpr (yaj h.nat zl8)
theorem Sm.bits{i:Int}(h:Sm i):Builtin.Int.intBits i<=2 ^ 20:=by
 have q:=h.log;have e20:(2:Nat) ^ 20=1048576:=by decide
 unfold Builtin.Int.intBits;split<;>omega
theorem Sm.of{i:Int}(h1:-(10 ^ 70)<i)(h2:i<10 ^ 70):Sm i:=⟨h1,h2⟩
theorem Sm.abs{i:Int}{m:Nat}(h:i.natAbs<=m)(hm:m<10 ^ 70):Sm i:=by
 constructor<;>omega
section
variable {X:Cx}
theorem zi5:A2 X (binaryOp .Mult) (rI (λi j=>Sm i/\Sm j) λi j=>.int (i * j)):=Hb λ_ _ _ _ _ _ _ hc q=>mul_int q (.of_bits hc.1.bits hc.2.bits)
theorem zg0:A2 X (binaryOp .FloorDiv) (rI (λ_ j=>j≠0/\Sm j) λi j=>.int (i.fdiv j)) :=
 Hb λ_ _ _ _ _ _ _ hc q=>floordiv_int hc.1 q (.inl (PyProof.noPylong_of_log2 (yde hc.2.log (by decide))))
theorem T6{x:V}{v:Value}{b:Bool}(r:RelV x v):PySem.plainIs v (.bool b)=true/\(v == Value.bool b)=decide (x=V.bl b):=by
 cases x with
 |non=>cases r;exact⟨rfl,by simp⟩
 |bl c=>cases r;exact⟨rfl,by cases c<;>cases b<;>simp⟩
 |int i=>obtain⟨t,rfl⟩:=r;exact⟨rfl,by simp⟩
 |str i=>obtain⟨t,rfl⟩:=r;exact⟨rfl,by simp⟩
 |byt i=>obtain⟨t,rfl⟩:=r;exact⟨rfl,by simp⟩
 |flt i=>obtain⟨t,rfl⟩:=r;exact⟨rfl,by simp⟩
 |ref i=>cases r;exact⟨rfl,by simp⟩
 |ty i=>cases r;exact⟨rfl,by simp⟩
theorem zlu:A2 X (compareOp .Is) (λx y H Q=>∃b,y=.bl b/\Q (.bl (decide (x=.bl b))) H):=by
 intro pins s σ H x y v u Q I rx ry h;obtain⟨b,rfl,q⟩:=h;cases ry;obtain⟨e1,e2⟩:=T6 (b:=b) rx;exact wpAny_is_plain e1 (Hs I q e2.symm)
theorem zi4:A2 X (compareOp .IsNot) (λx y H Q=>∃b,y=.bl b/\Q (.bl (!decide (x=.bl b))) H):=by
 intro pins s σ H x y v u Q I rx ry h;obtain⟨b,rfl,q⟩:=h;cases ry;obtain⟨e1,e2⟩:=T6 (b:=b) rx;exact wpAny_isNot_plain e1 (Hs I q (by rw[e2]))
theorem zgm{c:String}:BZ X (.builtin "isinstance") (λxs H Q=>∃x t b,xs=[x,.ty c]/\TyOf X.K H x t/\PySem.W.kitOne X.K t (.type c)=some b/\Q (.bl b) H):=by
 intro pins s σ H xs us Q I r h;obtain⟨x,t,b,rfl,ty,e,q⟩:=h;obtain⟨u,w',rfl,rx,ry⟩:=GP r;cases ry;exact N3 I rx ty e λtk=>⟨.bl b,H,I.tok _,rfl,q⟩
end
section
variable {X:Cx}
end
section
variable {X:Cx}{pos:Pos}
end
section
variable {X:Cx}
end
theorem zco:PySem.W.kitMeta "int"=true:=by decide +kernel
theorem zc1:PySem.W.kitMeta "bool"=true:=by decide +kernel
theorem zbi:PySem.W.kitMeta "tuple"=true:=by decide +kernel
theorem zgb(K:k6)(c:String):PySem.W.kitOne K (.type c) (.type c)=some true:=by
 unfold PySem.W.kitOne;rw[if_pos (by simp)]
theorem zmj(K:k6){t c:String}{l:List Value}{b:Bool}(h:t≠c)(hm:PySem.W.kitMeta c=true)(hl:(fastBuiltinMro t).map (·.contains (Value.type c))=some b):PySem.W.kitOne K (.type t) (.type c)=some b:=by
 unfold PySem.W.kitOne;rw[if_neg (by simpa using h)]
 unfold PySem.W.kitCls;show(if PySem.W.kitMeta c=true then PySem.W.subIn K (.type t) (.type c) else none)=some b
 rw[if_pos hm];exact hl
inductive Known(H:Hp):V->Prop where
 |non:Known H .non
 |bl (b:Bool):Known H (.bl b)
 |int (i:Int):Known H (.int i)
 |str (x:Str):Known H (.str x)
 |lst {p:Addr} {xs:List V} (e:H p=some (.lst xs)):Known H (.ref p)
 |tup {p:Addr} {xs:List V} (e:H p=some (.tup xs)):Known H (.ref p)
 |dic {p:Addr} {kvs:List (Key×V)} (e:H p=some (.dK kvs)):Known H (.ref p)
theorem Known.same{H H':Hp}{x:V}(h:Known H x)(s:AQ H H'):Known H' x:=by
 cases h with
 |non=>exact .non
 |bl b=>exact .bl b
 |int i=>exact .int i
 |str y=>exact .str y
 |lst e=>exact .lst (s _ _ e)
 |tup e=>exact .tup (s _ _ e)
 |dic e=>exact .dic (s _ _ e)
set_option genInjectivity false in
structure FunD(K:k6)(x qual:Str)(st:Stmt)(f:Addr)(fd:FuncData):Prop where
 ex:∃(oc:Value) (od:Option Addr) (dV kV doc pm:Value) (an:Option Addr) (cdv ct:Value) (osl:Array (Option Value)),
  fd=PySem.W.fnOf x qual (FN st) (A9 st) (AL st) dV kV doc pm an cdv ct/\K.lookup f=some ⟨oc,od,.func fd,osl⟩/\PySem.W.codeIn K cdv qual=true
 kp:PySem.W.keepIn K (.ref f)=true
theorem FunD.ok{P:Program}{w:World}{K:k6}{mg:Str->Option Value}{base:Heap}{x qual:Str}{st:Stmt}{f:Addr}{fd:FuncData}{N ps:List Str}{k:Nat}{sp:Sp}(F:FunD K x qual st f fd)(S:FnScope N ps (AL st))(len:∀vs H Q E,sp vs H Q E->vs.length=ps.length)
  (hbody : ∀ (cdv : Value) (A : Around) (outer : List Env) (s : Shared) (H : Hp) (vs : List V) (Q : VK) (E : XK), Room k (A.deeper (envOfC qual (AL st) s.heap.objs.size f cdv)) -> sp vs H Q E ->
   ∃t,BC (D0 Dz P w K mg base N qual (AL st) f cdv A outer s H E).nox (A9 st) t/\t { nx:=λ_ H'=>Q .non H',rt:=Q } (start N vs) H):FnOk P w K mg base Dz (k+1) f fd ps sp:=by
 obtain⟨oc,od,dV,kV,doc,pm,an,cdv,ct,osl,rfl,lk,hcd⟩:=F.ex;refine Nz lk hcd S len λA outer s H vs Q E hr hsp=>?_
 obtain⟨t,h,q⟩:=hbody cdv A outer s H vs Q E hr hsp;exact⟨t,h.nox,q⟩
theorem ER{K:k6}{x qual:Str}{st:Stmt}{f:Addr}{oc:Value}{od an:Option Addr}{osl:Array (Option Value)}{dV kV doc pm cdv ct:Value}(l:K.lookup f=some ⟨oc,od,.func (PySem.W.fnOf x qual (FN st) (A9 st) (AL st) dV kV doc pm an cdv ct),osl⟩)
  (c:PySem.W.codeIn K cdv qual=true) (k:PySem.W.keepIn K (.ref f)=true):FunD K x qual st f (PySem.W.fnOf x qual (FN st) (A9 st) (AL st) dV kV doc pm an cdv ct):=⟨⟨oc,od,dV,kV,doc,pm,an,cdv,ct,osl,rfl,l,c⟩,k⟩
set_option genInjectivity false in
structure Tx(K:k6)(mg:Str->Option Value)(x:Str)(st:Stmt)(ps:List Str) where
 f:Addr
 fd:FuncData
 F:FunD K x x st f fd
 m:mg x=some (.ref f)
 b:CY K fd ps []
structure Def(P:Program)(w:World)(K:k6)(mg:Str->Option Value)(base:Heap)(k:Nat)(x:Str)(ps:List Str)(sp:Sp) where
 f:Addr
 fd:FuncData
 ok:FnOk P w K mg base Dz k f fd ps sp
 m:mg x=some (.ref f)
 kp:PySem.W.keepIn K (.ref f)=true
 b:CY K fd ps []
section
variable {X:Cx}{k j:Nat}{x:Str}{ps:List Str}{sp:Sp}{p pos:Pos}{e:Expr}{es:List Expr}{t:TA}
theorem pd(D:Def X.prog X.w X.K X.mg X.base k x ps sp)(hr:Room j X.A)(ha:PA X (e::es) t)(hk:k<=j:=by decide)(hg:Gl X x:=by rfl)(hdb:(x == ("__debug__":Str))=false:=by decide)
  (he:starEach (e::es) X.env=(false,eval e X.env)::starEach es X.env:=by rfl) (hpl:(backTo pos (starEach es X.env)).any (·.1)=false:=by rfl) :
  PE X (.Call (.Name x p) (e::es) [] pos) (QY sp [] E0 t):=zhz D.ok (hr.mono hk) hg D.m D.kp D.b .nil pass0 ha hdb he hpl
end
theorem JE{H:Hp}{p:Addr}(h:H p=none)(o:HO):AQ H (upd H p o):=λb u q=>by
 rw[Aj (CA q h)];exact q
def IL(H:Hp)(p:Addr)(a b:Int):Prop:=H p=some (.tup [.int a,.int b])
theorem IL.same{H H':Hp}{p:Addr}{a b:Int}(h:IL H p a b)(s:AQ H H'):IL H' p a b:=s _ _ h
theorem IL.new{H:Hp}{p:Addr}{a b:Int}:IL (upd H p (.tup [.int a,.int b])) p a b:=Br
theorem sz{n:Nat}(h:n<=1000:=by exact Nat.le_of_ble_eq_true rfl):n<=sizeLine:=ydh (zdr h)
noncomputable def zn5(X:Cx)(scope:Scope)(cl:List (Str×Addr))(N':List Str)(C:Addr)(s₀:Shared)(H₀:Hp)(ex:List Addr):Cx :=
 { X with N:=N',s₀:=s₀,H₀:=H₀,env:=compEnvC scope cl C X.env,outer:=X.stack,ex:=ex,fn:=λ_=>false,xe:=λ_ _=>False }
theorem HOk.adopt{P:Program}{w:World}{H:Hp}{h:Heap}{a:Addr}{o:HO}(x:HOk P w H h)(hn:H a=none)(new:BR P w (upd H a o) h a o):HOk P w (upd H a o) h:=λb u e=>by
 by_cases hb:b=a
 .subst hb;rw[Br]at e;cases e;exact new
 .rw[Aj hb]at e;exact(x b u e).stay (λc v _ q=>q) (λc q=>by rw[Aj (CA q hn)];exact q) λc xs q=>by rw[Aj (CA q hn)];exact q
section
variable {X:Cx}{elt iter tg:Expr}{scope:Scope}{pos:Pos}{cl:List (Str×Addr)}{N':List Str}{wi:TI}{g:TG}{te:TE}
end
end Zw
namespace Zx
open PySem PySem.Spec PyProof.Rows L2 Zw
def K2(h B:Heap)(a:Addr)(cls fl:Value):Prop :=
 ∃oe vs T oT ts,h.get? a=some oe/\(oe.cls=cls/\vs[2]?=some .none)/\oe.data=.fields vs/\vs[1]?=some (.ref T)/\B.get? T=none/\T≠a/\h.get? T=some oT/\oT.data=.fields ts/\ts[3]?=some fl
def El(B:Heap)(l:List Env)(a:Addr)(cls:Value)(h:Heap):Prop:=B.StaysIn h/\B.get? a=none/\h.FunFrames B l/\K2 h B a cls .none
def Pd(B:Heap)(l:List Env)(a:Addr)(cls:Value)(L:Addr)(h:Heap):Prop:=B.StaysIn h/\B.get? a=none/\h.FunFrames B l/\K2 h B a cls (rawInt L)
theorem El.first{B h:Heap}{l:List Env}{a:Addr}{cls:Value}(x:El B l a cls h):∃oe vs,h.get? a=some oe/\oe.cls=cls/\oe.data=.fields vs/\vs[2]?=some .none :=
 let ⟨_,_,_,oe,vs,_,_,_,he,hc,hd,_⟩:=x;⟨oe,vs,he,hc.1,hd,hc.2⟩
theorem El.there{B h:Heap}{l:List Env}{a:Addr}{cls:Value}(x:El B l a cls h):∃ob,h.get? a=some ob/\ob.cls=cls :=
 let ⟨oe,_,he,hc,_⟩:=x.first;⟨oe,he,hc⟩
section
variable {M:Model}{A:Around}{E:Value->Shared->Prop}{s:Shared}{B:Heap}{env v:Env}{l:List Env}{L a:Addr}{cls:Value}{Q:Unit->Shared->Prop}
theorem Ua{oe:Obj}{vs:Array Value}{head:Value}{hn:Bool}(hfr:A.frames=some (v::l))(hl:s.heap.FunFrames B (v::l))(hL:v.frame=some L)(he:s.heap.get? a=some oe)(hk:B.StaysIn s.heap)(ha:B.get? a=none)
  (hd:oe.data=.fields vs) (hsz:1<vs.size) (h2:vs[2]?=some .none) (h:∀h',Pd B (v::l) a oe.cls L h'->s.heap.UpToSlots h'->Q () { s with heap:=h' }) :
  wpAny M A (do let f <- frameOf v;let pl <- entryPlaceOf L hn;let b <- EntryCells.newEntry head f .none (rawInt L) .none pl;setField (.ref a) 1 b) Q E s:=by
 have nof:a∉(v::l).filterMap (·.frame):=λz=>by
  obtain⟨_,o,ho,n⟩:=hl.mem z;rw[he]at ho;cases ho;exact n vs hd
 refine yed (wpAny_frameOf_fun hfr hl hL λh1 k1=>?_)
 refine yed (wpAny_entryPlaceOf λpl hpl=>?_)
 unfold EntryCells.newEntry newFields;refine yed (wpAny_newObj_type ?_ (hpl.sizeOk5 _ _ _ _ _));have e1:h1.get? a=some oe:=(k1.2.1 a nof).trans he;have b1:B.StaysIn h1:=λb o q=>(k1.2.1 b λz=>by rw[(hl.mem z).1]at q;cases q).trans (hk b o q)
 have ne:h1.objs.size≠a:=Nat.ne_of_gt (yad e1);refine yes (yab _ e1) hd hsz ?_;have hd3:=ycz hd (·.setIfInBounds 1 (Value.ref h1.objs.size));have kp:∀nw b o,b≠a->h1.get? b=some o->((h1.push nw).update a (Obj.mapFields (·.setIfInBounds 1 (Value.ref h1.objs.size)))).get? b=some o:=λnw b o n q=>(ybf _ _ (yb1 n)).trans (yab _ q)
 have nr:∀b o,s.heap.get? b=some o->(∀ws,o.data≠.fields ws)->b≠a:=λb o q n z=>by
  rw[z,he]at q;cases q;exact n vs hd
 have sm:∀nw,s.heap.UpToSlots ((h1.push nw).update a (Obj.mapFields (·.setIfInBounds 1 (Value.ref h1.objs.size)))):=λnw b o q n=>by
  obtain⟨sl,q1⟩:=k1.2.2 b o q;exact⟨sl,kp nw b _ (nr b o q n) q1⟩
 refine h _ ⟨λb o q=>kp _ b o (λz=>by rw[z,ha]at q;cases q) (b1 b o q),ha,hl.of_keeps λb o q n=>?_,_,_,h1.objs.size,_,_,yco _ (yab _ e1) (ydc hd3),⟨Obj.cls_mapFields _ _,?_⟩,hd3,by simp[hsz],b1.fresh,ne,
  (ybf _ _ (yb1 ne)).trans (yau h1 rfl),rfl,?_⟩ (sm _)
 .obtain⟨sl,q1⟩:=sm _ b o q n;exact⟨_,q1,rfl⟩
 .rw[Array.getElem?_setIfInBounds_ne (by decide)]
  exact h2
 .first|(simp;done)|(rcases hpl with rfl|⟨_,_,_,_,_,_,_,rfl⟩<;>simp)
theorem zj9{fl:Value}(hk:B.StaysIn s.heap)(ha:B.get? a=none)(hl:s.heap.FunFrames B l)(ht:K2 s.heap B a cls fl)(h:∀h',El B l a cls h'->s.heap.UpToSlots h'->Q () { s with heap:=h' }):wpAny M A (setFlight (.ref a) none) Q E s:=by
 obtain⟨oe,vs,T,oT,ts,he,hc,hd,g1,nT,Tne,hT,dT,g3⟩:=ht;have s3:3<ts.size:=(yby.mp g3).1;have oth:∀b,b≠T->(s.heap.update T (Obj.mapFields (·.setIfInBounds 3 ((none:Option Addr).elim Value.none λf=>rawInt f)))).get? b=s.heap.get? b:=λb hb=>ybf _ _ (yb1 hb)
 have nr:∀b o,s.heap.get? b=some o->(∀ws,o.data≠.fields ws)->b≠T:=λb o q n z=>by
  rw[z,hT]at q;cases q;exact n ts dT
 unfold setFlight;refine yed (yet he hd g1 ?_);rw[if_pos (by simp)]
 exact yes hT dT s3 (h _ ⟨λb o q=>(oth b λz=>by rw[z,nT]at q;cases q).trans (hk b o q),ha,hl.of_keeps λb o q n=>⟨o,(oth b (nr b o q n)).trans q,rfl⟩,
  oe,vs,T,_,_,(oth a (yb1 Tne)).trans he,hc,hd,g1,nT,Tne,yco _ hT (ydc (ycz dT _)),ycz dT _,by simp[s3]⟩ λb o q n=>⟨o.slots,(oth b (nr b o q n)).trans q⟩)
theorem TH(hh:Pd B l a cls L s.heap)(hQ:∀h',El B l a cls h'->s.heap.UpToSlots h'->Q () { s with heap:=h' }):wpAny M A (setFlight (.ref a) none) Q E s :=
 zj9 hh.1 hh.2.1 hh.2.2.1 hh.2.2.2 hQ
theorem madeX{h:Heap}{args:List Value}(hfr:A.frames=some (v::l))(hL:v.frame=some L)(hk:B.StaysIn h)(hl:h.FunFrames B (v::l))(hx:Heap.MadeExcOf h s.heap a cls args)
  (hQ:∀h',El B l a cls h'->s.heap.UpToSlots h'->Q () { s with heap:=h' }):wpAny M A (leaving v (.ref a)) Q E s:=by
 obtain⟨t,he,_,_⟩:=hx.there
 have fr:B.get? a=none:=by
  cases q:B.get? a with
  |none=>rfl
  |some o =>
   have:=hk a o q;rw[hx.new]at this;cases this
 unfold leaving noteFrame;simp only[hL];refine yed (yed (yet (x:=.none) he rfl rfl ?_));rw[if_neg (by simp)]
 refine Ua hfr (hl.of_keeps λb o q _=>⟨o,hx.keeps b o q,rfl⟩) hL he (λb o q=>hx.keeps b o (hk b o q)) fr rfl (by simp) rfl λh1 k1 sm=>TH (s:={ s with heap:=h1 }) k1 λh2 k2 sm2=>?_
 obtain⟨k1,k2,⟨_,_,k3⟩,k4⟩:=k2;exact hQ h2 ⟨k1,k2,k3,k4⟩ (sm.trans sm2)
end
def HA(B:Heap)(l:List Env)(a:Addr)(cls:Value)(h:Heap):Prop:=∃fl,B.StaysIn h/\B.get? a=none/\h.FunFrames B l/\K2 h B a cls fl
theorem U1{B h:Heap}{l:List Env}{a:Addr}{cls:Value}(x:El B l a cls h):HA B l a cls h:=⟨.none,x⟩
section
variable {M:Model}{A:Around}{E:Value->Shared->Prop}{s:Shared}{B:Heap}{env v:Env}{l:List Env}{L a:Addr}{cls:Value}{Q:Unit->Shared->Prop}
theorem S9(hfr:A.frames=some (v::l))(hv:env.frame=v.frame)(hL:v.frame=some L)(hx:HA B (v::l) a cls s.heap)(hQ:∀h',Pd B (v::l) a cls L h'->s.heap.UpToSlots h'->Q () { s with heap:=h' }):wpAny M A (noteFrame (.ref a) env) Q E s:=by
 have en:noteFrame (.ref a) env=noteFrame (.ref a) v:=by
  unfold noteFrame PySem.frameOf;rw[hv]
 rw[en];obtain⟨fl,f1,f2,f3,f4⟩:=hx
 by_cases hfl:fl=rawInt L
 .subst hfl;obtain⟨oe,ws,Tb,oT,ts,ha,_,hd,g1,_,_,hT,dT,g3⟩:=id f4;unfold noteFrame;simp only[hL];refine yed (yet ha hd g1 ?_);rw[if_pos (by simp)]
  refine yed (yet hT dT g3 ?_);rw[if_pos (by simp)]
  exact yeg (hQ _ ⟨f1,f2,f3,f4⟩ (.refl _))
 .obtain⟨oe,ws,Tb,oT,ts,ha,⟨rfl,g0⟩,hd,g1,nT,Tne,hT,dT,g3⟩:=f4;have g3s:=(yby.mp g3).1;have oth:∀b,b≠Tb->(s.heap.update Tb (Obj.mapFields (·.setIfInBounds 3 Value.none))).get? b=s.heap.get? b:=λb hb=>ybf _ _ (yb1 hb)
  have nr:∀b o,s.heap.get? b=some o->(∀us,o.data≠.fields us)->b≠Tb:=λb o hb hn z=>by
   rw[z,hT]at hb;cases hb;exact hn ts dT
  unfold noteFrame;simp only[hL];refine yed (yet ha hd g1 ?_);rw[if_pos (by simp)]
  refine yed (yet hT dT g3 ?_);rw[if_neg (λz=>hfl (beq_iff_eq.mp z))]
  refine yed (yes hT dT g3s ?_);refine Ua hfr (f3.of_keeps λb o hb hn=>⟨o,(oth b (nr b o hb hn)).trans hb,rfl⟩) hL ((oth a (yb1 Tne)).trans ha) (λb o hb=>(oth b λz=>by rw[z,nT]at hb;cases hb).trans (f1 b o hb)) f2 hd (yby.mp g1).1 g0 λh' k k4=>?_
  exact hQ h' k λb o hb hn=>k4 b o ((oth b (nr b o hb hn)).trans hb) hn
theorem leavX(hfr:A.frames=some (v::l))(hL:v.frame=some L)(hx:HA B (v::l) a cls s.heap)(hQ:∀h',El B l a cls h'->s.heap.UpToSlots h'->Q () { s with heap:=h' }):wpAny M A (leaving v (.ref a)) Q E s:=by
 unfold leaving;refine yed (S9 hfr rfl hL hx λh1 hh sm1=>TH hh λh2 hf sm2=>?_)
 obtain⟨k1,k2,⟨_,_,k3⟩,k4⟩:=hf;exact hQ h2 ⟨k1,k2,k3,k4⟩ (sm1.trans sm2)
end
def Bb(P:Program)(w:World):DD:=λouter H s E e s'=>∃(a:Addr) (cls:Value) (H':Hp) (B:Heap),
 e=.ref a/\s'.os=s.os/\AllBare s'.gens/\Un (BH outer) [] H H' s.heap s'.heap/\HOk P w H' B/\(∀b o,s.heap.get? b=some o->H b=none->b∉BH outer->B.get? b=some o) /\
 (∀b o,s.heap.get? b=some o->b∉BH outer->∃o',B.get? b=some o')/\HA B outer a cls s'.heap/\E cls none H'
theorem zf3{P:Program}{w:World}{H:Hp}{h:Heap}{a:Addr}{o:HO}(x:BR P w H h a o):∃ob,h.get? a=some ob:=by
 cases o with
 |lst xs=>obtain⟨_,_,_,_,e⟩:=x;exact⟨_,e⟩
 |tup xs=>obtain⟨_,_,_,o',e,_⟩:=x;exact⟨o',e⟩
 |dK kvs=>obtain⟨_,_,_,_,o',_,_,e,_⟩:=x;exact⟨o',e⟩
 |dT kvs=>obtain⟨_,_,_,_,o',_,_,e,_⟩:=x;exact⟨o',e⟩
 |set S n=>obtain⟨o',_,_,_,e,_⟩:=x;exact⟨o',e⟩
 |ins C dx fs=>obtain⟨_,_,_,e,_⟩:=x;exact⟨_,e⟩
 |own y=>exact x
 |xd fs=>obtain⟨_,⟨o',_,_,e,_⟩,_⟩:=x;exact⟨o',e⟩
 |rng lo hi=>obtain⟨_,_,_,e⟩:=x;exact⟨_,e⟩
 |frz ob u=>obtain⟨e,_⟩:=x;exact⟨_,e⟩
 |tbl ps=>exact⟨_,(show h.get? a=some _ from x)⟩
 |met f y=>exact⟨_,(show h.get? a=some _ from x)⟩
 |ext φ=>obtain⟨_,e,_⟩:=x;exact e
theorem none_of{P:Program}{w:World}{H:Hp}{h:Heap}{a:Addr}(x:HOk P w H h)(e:h.get? a=none):H a=none:=by
 cases q:H a with
 |none=>rfl
 |some u =>
  obtain⟨ob,z⟩:=zf3 (x a u q);rw[e]at z;cases z
def BM(X:Cx)(E:L2.St->XK):Prop:=∀(pins:List (Addr×Obj)) (σ:L2.St) (H:Hp) (s:Shared) (e:Value) (s':Shared),Inv X pins σ H s->Bb X.prog X.w X.stack H s (E σ) e s'->X.xe e s'
def P7(X:Cx)(E:L2.St->XK):Prop:=∀(pins:List (Addr×Obj)) (σ:L2.St) (H:Hp) (s:Shared) (a:Addr) (cls:Value) (vs:List Value) (h':Heap),Inv X pins σ H s->Heap.MadeExcOf s.heap h' a cls vs->E σ cls none H->X.xe (.ref a) { s with heap:=h' }
section
variable {X:Cx}{pins:List (Addr×Obj)}{σ:L2.St}{H:Hp}{s:Shared}
theorem J4(I:Inv X pins σ H s){b:Addr}{o:Obj}(e:X.s₀.heap.get? b=some o)(hb:b∉BH X.outer):b∉BH X.stack:=λz=>by
 rcases yai.mp (I.stkSub b z) with q|q
 .exact absurd (yaj (yad e) I.ok.above) (by rw[q];exact yb5 _)
 .exact hb q
theorem zdq(hst:X.stack=X.env::X.outer){b:Addr}(hb:b∈BH X.outer):b∈BH X.stack:=by
 rw[hst];obtain⟨v,h1,h2⟩:=yc5.mp hb;exact yc5.mpr ⟨v,ya6 _ h1,h2⟩
theorem zmw(I:Inv X pins σ H s):HOk X.prog X.w H (PySem.W.hideAll s.heap (BH X.stack)):=λb u e=>(I.hok b u e).stay (λc v hc q=>yc2 _ q λz=>by
  have f:=I.stkFree c z
  rcases hc with y|y
  .rw[y,e]at f;cases f
  .rw[y]at f;cases f) (λ_ q=>q) λ_ _ q=>q
theorem ziq(hst:X.stack=X.env::X.outer)(hf:X.env.frame=some X.env.locals)(hex:X.ex=[]){E:XK}{a:Addr}{cls:Value}{vs:List Value}{h':Heap}{Ex:Value->Shared->Prop}(I:Inv X pins σ H s)(hx:Heap.MadeExcOf s.heap h' a cls vs)(he:E cls none H) :
  wpAny (model X.prog X.w) X.A (leaving X.env (.ref a)) (λ_ s2=>Bb X.prog X.w X.outer X.H₀ X.s₀ E (.ref a) s2) Ex { s with heap:=h' }:=by
 have nex:∀b:Addr,b∉X.ex:=λb z=>by rw[hex]at z;cases z
 have hfr:X.A.frames=some (X.env::X.outer):=hst▸I.ok.frames
 have FF:s.heap.FunFrames (PySem.W.hideAll s.heap (BH X.stack)) (X.env::X.outer):=by
  rw[<- hst];exact PySem.W.funFrames_hide I.stack λv hv b hb=>yc5.mpr ⟨v,hv,hb⟩
 refine madeX (B:=PySem.W.hideAll s.heap (BH X.stack)) (h:=s.heap) (args:=vs) hfr hf (λb o q=>ycj _ q) FF hx λh2 fl sm=>?_
 have kB:∀b o,X.s₀.heap.get? b=some o->X.H₀ b=none->b∉BH X.outer->(PySem.W.hideAll s.heap (BH X.stack)).get? b=some o:=λb o e n hb=>yc2 _ (I.base.keep b o e n hb (nex b)) (J4 I e hb)
 have tB:∀b o,X.s₀.heap.get? b=some o->b∉BH X.outer->∃o',(PySem.W.hideAll s.heap (BH X.stack)).get? b=some o':=λb o e hb=>by
  obtain⟨o',e'⟩:=I.base.there b o e (nex b);exact⟨o',yc2 _ e' (J4 I e hb)⟩
 have sl:∀b o,X.s₀.heap.get? b=some o->X.H₀ b=none->b∈BH X.outer->∃z,h2.get? b=some { o with slots:=z }:=λb o e n hb=>by
  obtain⟨z,e1⟩:=I.base.slot b o e n hb (nex b);obtain⟨_,o2,ho2,hd⟩:=I.funs.mem hb;rw[e1]at ho2;cases ho2;obtain⟨z3,e3⟩:=sm b { o with slots:=z } (hx.keeps b _ e1) hd
  exact⟨z3,e3⟩
 refine⟨a,cls,H,_,rfl,I.os,I.bare,⟨λb o e n hb _=>fl.1 b o (kB b o e n hb),λb o e n hb _=>sl b o e n hb,λb o e n _=>I.base.free b o e n (nex b),λb o e _=>?_,I.base.tups,I.base.frzs,I.base.tbls⟩,zmw I,kB,tB,U1 fl,he⟩
 by_cases hb:b∈BH X.outer
 .obtain⟨z,q⟩:=sl b o e (I.ok.frf b hb) hb;exact⟨_,q⟩
 .obtain⟨o',q⟩:=tB b o e hb;exact⟨o',fl.1 b o' q⟩
theorem zi2(hst:X.stack=X.env::X.outer)(hf:X.env.frame=some X.env.locals)(hex:X.ex=[]){E:XK}{e:Value}{s':Shared}{Ex:Value->Shared->Prop}(I:Inv X pins σ H s)(h:Bb X.prog X.w X.stack H s E e s') :
  wpAny (model X.prog X.w) X.A (leaving X.env e) (λ_ s2=>Bb X.prog X.w X.outer X.H₀ X.s₀ E e s2) Ex s':=by
 obtain⟨a,cls,H',B,rfl,os,bare,un,hok,kB0,tB0,fl0,he⟩:=h;have nex:∀b:Addr,b∉X.ex:=λb z=>by rw[hex]at z;cases z
 have hfr:X.A.frames=some (X.env::X.outer):=hst▸I.ok.frames;have fl1:HA B (X.env::X.outer) a cls s'.heap:=hst▸fl0;refine leavX hfr hf fl1 λh2 fl sm=>?_
 have kB:∀b o,X.s₀.heap.get? b=some o->X.H₀ b=none->b∉BH X.outer->B.get? b=some o:=λb o e n hb=>kB0 b o (I.base.keep b o e n hb (nex b)) (I.base.free b o e n (nex b)) (J4 I e hb)
 have tB:∀b o,X.s₀.heap.get? b=some o->b∉BH X.outer->∃o',B.get? b=some o':=λb o e hb=>by
  obtain⟨o',e'⟩:=I.base.there b o e (nex b);exact tB0 b o' e' (J4 I e hb)
 have sl:∀b o,X.s₀.heap.get? b=some o->X.H₀ b=none->b∈BH X.outer->∃z,h2.get? b=some { o with slots:=z }:=λb o e n hb=>by
  obtain⟨z,e1⟩:=I.base.slot b o e n hb (nex b);obtain⟨_,o2,ho2,hd⟩:=I.funs.mem hb;rw[e1]at ho2;cases ho2;obtain⟨z2,e2⟩:=un.slot b { o with slots:=z } e1 (I.base.free b o e n (nex b)) (zdq hst hb) (by simp)
  obtain⟨z3,e3⟩:=sm b { o with slots:=z2 } e2 hd
  exact⟨z3,e3⟩
 refine⟨a,cls,H',B,rfl,os.trans I.os,bare,⟨λb o e n hb _=>fl.1 b o (kB b o e n hb),λb o e n hb _=>sl b o e n hb,λb o e n _=>?_,λb o e _=>?_,λb xs e=>un.tups b xs (I.base.tups b xs e),λb o u e=>un.frzs b o u (I.base.frzs b o u e),λb ps e=>?_⟩,hok,kB,tB,U1 fl,he⟩
 .obtain⟨o',e'⟩:=I.base.there b o e (nex b);exact un.free b o' e' (I.base.free b o e n (nex b)) (by simp)
 .by_cases hb:b∈BH X.outer
  .obtain⟨z,q⟩:=sl b o e (I.ok.frf b hb) hb;exact⟨_,q⟩
  .obtain⟨o',q⟩:=tB b o e hb;exact⟨o',fl.1 b o' q⟩
 .obtain⟨m1,e1⟩:=I.base.tbls b ps e;obtain⟨m2,e2⟩:=un.tbls b _ e1;exact⟨m1++m2,e2.trans (by rw[yds])⟩
end
section
variable {P:Program}{w:World}{K:k6}{mg:Str->Option Value}{base:Heap}
theorem RU{N:List Str}{qual:Str}{sc:Scope}{f:Addr}{cd:Value}{A:Around}{outer:List Env}{s:Shared}{H:Hp}{E:XK}:BM (D0 (Bb P w) P w K mg base N qual sc f cd A outer s H E) (λ_=>E) :=
 λ_ _ _ _ _ _ I h=>zi2 rfl rfl rfl I h
theorem Sk{N:List Str}{qual:Str}{sc:Scope}{f:Addr}{cd:Value}{A:Around}{outer:List Env}{s:Shared}{H:Hp}{E:XK}:P7 (D0 (Bb P w) P w K mg base N qual sc f cd A outer s H E) (λ_=>E) :=
 λ_ _ _ _ _ _ _ _ I hx he=>ziq rfl rfl rfl I hx he
theorem RZ{x qual:Str}{st:Stmt}{f:Addr}{fd:FuncData}{N ps:List Str}{k:Nat}{sp:Sp}(F:FunD K x qual st f fd)(S:FnScope N ps (AL st))(len:∀vs H Q E,sp vs H Q E->vs.length=ps.length)
  (hbody : ∀ (cdv : Value) (A : Around) (outer : List Env) (s : Shared) (H : Hp) (vs : List V) (Q : VK) (E : XK), Room k (A.deeper (envOfC qual (AL st) s.heap.objs.size f cdv)) -> sp vs H Q E ->
   ∃t,BC (D0 (Bb P w) P w K mg base N qual (AL st) f cdv A outer s H E) (A9 st) t/\t { nx:=λ_ H'=>Q .non H',rt:=Q } (start N vs) H):FnOk P w K mg base (Bb P w) (k+1) f fd ps sp:=by
 obtain⟨oc,od,dV,kV,doc,pm,an,cdv,ct,osl,rfl,lk,hcd⟩:=F.ex;exact Nz lk hcd S len λA outer s H vs Q E hr hsp=>hbody cdv A outer s H vs Q E hr hsp
end
set_option genInjectivity false in
structure DefX(P:Program)(w:World)(K:k6)(mg:Str->Option Value)(base:Heap)(k:Nat)(x:Str)(ps:List Str)(sp:Sp) where
 f:Addr
 fd:FuncData
 ok:FnOk P w K mg base (Bb P w) k f fd ps sp
 m:mg x=some (.ref f)
 kp:PySem.W.keepIn K (.ref f)=true
 b:CY K fd ps []
section
variable {X:Cx}{k j:Nat}{f:Addr}{fd:FuncData}{x:Str}{ps:List Str}{sp:Sp}{p pos:Pos}{e:Expr}{es:List Expr}{t:TA}{E:L2.St->XK}{dvs:List V}
theorem MM{pins:List (Addr×Obj)}{σ:L2.St}{H:Hp}{s:Shared}{Q:VK}{us ds:List Value}{vs:List V}(F:FnOk X.prog X.w X.K X.mg X.base (Bb X.prog X.w) k f fd ps sp)(hr:Room k X.A)(hb:CY X.K fd ps ds)(hd:AR dvs ds)(hx:BM X E)
  (I:Inv X pins σ H s) (r:AR vs us) (h:sp (vs++dvs) H Q (E σ)):wpAny (model X.prog X.w) X.A (call (.ref f) us) (EP X pins σ Q) X.xe s:=by
 have r2:AR (vs++dvs) (us++ds):=r.append hd;have hl:(us++ds).length=ps.length:=r2.length.symm.trans (F.len _ _ _ _ h);refine yek (yel (F.run X.A X.stack s H ⟨us,[]⟩ (us++ds) (vs++dvs) Q (E σ) hr I.env0 (hb s us I.kIn hl) r2 h) λr s' hq=>?_)
 cases r with
 |error v=>exact hx pins σ H s v s' I hq
 |ok fl =>
  cases fl with
  |ret u=>exact I.after hq
  |_=>exact False.elim hq
def QX(sp:Sp)(dvs:List V)(E:L2.St->XK)(t:TA):TE:=λσ H Q=>t σ H λvs H1=>sp (vs++dvs) H1 Q (E σ)
theorem px(D:DefX X.prog X.w X.K X.mg X.base k x ps sp)(hr:Room j X.A)(hx:BM X E)(ha:PA X (e::es) t)(hk:k<=j:=by decide)(hg:Gl X x:=by rfl)(hdb:(x == ("__debug__":Str))=false:=by decide)
  (he:starEach (e::es) X.env=(false,eval e X.env)::starEach es X.env:=by rfl) (hpl:(backTo pos (starEach es X.env)).any (·.1)=false:=by rfl):PE X (.Call (.Name x p) (e::es) [] pos) (QX sp [] E t):=by
 intro pins s σ H Q I h;refine yem (Hi I hg D.m ?_ hdb);refine ycx (h₀:=X.base) I.ok.mod.kin D.kp (AO (ha pos pins s σ H _ I h) λus s1 ⟨vs,H1,I1,r,q⟩=>⟨I1.kIn,?_⟩) he hpl
 exact MM D.ok (hr.mono hk) D.b .nil hx I1 r q
end
abbrev vmro:List Value:=[.type "ValueError",.type "Exception",.type "BaseException",.type "object"]
structure ExcK(K:k6)(C:Addr):Prop where
 q:PySem.W.excIn K C vmro "ValueError.__new__"=true
 self:PySem.W.subIn K (.ref C) (.ref C)=some true
 cd:∃cd,PySem.W.clsIn K C=some cd
 ty:PySem.W.typeIn K (.ref C)=some (.type "type")
 ga:PySem.W.findIn K (.ref C) "__getattribute__"=some (some (.builtin "BaseException.__getattribute__"))
 gt:PySem.W.findIn K (.ref C) "__getattr__"=some none
 ca:PySem.W.findIn K (.ref C) "__class__"=some (some (.builtin "object.__class__"))
 ob:PySem.W.mroIn K C (.type "object")=some true
 be:PySem.W.mroIn K C (.type "BaseException")=some true
 gs:PySem.W.specialIn K (.builtin "object.__class__") "__get__"=some (some (.builtin "getset_descriptor.__get__"))
 tk:PySem.W.takesIn K (.builtin "object.__class__")=some true
structure ECls(K:k6)(mg:Str->Option Value)(x:Str) where
 C:Addr
 m:mg x=some (.ref C)
 k:ExcK K C
theorem zn0{K:k6}{h:Heap}{C:Addr}{bmB:List Value}{newId:String}(X:K.In h)(q:PySem.W.excIn K C bmB newId=true):∃bm N nm qn bs hd sn sub ab col dd k0 k1 k2 k3 k5 mN,
  h.get? C=some (excClassObj nm qn C N bs bm hd sn sub ab col dd k0 k1 k2 k3 k5 newId)/\h.Ns N mN/\mN "__init__"=none/\OwnTail h bmB bm:=by
 unfold PySem.W.excIn at q;split at q
 .rename_i dd cd sl ho;split at q
  .rename_i C2 bm k0 k1 k2 k3 nid k5 hm hs;simp only[yc9,ya3,yeu]at q;obtain⟨⟨⟨⟨⟨z1,z2⟩,hdel⟩,ht⟩,hok⟩,hni⟩:=q;subst z1;subst z2;obtain⟨nm,bs,mro,nsp,qn,hd,sn,sub,ab,col,dl⟩:=cd;dsimp only at hm hok hni hdel;subst hm;subst hdel
   have hsl:sl=#[k0,k1,k2,k3,some (.builtin nid),k5]:=by
    obtain⟨l⟩:=sl;have hs':l=[k0,k1,k2,k3,some (.builtin nid),k5]:=hs;rw[hs']
   subst hsl;exact⟨bm,nsp,nm,qn,bs,hd,sn,sub,ab,col,dd,k0,k1,k2,k3,k5,_,X _ _ ho,.of_isNs (PySem.W.isNs_of_in X hok),PySem.W.nsMap_none_of_in X hok hni,PySem.W.tail_of_in X ht⟩
  .exact absurd q ybm
 .exact absurd q ybm
section
variable {X:Cx}{x:Str}{p cpos pos:Pos}{e:Expr}{es:List Expr}{t:TA}{E:L2.St->XK}
def zk6(C:Addr)(E:L2.St->XK)(t:TA):TS:=λ_ σ H=>t σ H λvs H1=>vs.length<=sizeLine/\E σ (.ref C) none H1
theorem zfp(T:ECls X.K X.mg x)(hc:X.calm=true)(hx:P7 X E)(ha:PA X (e::es) t)(hg:Gl X x:=by rfl)(hdb:(x == ("__debug__":Str))=false:=by decide)
  (he:starEach (e::es) X.env=(false,eval e X.env)::starEach es X.env:=by rfl) (hpl:(backTo cpos (starEach (e::es) X.env)).any (·.1)=false:=by rfl) :
  PS X (.Raise (some (.Call (.Name x p) (e::es) [] cpos)) none pos) (zk6 T.C E t):=by
 intro pins s σ H D I h;obtain⟨bm,N,nm,qn,bs,hd,sn,sub,ab,col,dd,k0,k1,k2,k3,k5,mN,hC,hN,hni,TL⟩:=zn0 I.mod.kin T.k.q
 refine wpAny_Raise_call_subT (C:=T.C) (nm:=nm) (q:=qn) (N:=N) (bs:=bs) (bm:=bm) (hdct:=hd) (sn:=sn) (sub:=sub) (ab:=ab) (col:=col) (dd:=dd) (k0:=k0) (k1:=k1) (k2:=k2) (k3:=k3) (k5:=k5) (mN:=mN)
  PySem.F.excBase_ValueError (TL.hasType PySem.F.excBase_ValueError.hasBase) (I.ok.hd hc) hpl hni (Hi I hg T.m ⟨rfl,?_⟩ hdb)
 have h2:=ha cpos pins s σ H _ I h;rw[he]at h2 ⊢;exact Calls.evalArgs_plain (AO h2 λus s1 ⟨vs,H1,I1,r,z,q1⟩=>⟨rfl,r.length▸z,I1.bk _ _ hC,hN.keeps I1.bk,TL.keeps I1.bk,λh' a hm=>hx pins σ H1 s1 a _ us h' I1 hm q1⟩)
end
def IK(H:Hp)(a C:Addr):Prop:=∃ob,H a=some (.frz ob (.own 0))/\ob.cls=.ref C/\∃vs,ob.data=.fields vs/\vs[2]?=some .none
theorem IK.of{H F:Hp}{a C:Addr}(x:IK H a C)(e:∀u,H a=some u->F a=some u):IK F a C :=
 let ⟨ob,y,r⟩:=x;⟨ob,e _ y,r⟩
section
variable {K:k6}{a C:Addr}
end
section
variable {X:Cx}
end
section
variable {X:Cx}{pins:List (Addr×Obj)}{σ:L2.St}{H:Hp}{s:Shared}{xe:Value->Shared->Prop}
end
section
variable {A:Around}{E:Value->Shared->Prop}{M:Model}
end
section
variable {X:Cx}{i:Nat}{x n:Str}{np pos hpos:Pos}{body suite:List Stmt}{b₀:Stmt}{tb th:TS}{E:L2.St->XK}
end
end Zx
namespace Pu
open PySem PySem.Spec PyProof.Rows L2 Zw Zx
abbrev Rg:=Addr->Prop
def R0:Rg:=λ_=>False
inductive Kd where
 |lst|rl|tup|rt|pin (p:Addr)
inductive Ob where
 |ins (C:Addr) (fs:List Str)|exn (C:Addr)|sdc (ks:List Str)|lab (p:Addr)
inductive T where
 |non|bl (b:Bool)|int (i:Int)|str (x:Str)|nd (o:Bool) (k:Kd) (l:List T)|dic (ks:List Int) (l:List T)|pdc (ks:List Int) (l:List T)|odc (ks:List Int) (l:List T)
 |obj (k:Ob) (l:List T)|oob (p C:Addr) (fs:List Str) (l:List T)|osd (ks:List Str) (l:List T)
abbrev T.lst(l:List T):T:=.nd false .lst l
noncomputable abbrev T.own(l:List T):T:=.nd true .lst l
noncomputable abbrev T.tup(l:List T):T:=.nd false .tup l
mutual
def T.share:T->T
 |.nd _ k l=>.nd false k (BD l)
 |.dic ks l=>.dic ks (BD l)
 |.pdc ks l=>.pdc ks (BD l)
 |.odc ks l=>.pdc ks (BD l)
 |.obj k l=>.obj k (BD l)
 |.oob _ C fs l=>.obj (.ins C fs) (BD l)
 |.osd ks l=>.obj (.sdc ks) (BD l)
 |.non=>.non
 |.bl b=>.bl b
 |.int i=>.int i
 |.str x=>.str x
def BD:List T->List T
 |[]=>[]
 |t::r=>t.share::BD r
end
mutual
def T.sh:T->Bool
 |.nd o _ l=>!o && A5 l
 |.dic _ l=>A5 l
 |.pdc _ l=>A5 l
 |.odc _ _=>false
 |.obj _ l=>A5 l
 |.oob _ _ _ _=>false
 |.osd _ _=>false
 |.non=>true
 |.bl _=>true
 |.int _=>true
 |.str _=>true
def A5:List T->Bool
 |[]=>true
 |t::r=>t.sh && A5 r
end
noncomputable def T.flat:T->Bool
 |.nd _ _ _=>false
 |.dic _ _=>false
 |.pdc _ _=>false
 |.odc _ _=>false
 |.obj _ _=>false
 |.oob _ _ _ _=>false
 |.osd _ _=>false
 |_=>true
theorem Cu:∀l:List T,BD l=l.map T.share
 |[]=>rfl
 |t::r=>by rw[BD,Cu r];rfl
theorem Bs:∀l:List T,A5 l=l.all T.sh
 |[]=>rfl
 |t::r=>by rw[A5,Bs r];rfl
mutual
theorem Cj:∀t:T,t.sh=true->t.share=t
 |.nd o k l,h=>by
  rw[T.sh,ya3]at h;have ho:o=false:=by simpa using h.1
  subst ho;rw[T.share,AJ l h.2]
 |.dic ks l,h=>by
  rw[T.sh]at h;rw[T.share,AJ l h]
 |.pdc ks l,h=>by
  rw[T.sh]at h;rw[T.share,AJ l h]
 |.odc ks l,h=>by
  rw[T.sh]at h;cases h
 |.obj k l,h=>by
  rw[T.sh]at h;rw[T.share,AJ l h]
 |.oob p C fs l,h=>by
  rw[T.sh]at h;cases h
 |.osd ks l,h=>by
  rw[T.sh]at h;cases h
 |.non,_=>rfl
 |.bl _,_=>rfl
 |.int _,_=>rfl
 |.str _,_=>rfl
theorem AJ:∀l:List T,A5 l=true->BD l=l
 |[],_=>rfl
 |t::r,h=>by
  rw[A5,ya3]at h;rw[BD,Cj t h.1,AJ r h.2]
end
theorem L5{l:List T}(h:A5 l=true){i:Nat}{t:T}(e:l[i]?=some t):t.sh=true:=by
 rw[Bs]at h;exact yas.mp h _ (yak e)
def Dy(K:k6)(F:Hp)(k:Kd)(p:Addr)(xs:List V):Prop:=match k with
 |.lst=>F p=some (.lst xs)
 |.rl=>AS K F p xs
 |.tup=>F p=some (.tup xs)
 |.rt=>B7 K F p xs
 |.pin _=>F p=some (.lst xs)
theorem Et{K:k6}{F F':Hp}{p:Addr}{xs:List V}(s:AQ F F')(h:B7 K F p xs):B7 K F' p xs:=by
 rcases h with (h|⟨o,h⟩)|h
 .exact .inl (.inl (s _ _ h))
 .exact .inl (.inr ⟨o,s _ _ h⟩)
 .exact .inr h
theorem Dy.same{K:k6}{F F':Hp}{k:Kd}{p:Addr}{xs:List V}(h:Dy K F k p xs)(s:AQ F F'):Dy K F' k p xs:=by
 cases k with
 |lst=>exact s _ _ h
 |rl=>exact s.seq h
 |tup=>exact s _ _ h
 |rt=>exact Et s h
 |pin q=>exact s _ _ h
def Gv(k:Kd)(p:Addr):Prop:=match k with
 |.lst=>True
 |.pin q=>q=p
 |_=>False
theorem Gv.node{K:k6}{F:Hp}{k:Kd}{p:Addr}{xs:List V}(hk:Gv k p)(h:F p=some (.lst xs)):Dy K F k p xs:=by
 cases k with
 |lst=>exact h
 |pin q=>exact h
 |_=>exact hk.elim
def DQ(ks:List Int)(xs:List V):List (Key×V):=List.zipWith (λk x=>(Sum.inl k,x)) ks xs
def Bp(ks:List Str)(xs:List V):List (Key×V):=List.zipWith (λk x=>(Sum.inr k,x)) ks xs
def Gw(F:Hp)(k:Ob)(p:Addr)(xs:List V):Prop:=match k with
 |.ins C fs=>∃dx,F p=some (.ins C dx (fs.zip xs))
 |.exn C=>IK F p C
 |.sdc ks=>ks.length=xs.length/\F p=some (.dK (Bp ks xs))
 |.lab q=>q=p/\xs=[.ref p]
theorem Gw.same{F F':Hp}{k:Ob}{p:Addr}{xs:List V}(h:Gw F k p xs)(s:AQ F F'):Gw F' k p xs:=by
 cases k with
 |ins C fs=>exact h.elim λdx e=>⟨dx,s _ _ e⟩
 |exn C=>exact h.of λu=>s p u
 |sdc ks=>exact⟨h.1,s _ _ h.2⟩
 |lab q=>exact h
inductive Rp(K:k6)(F H:Hp):T->V->Rg->Prop where
 |non:Rp K F H .non .non R0
 |bl (b:Bool):Rp K F H (.bl b) (.bl b) R0
 |int (i:Int):Rp K F H (.int i) (.int i) R0
 |str (x:Str):Rp K F H (.str x) (.str x) R0
 |shr {k:Kd} {p:Addr} {xs:List V} {l:List T} (h:Dy K F k p xs) (e:l.length=xs.length) (c:∀(i:Nat) (t:T) (x:V),l[i]?=some t->xs[i]?=some x->Rp K F H t x R0):Rp K F H (.nd false k l) (.ref p) R0
 |dic {p:Addr} {ob:Obj} {ks:List Int} {xs:List V} {l:List T} (h:F p=some (.frz ob (.dK (DQ ks xs)))) (e:l.length=xs.length) (ek:ks.length=xs.length) (c:∀(i:Nat) (t:T) (x:V),l[i]?=some t->xs[i]?=some x->Rp K F H t x R0):Rp K F H (.dic ks l) (.ref p) R0
 |pdc {p:Addr} {ks:List Int} {xs:List V} {l:List T} (h:F p=some (.dK (DQ ks xs))) (e:l.length=xs.length) (ek:ks.length=xs.length) (c:∀(i:Nat) (t:T) (x:V),l[i]?=some t->xs[i]?=some x->Rp K F H t x R0):Rp K F H (.pdc ks l) (.ref p) R0
 |odc {p:Addr} {ks:List Int} {xs:List V} {l:List T} (f:F p=none) (h:H p=some (.dK (DQ ks xs))) (e:l.length=xs.length) (ek:ks.length=xs.length) (c:∀(i:Nat) (t:T) (x:V),l[i]?=some t->xs[i]?=some x->Rp K F H t x R0):Rp K F H (.odc ks l) (.ref p) (λa=>a=p)
 |obj {k:Ob} {p:Addr} {xs:List V} {l:List T} (h:Gw F k p xs) (e:l.length=xs.length) (c:∀(i:Nat) (t:T) (x:V),l[i]?=some t->xs[i]?=some x->Rp K F H t x R0):Rp K F H (.obj k l) (.ref p) R0
 |oob {C p dx:Addr} {fs:List Str} {xs:List V} {l:List T} (R:Nat->Rg) (f:F p=none) (h:H p=some (.ins C dx (fs.zip xs))) (e:l.length=xs.length) (c:∀(i:Nat) (t:T) (x:V),l[i]?=some t->xs[i]?=some x->Rp K F H t x (R i))
   (d:∀i j a,i≠j->R i a->¬ R j a) (dp:∀i,¬ R i p) (o:∀i a,R i a->i<l.length):Rp K F H (.oob p C fs l) (.ref p) (λa=>a=p\/∃i,R i a)
 |osd {p:Addr} {ks:List Str} {xs:List V} {l:List T} (f:F p=none) (h:H p=some (.dK (Bp ks xs))) (e:l.length=xs.length) (ek:ks.length=xs.length) (c:∀(i:Nat) (t:T) (x:V),l[i]?=some t->xs[i]?=some x->Rp K F H t x R0):Rp K F H (.osd ks l) (.ref p) (λa=>a=p)
 |own {k:Kd} {p:Addr} {xs:List V} {l:List T} (hk:Gv k p) (R:Nat->Rg) (f:F p=none) (h:H p=some (.lst xs)) (e:l.length=xs.length) (c:∀(i:Nat) (t:T) (x:V),l[i]?=some t->xs[i]?=some x->Rp K F H t x (R i))
   (d:∀i j a,i≠j->R i a->¬ R j a) (dp:∀i,¬ R i p) (o:∀i a,R i a->i<l.length):Rp K F H (.nd true k l) (.ref p) (λa=>a=p\/∃i,R i a)
section
variable {K:k6}{F F' H H':Hp}{t:T}{x:V}{A:Rg}
theorem Rp.frame(h:Rp K F H t x A)(s:AQ F F')(k:∀a,A a->H' a=H a/\F' a=none):Rp K F' H' t x A:=by
 induction h with
 |non=>exact .non
 |bl b=>exact .bl b
 |int i=>exact .int i
 |str y=>exact .str y
 |shr h e c ih=>exact .shr (h.same s) e λi t x h1 h2=>ih i t x h1 h2 λa z=>z.elim
 |dic h e ek c ih=>exact .dic (s _ _ h) e ek λi t x h1 h2=>ih i t x h1 h2 λa z=>z.elim
 |pdc h e ek c ih=>exact .pdc (s _ _ h) e ek λi t x h1 h2=>ih i t x h1 h2 λa z=>z.elim
 |odc f h e ek c ih =>
  have q:=k _ rfl;exact .odc q.2 (q.1.trans h) e ek λi t x h1 h2=>ih i t x h1 h2 λa z=>z.elim
 |obj h e c ih=>exact .obj (h.same s) e λi t x h1 h2=>ih i t x h1 h2 λa z=>z.elim
 |oob R f h e c d dp o ih =>
  have q:=k _ (.inl rfl);exact .oob R q.2 (q.1.trans h) e (λi t x h1 h2=>ih i t x h1 h2 λa z=>k a (.inr ⟨i,z⟩)) d dp o
 |osd f h e ek c ih =>
  have q:=k _ rfl;exact .osd q.2 (q.1.trans h) e ek λi t x h1 h2=>ih i t x h1 h2 λa z=>z.elim
 |own hk R f h e c d dp o ih =>
  have q:=k _ (.inl rfl);exact .own hk R q.2 (q.1.trans h) e (λi t x h1 h2=>ih i t x h1 h2 λa z=>k a (.inr ⟨i,z⟩)) d dp o
theorem Rp.dom(h:Rp K F H t x A){a:Addr}(ha:A a):F a=none/\∃u,H a=some u:=by
 induction h with
 |non=>exact ha.elim
 |bl b=>exact ha.elim
 |int i=>exact ha.elim
 |str y=>exact ha.elim
 |shr h e c ih=>exact ha.elim
 |dic h e ek c ih=>exact ha.elim
 |pdc h e ek c ih=>exact ha.elim
 |odc f h e ek c ih =>
  cases ha;exact⟨f,_,h⟩
 |obj h e c ih=>exact ha.elim
 |osd f h e ek c ih =>
  cases ha;exact⟨f,_,h⟩
 |@oob C p dx fs xs l R f h e c d dp o ih =>
  rcases ha with rfl|⟨i,z⟩
  .exact⟨f,_,h⟩
  .have hi:=o i a z;have hx:i<xs.length:=by omega
   exact ih i _ _ (ya0 hi) (ya0 hx) z
 |@own k0 p xs l hk R f h e c d dp o ih =>
  rcases ha with rfl|⟨i,z⟩
  .exact⟨f,_,h⟩
  .have hi:=o i a z;have hx:i<xs.length:=by omega
   exact ih i _ _ (ya0 hi) (ya0 hx) z
theorem Rp.share(h:Rp K F H t x A)(s:AQ F F')(k:∀a u,A a->H a=some u->F' a=some u):Rp K F' H' t.share x R0:=by
 induction h with
 |non=>exact .non
 |bl b=>exact .bl b
 |int i=>exact .int i
 |str y=>exact .str y
 |@shr k0 p xs l h e c ih =>
  rw[T.share,Cu];refine .shr (h.same s) (by rw[ya1];exact e) λi t x h1 h2=>?_
  rw[ya4]at h1;obtain⟨t0,e0,rfl⟩:=ya2.mp h1;exact ih i t0 x e0 h2 λa u z=>z.elim
 |@dic p ob ks xs l h e ek c ih =>
  rw[T.share,Cu];refine .dic (s _ _ h) (by rw[ya1];exact e) ek λi t x h1 h2=>?_
  rw[ya4]at h1;obtain⟨t0,e0,rfl⟩:=ya2.mp h1;exact ih i t0 x e0 h2 λa u z=>z.elim
 |@pdc p ks xs l h e ek c ih =>
  rw[T.share,Cu];refine .pdc (s _ _ h) (by rw[ya1];exact e) ek λi t x h1 h2=>?_
  rw[ya4]at h1;obtain⟨t0,e0,rfl⟩:=ya2.mp h1;exact ih i t0 x e0 h2 λa u z=>z.elim
 |@odc p ks xs l f h e ek c ih =>
  rw[T.share,Cu];refine .pdc (k _ _ rfl h) (by rw[ya1];exact e) ek λi t x h1 h2=>?_
  rw[ya4]at h1;obtain⟨t0,e0,rfl⟩:=ya2.mp h1;exact ih i t0 x e0 h2 λa u z=>z.elim
 |@obj k0 p xs l h e c ih =>
  rw[T.share,Cu];refine .obj (h.same s) (by rw[ya1];exact e) λi t x h1 h2=>?_
  rw[ya4]at h1;obtain⟨t0,e0,rfl⟩:=ya2.mp h1;exact ih i t0 x e0 h2 λa u z=>z.elim
 |@oob C p dx fs xs l R f h e c d dp o ih =>
  rw[T.share,Cu];refine .obj (k:=.ins C fs) (xs:=xs) ⟨dx,k _ _ (.inl rfl) h⟩ (by rw[ya1];exact e) λi t x h1 h2=>?_
  rw[ya4]at h1;obtain⟨t0,e0,rfl⟩:=ya2.mp h1;exact ih i t0 x e0 h2 λa u z=>k a u (.inr ⟨i,z⟩)
 |@osd p ks xs l f h e ek c ih =>
  rw[T.share,Cu];refine .obj (k:=.sdc ks) (xs:=xs) ⟨ek,k _ _ rfl h⟩ (by rw[ya1];exact e) λi t x h1 h2=>?_
  rw[ya4]at h1;obtain⟨t0,e0,rfl⟩:=ya2.mp h1;exact ih i t0 x e0 h2 λa u z=>z.elim
 |@own k0 p xs l hk R f h e c d dp o ih =>
  rw[T.share,Cu];refine .shr (k:=k0) (xs:=xs) (hk.node (k _ _ (.inl rfl) h)) (by rw[ya1];exact e) λi t x h1 h2=>?_
  rw[ya4]at h1;obtain⟨t0,e0,rfl⟩:=ya2.mp h1;exact ih i t0 x e0 h2 λa u z=>k a u (.inr ⟨i,z⟩)
theorem Rp.r0(h:Rp K F H t x A)(s:t.sh=true):A=R0:=by
 cases h with
 |own hk R f h e c d dp o =>
  rw[T.sh]at s;cases s
 |odc f h e ek c =>
  rw[T.sh]at s;cases s
 |oob R f h e c d dp o =>
  rw[T.sh]at s;cases s
 |osd f h e ek c =>
  rw[T.sh]at s;cases s
 |_=>rfl
theorem Rp.move(h:Rp K F H t x A)(s:t.sh=true)(q:AQ F F'):Rp K F' H' t x R0:=by
 have e:=h.r0 s;subst e;exact h.frame q λa z=>z.elim
theorem Rp.flat_any(h:Rp K F H t x A)(s:t.flat=true):Rp K F' H' t x R0:=by
 cases h with
 |non=>exact .non
 |bl b=>exact .bl b
 |int i=>exact .int i
 |str y=>exact .str y
 |shr h e c=>cases s
 |dic h e ek c=>cases s
 |pdc h e ek c=>cases s
 |odc f h e ek c=>cases s
 |obj h e c=>cases s
 |oob R f h e c d dp o=>cases s
 |osd f h e ek c=>cases s
 |own hk R f h e c d dp o=>cases s
theorem Rp.int_inv{i:Int}(h:Rp K F H (.int i) x A):x=.int i:=by cases h;rfl
theorem Rp.bl_inv{b:Bool}(h:Rp K F H (.bl b) x A):x=.bl b:=by cases h;rfl
theorem Rp.non_inv(h:Rp K F H .non x A):x=.non:=by cases h;rfl
theorem Rp.str_inv{y:Str}(h:Rp K F H (.str y) x A):x=.str y:=by cases h;rfl
end
def A6(K:k6)(F:Hp)(ts:List T)(xs:List V):Prop:=ts.length=xs.length/\∀(i:Nat) (t:T) (x:V),ts[i]?=some t->xs[i]?=some x->Rp K F F t x R0
theorem A6.nil{K:k6}{F:Hp}:A6 K F [] []:=⟨rfl,λi t x h=>by simp at h⟩
theorem Rp.any{K:k6}{F H H':Hp}{t:T}{x:V}(h:Rp K F H t x R0):Rp K F H' t x R0:=h.frame (AQ.refl F) λa z=>z.elim
theorem A6.cons{K:k6}{F H:Hp}{t:T}{x:V}{ts:List T}{xs:List V}(h:Rp K F H t x R0)(r:A6 K F ts xs):A6 K F (t::ts) (x::xs):=by
 refine⟨by simp[r.1],λi t' x' h1 h2=>?_⟩
 cases i with
 |zero =>
  simp at h1 h2;subst h1;subst h2;exact h.any
 |succ j=>exact r.2 j t' x' (by simpa using h1) (by simpa using h2)
theorem A6.inv{K:k6}{F:Hp}{t:T}{ts:List T}{xs:List V}(r:A6 K F (t::ts) xs):∃x xs',xs=x::xs'/\Rp K F F t x R0/\A6 K F ts xs':=by
 obtain⟨e,h⟩:=r;cases xs with
 |nil=>simp at e
 |cons x xs'=>exact⟨x,xs',rfl,h 0 t x rfl rfl,by simpa using e,λi t' x' h1 h2=>h (i+1) t' x' (by simpa using h1) (by simpa using h2)⟩
theorem A6.inv0{K:k6}{F:Hp}{xs:List V}(r:A6 K F [] xs):xs=[]:=by
 obtain⟨e,h⟩:=r;cases xs with
 |nil=>rfl
 |cons x xs'=>simp at e
theorem A6.same{K:k6}{F F':Hp}{ts:List T}{xs:List V}(r:A6 K F ts xs)(s:AQ F F'):A6 K F' ts xs:=⟨r.1,λi t x h1 h2=>((r.2 i t x h1 h2).frame (H':=F') s λa z=>z.elim)⟩
theorem A6.node{K:k6}{F H:Hp}{k:Kd}{p:Addr}{l:List T}{A:Rg}(h:Rp K F H (.nd false k l) (.ref p) A):∃xs,Dy K F k p xs/\A6 K F l xs:=by
 cases h with
 |shr h e c=>exact⟨_,h,e,λi t x h1 h2=>(c i t x h1 h2).any⟩
theorem Rp.ref_inv{K:k6}{F H:Hp}{o:Bool}{k:Kd}{l:List T}{x:V}{A:Rg}(h:Rp K F H (.nd o k l) x A):∃p,x=.ref p:=by
 cases h with
 |shr h e c=>exact⟨_,rfl⟩
 |own hk R f h e c d dp o=>exact⟨_,rfl⟩
theorem A6.of_node{K:k6}{F H:Hp}{k:Kd}{p:Addr}{l:List T}{xs:List V}(h:Dy K F k p xs)(r:A6 K F l xs):Rp K F H (.nd false k l) (.ref p) R0:=.shr h r.1 λi t x h1 h2=>(r.2 i t x h1 h2).any
structure Ext(F H F' H':Hp)(B:Rg):Prop where
 hh:AQ H H'
 ff:AQ F F'
 fh:AQ F' H'
 nb:∀b,B b->H b=none
 nf:∀b u,F' b=some u->F b=some u\/H b=none
theorem Fk{H H':Hp}(s:AQ H H'){b:Addr}(h:H' b=none):H b=none:=by
 cases e:H b with
 |none=>rfl
 |some u=>rw[s b u e]at h;cases h
section
variable {F H F1 H1 F2 H2:Hp}{B C:Rg}
theorem Ext.refl(s:AQ F H):Ext F H F H R0:=⟨.refl _,.refl _,s,λ_ z=>z.elim,λ_ _ e=>.inl e⟩
theorem Ext.trans(a:Ext F H F1 H1 B)(b:Ext F1 H1 F2 H2 C):Ext F H F2 H2 (λx=>B x\/C x) where
 hh:=a.hh.trans b.hh
 ff:=a.ff.trans b.ff
 fh:=b.fh
 nb:=λx z=>z.elim (a.nb x) λz=>Fk a.hh (b.nb x z)
 nf:=λx u e=>(b.nf x u e).elim (a.nf x u) λz=>.inr (Fk a.hh z)
theorem Ext.mono(a:Ext F H F1 H1 B)(h:∀x,C x->B x):Ext F H F1 H1 C:=⟨a.hh,a.ff,a.fh,λx z=>a.nb x (h x z),a.nf⟩
theorem Ext.trans0(a:Ext F H F1 H1 R0)(b:Ext F1 H1 F2 H2 C):Ext F H F2 H2 C:=(a.trans b).mono λx z=>.inr z
open Classical in
def frz(F H:Hp)(A:Rg):Hp:=λb=>if A b then H b else F b
theorem Ea{A:Rg}{b:Addr}(h:A b):frz F H A b=H b:=by unfold frz;rw[if_pos h]
theorem Du{A:Rg}{b:Addr}(h:¬ A b):frz F H A b=F b:=by unfold frz;rw[if_neg h]
theorem DY{A:Rg}(n:∀a,A a->F a=none):AQ F (frz F H A):=λb u e=>by
 by_cases h:A b
 .rw[n b h]at e;cases e
 .rw[Du h];exact e
theorem Gb{A:Rg}(s:AQ F H):AQ (frz F H A) H:=λb u e=>by
 by_cases h:A b
 .rw[Ea h]at e;exact e
 .rw[Du h]at e;exact s b u e
theorem Ext.frz(a:Ext F H F1 H1 B)(n:∀b,B b->F1 b=none):Ext F H (frz F1 H1 B) H1 R0 where
 hh:=a.hh
 ff:=a.ff.trans (DY n)
 fh:=Gb a.fh
 nb:=λ_ z=>z.elim
 nf:=λb u e=>by
  by_cases h:B b
  .exact .inr (a.nb b h)
  .rw[Du h]at e;exact a.nf b u e
theorem Rp.ext{K:k6}{t:T}{x:V}{A:Rg}(h:Rp K F H t x A)(a:Ext F H F1 H1 B):Rp K F1 H1 t x A:=h.frame a.ff λb z=>by
 obtain⟨f,u,e⟩:=h.dom z;refine⟨(a.hh b u e).trans e.symm,?_⟩;cases q:F1 b with
 |none=>rfl
 |some u' =>
  rcases a.nf b u' q with z|z
  .rw[f]at z;cases z
  .rw[e]at z;cases z
theorem Rp.apart{K:k6}{t:T}{x:V}{A:Rg}(h:Rp K F H t x A)(a:Ext F H F1 H1 B){b:Addr}(hb:B b):¬ A b:=λz=>by
 obtain⟨f,u,e⟩:=h.dom z;rw[a.nb b hb]at e;cases e
theorem Ext.new{p:Addr}{o:HO}(s:AQ F H)(h:H p=none):Ext F H (upd F p o) (upd H p o) R0 where
 hh:=JE h o
 ff:=JE (Fk s h) o
 fh:=λb u e=>by
  by_cases hb:b=p
  .subst hb;rw[Br]at e ⊢;exact e
  .rw[Aj hb]at e ⊢;exact s b u e
 nb:=λ_ z=>z.elim
 nf:=λb u e=>by
  by_cases hb:b=p
  .subst hb;exact .inr h
  .rw[Aj hb]at e;exact .inl e
theorem Ext.newO{p:Addr}{o:HO}(s:AQ F H)(h:H p=none):Ext F H F (upd H p o) (λa=>a=p) where
 hh:=JE h o
 ff:=.refl _
 fh:=λb u e=>JE h o b u (s b u e)
 nb:=λb z=>by rw[z];exact h
 nf:=λb u e=>.inl e
end
abbrev AA:=List (Option T)
structure StR(K:k6)(F H:Hp)(σ:L2.St)(τ:AA)(R:Nat->Rg):Prop where
 fh:AQ F H
 len:σ.length=τ.length
 rep:∀i t,τ[i]?=some (some t)->∃x,σ[i]?=some (some x)/\Rp K F H t x (R i)
 out:∀i a,R i a->∃t,τ[i]?=some (some t)
 dis:∀i j a,i≠j->R i a->¬ R j a
section
variable {K:k6}{F H F1 H1:Hp}{σ:L2.St}{τ:AA}{R:Nat->Rg}{B:Rg}
theorem StR.dom(h:StR K F H σ τ R){i:Nat}{a:Addr}(ha:R i a):F a=none/\∃u,H a=some u:=by
 obtain⟨t,e⟩:=h.out i a ha;obtain⟨x,_,r⟩:=h.rep i t e;exact r.dom ha
theorem StR.ext(h:StR K F H σ τ R)(a:Ext F H F1 H1 B):StR K F1 H1 σ τ R where
 fh:=a.fh
 len:=h.len
 rep:=λi t e=>by
  obtain⟨x,e1,r⟩:=h.rep i t e;exact⟨x,e1,r.ext a⟩
 out:=h.out
 dis:=h.dis
theorem StR.apart(h:StR K F H σ τ R)(a:Ext F H F1 H1 B){b:Addr}(hb:B b)(i:Nat):¬ R i b:=λz=>by
 obtain⟨f,u,e⟩:=h.dom z;rw[a.nb b hb]at e;cases e
end
def TR:Key->PyData
 |.inl i=>.int i
 |.inr x=>.str x
mutual
def T.data:T->PyData
 |.non=>.none
 |.bl b=>.bool b
 |.int i=>.int i
 |.str x=>.str x
 |.nd _ .lst l=>.list (BV l)
 |.nd _ .rl l=>.list (BV l)
 |.nd _ .tup l=>.tuple (BV l)
 |.nd _ .rt l=>.tuple (BV l)
 |.nd _ (.pin _) l=>.list (BV l)
 |.dic ks l=>.dict ((ks.map PyData.int).zip (BV l))
 |.pdc ks l=>.dict ((ks.map PyData.int).zip (BV l))
 |.odc ks l=>.dict ((ks.map PyData.int).zip (BV l))
 |.obj _ _=>.none
 |.oob _ _ _ _=>.none
 |.osd _ _=>.none
def BV:List T->List PyData
 |[]=>[]
 |t::r=>t.data::BV r
end
mutual
def T.pln:T->Bool
 |.nd _ _ l=>DK l
 |.dic _ l=>DK l
 |.pdc _ l=>DK l
 |.odc _ l=>DK l
 |.obj _ _=>false
 |.oob _ _ _ _=>false
 |.osd _ _=>false
 |.non=>true
 |.bl _=>true
 |.int _=>true
 |.str _=>true
def DK:List T->Bool
 |[]=>true
 |t::r=>t.pln && DK r
end
theorem Dh:∀{l:List T},DK l=true->∀{i:Nat} {t:T},l[i]?=some t->t.pln=true
 |[],_,i,t,e=>by simp at e
 |a::r,h,i,t,e=>by
  rw[DK,ya3]at h;cases i with
  |zero =>
   simp at e;subst e;exact h.1
  |succ i=>exact Dh h.2 (by simpa using e)
theorem Qq{h:Heap}:∀{l:List T} {us:List Value},l.length=us.length->(∀(i:Nat) (t:T) (u:Value),l[i]?=some t->us[i]?=some u->∃as,Reads h u t.data as)->∃as,ReadsAll h us (BV l) as
 |[],[],_,_=>⟨_,.nil⟩
 |[],_::_,e,_=>by simp at e
 |_::_,[],e,_=>by simp at e
 |t::l,u::us,e,f=>by
  obtain⟨a1,r1⟩:=f 0 t u rfl rfl;obtain⟨a2,r2⟩:=Qq (l:=l) (us:=us) (by simpa using e) λi t' u' h1 h2=>f (i+1) t' u' (by simpa using h1) (by simpa using h2)
  exact⟨_,.cons r1 r2⟩
theorem NU{P:Program}{w:World}{h:Heap}{k:Key}{v:Value}(e:(CB P w).is k v=true):Reads h v (TR k) []:=by
 rcases Ds (show E7 k v=true from e) with ⟨i,t,rfl,rfl⟩|⟨x,t,rfl,rfl⟩
 .exact .int i t
 .exact .str x t
theorem JW{h:Heap}:∀(ks:List Int) (xs:List V) (l:List T) (vs:List (Key×Value)),KV (DQ ks xs) vs->l.length=xs.length->ks.length=xs.length->(∀(i:Nat) (t:T) (x:V),l[i]?=some t->xs[i]?=some x->∀{u:Value},RelV x u->∃as,Reads h u t.data as) ->
  ∃bs,PyProof.V.PairsRead h TR vs ((ks.map PyData.int).zip (BV l)) bs
 |[],xs,l,vs,r,_,_,_=>by
  have r':Paired _ [] vs:=(show Paired _ (DQ [] xs) vs from r);cases r';exact⟨_,.nil⟩
 |k::ks,[],l,vs,r,_,ek,_=>by simp at ek
 |k::ks,x::xs,[],vs,r,e,_,_=>by simp at e
 |k::ks,x::xs,t::l,vs,r,e,ek,f=>by
  have r':Paired (λ(p:Key×V) (q:Key×Value)=>p.1=q.1/\RelV p.2 q.2) ((Sum.inl k,x)::DQ ks xs) vs:=r
  cases r' with
  |@cons _ q _ qs hd tl =>
   obtain⟨a1,r1⟩:=f 0 t x rfl rfl hd.2;obtain⟨a2,r2⟩:=JW ks xs l qs tl (by simpa using e) (by simpa using ek) λi t' x' h1 h2=>f (i+1) t' x' (by simpa using h1) (by simpa using h2)
   obtain⟨q1,q2⟩:=q;cases (show Sum.inl k=q1 from hd.1);exact⟨_,.cons r1 r2⟩
section
variable {X:Cx}{pins:List (Addr×Obj)}{σ:L2.St}{F H:Hp}{s:Shared}
theorem ED(I:Inv X pins σ H s)(fh:AQ F H){t:T}{x:V}{A:Rg}(h:Rp X.K F H t x A)(hpl:t.pln=true):∀{u:Value},RelV x u->∃as,Reads s.heap u t.data as:=by
 have kids:∀{l:List T} {xs:List V} {its:List Value},AR xs its->l.length=xs.length->(∀(i:Nat) (t:T) (x:V),l[i]?=some t->xs[i]?=some x->∀{u:Value},RelV x u->∃as,Reads s.heap u t.data as)->∃as,ReadsAll s.heap its (BV l) as:=by
  intro l xs its r e ih;refine Qq (e.trans r.length) λi t u h1 h2=>?_
  have hi:i<xs.length:=by
   have:=(ya5.mp h1).1
   omega
  obtain⟨u',e1,r1⟩:=r.get (ya0 hi);rw[h2]at e1;cases e1;exact ih i t _ h1 (ya0 hi) r1
 have lsts:∀{p:Addr} {l:List T} {xs:List V},AS X.K H p xs->l.length=xs.length->(∀(i:Nat) (t:T) (x:V),l[i]?=some t->xs[i]?=some x->∀{u:Value},RelV x u->∃as,Reads s.heap u t.data as)->∃as,Reads s.heap (.ref p) (.list (BV l)) as:=by
  intro p l xs hq e ih;obtain⟨its,r,⟨o,n,e1,e2,e3,e4⟩,_⟩:=I.list hq;obtain⟨as,ra⟩:=kids r e ih;exact⟨_,.list e1 e2 e4 (by simpa using ra)⟩
 have tups:∀{p:Addr} {l:List T} {xs:List V},B7 X.K H p xs->l.length=xs.length->(∀(i:Nat) (t:T) (x:V),l[i]?=some t->xs[i]?=some x->∀{u:Value},RelV x u->∃as,Reads s.heap u t.data as)->∃as,Reads s.heap (.ref p) (.tuple (BV l)) as:=by
  intro p l xs hq e ih;obtain⟨its,r,⟨o,e1,e2,n,e4⟩,_⟩:=I.tuple hq;obtain⟨as,ra⟩:=kids r e ih;exact⟨_,.tuple e1 e2 e4 (by simpa using ra)⟩
 induction h with
 |non=>intro u r;cases r;exact⟨_,.none⟩
 |bl b=>intro u r;cases r;exact⟨_,.bool b⟩
 |int i=>intro u r;obtain⟨t,rfl⟩:=r;exact⟨_,.int i t⟩
 |str y=>intro u r;obtain⟨t,rfl⟩:=r;exact⟨_,.str y t⟩
 |@shr k p xs l h e c ih =>
  intro u r;cases r;cases k with
  |lst=>exact lsts (AS.of (fh _ _ h)) e λi t x h1 h2=>ih i t x h1 h2 (Dh hpl h1)
  |rl=>exact lsts (fh.seq h) e λi t x h1 h2=>ih i t x h1 h2 (Dh hpl h1)
  |tup=>exact tups (B7.of (fh _ _ h)) e λi t x h1 h2=>ih i t x h1 h2 (Dh hpl h1)
  |rt=>exact tups (Et fh h) e λi t x h1 h2=>ih i t x h1 h2 (Dh hpl h1)
  |pin q=>exact lsts (AS.of (fh _ _ h)) e λi t x h1 h2=>ih i t x h1 h2 (Dh hpl h1)
 |@dic p ob ks xs l h e ek c ih =>
  intro u r;cases r;obtain⟨ho,z,hd,vs,rel,dd⟩:=(show BR X.prog X.w H s.heap p (.frz ob (.dK (DQ ks xs))) from I.hok p _ (fh _ _ h));obtain⟨bs,pr⟩:=JW ks xs l vs rel e ek λi t x h1 h2=>ih i t x h1 h2 (Dh hpl h1)
  exact⟨_,yd8 (λk v q=>NU q) dd pr⟩
 |@pdc p ks xs l h e ek c ih =>
  intro u r;cases r;obtain⟨z,hd,vs,rel,dd⟩:=(show BR X.prog X.w H s.heap p (.dK (DQ ks xs)) from I.hok p _ (fh _ _ h));obtain⟨bs,pr⟩:=JW ks xs l vs rel e ek λi t x h1 h2=>ih i t x h1 h2 (Dh hpl h1)
  exact⟨_,yd8 (λk v q=>NU q) dd pr⟩
 |@odc p ks xs l f h e ek c ih =>
  intro u r;cases r;obtain⟨z,hd,vs,rel,dd⟩:=(show BR X.prog X.w H s.heap p (.dK (DQ ks xs)) from I.hok p _ h);obtain⟨bs,pr⟩:=JW ks xs l vs rel e ek λi t x h1 h2=>ih i t x h1 h2 (Dh hpl h1)
  exact⟨_,yd8 (λk v q=>NU q) dd pr⟩
 |obj h e c ih=>cases hpl
 |oob R f h e c d dp o ih=>cases hpl
 |osd f h e ek c ih=>cases hpl
 |@own k0 p xs l hk R f h e c d dp o ih =>
  intro u r;cases r;cases k0 with
  |lst=>exact lsts (AS.of h) e λi t x h1 h2=>ih i t x h1 h2 (Dh hpl h1)
  |pin q=>exact lsts (AS.of h) e λi t x h1 h2=>ih i t x h1 h2 (Dh hpl h1)
  |_=>exact hk.elim
end
noncomputable def Bq(t:T):Bool:=t.pln && t.data.canLay0
def GA(t u:T):Bool:=PyData.eqv t.data u.data
def Dv(t u:T):Bool:=Bq t && Bq u && decide (min t.data.depth u.data.depth<=60)
def Bm(t u:T):Option T:=if Dv t u then some (.bl (GA t u)) else none
def d0:T->Bool
 |.dic [] []=>true
 |_=>false
def HR(a b:T):Bool:=match a,b with
 |.obj (.lab p) _,.obj (.lab q) _=>p == q
 |_,_=>false
def GD:List T->List T->Bool
 |[],[]=>true
 |a::r,b::q=>(Bq a && Bq b && decide (min a.data.depth b.data.depth<=60) && PyData.eqv a.data b.data || (d0 a && d0 b || HR a b)) && GD r q
 |_,_=>false
def M5(t u:T):Option T:=match t,u with
 |.nd _ .lst l,.nd _ .lst m=>if GD l m then some (.bl false) else none
 |_,_=>none
def Ba(t u:T):Option T:=if Dv t u then some (.bl (!GA t u)) else M5 t u
def G8(t:T)(l:List T):Bool:=Bq t && (DK l && PyData.canLayAll0 (BV l)) && decide (min (PyData.depthAll (BV l)) t.data.depth<=60)
def N9(t:T)(l:List T):Bool:=(BV l).any λy=>PyData.eqv y t.data
def T8(t:T)(y:Str):Option T:=match t with
 |.str x=>some (.bl (!(Builtin.Str.occurrences y x 0 y.length 1).isEmpty))
 |_=>none
def Dt(t c:T):Option T:=match c with
 |.nd _ _ l=>if G8 t l then some (.bl (N9 t l)) else none
 |.str y=>T8 t y
 |_=>none
def Fj(t c:T):Option T:=match c with
 |.nd _ _ l=>if G8 t l then some (.bl (!N9 t l)) else none
 |_=>none
def Bw(K:k6)(F H:Hp)(v:T)(Q:VK):Prop:=∀F' H' z C,Ext F H F' H' C->Rp K F' H' v z C->Q z H'
def BY(K:k6)(g:T->T->Option T):R2:=λx y H Q=>∃F t u v,AQ F H/\Rp K F F t x R0/\Rp K F F u y R0/\g t u=some v/\Bw K F H v Q
def JR(K:k6)(g:T->Option T):V->Hp->VK->Prop:=λx H Q=>∃F t v,AQ F H/\Rp K F F t x R0/\g t=some v/\Bw K F H v Q
def Cm(K:k6)(g:List T->Option T):List V->Hp->VK->Prop:=λxs H Q=>∃F ts v,AQ F H/\A6 K F ts xs/\g ts=some v/\Bw K F H v Q
section
variable {K:k6}{F H:Hp}{Q:VK}
theorem Bw.int{i:Int}(q:Bw K F H (.int i) Q)(s:AQ F H):Q (.int i) H:=q F H _ _ (Ext.refl s) (.int i)
theorem Bw.bl{b:Bool}(q:Bw K F H (.bl b) Q)(s:AQ F H):Q (.bl b) H:=q F H _ _ (Ext.refl s) (.bl b)
theorem Bw.str{x:Str}(q:Bw K F H (.str x) Q)(s:AQ F H):Q (.str x) H:=q F H _ _ (Ext.refl s) (.str x)
theorem Bw.non(q:Bw K F H .non Q)(s:AQ F H):Q .non H:=q F H _ _ (Ext.refl s) .non
theorem Bw.list{l:List T}{xs:List V}(q:Bw K F H (.own l) Q)(s:AQ F H)(r:A6 K F l xs){p:Addr}(hp:H p=none):Q (.ref p) (upd H p (.lst xs)):=by
 refine q F (upd H p (.lst xs)) (.ref p) _ ((Ext.newO s hp).mono ?_) (.own (k:=.lst) (xs:=xs) trivial (λ_=>R0) (Fk s hp) Br r.1 (λi t x h1 h2=>?_) (λ_ _ _ _ z=>z.elim) (λ_ z=>z) (λ_ _ z=>z.elim))
 .rintro a (z|⟨i,z⟩)
  .exact z
  .exact z.elim
 .exact(r.2 i t x h1 h2).any
theorem Bw.tuple{l:List T}{xs:List V}(q:Bw K F H (.tup l) Q)(s:AQ F H)(r:A6 K F l xs){p:Addr}(hp:H p=none):Q (.ref p) (upd H p (.tup xs)):=by
 have e:=Ext.new (o:=.tup xs) s hp;exact q _ _ _ _ e (A6.of_node (k:=.tup) Br (r.same e.ff))
theorem Bw.same{t:T}{x:V}(q:Bw K F H t Q)(s:AQ F H)(r:Rp K F F t x R0):Q x H:=q F H x _ (Ext.refl s) r.any
end
def Ey(i:Int):Bool:=@decide (-(2 ^ 64)<i/\i<2 ^ 64) (Classical.propDecidable _)
def CZ(i:Int):Bool:=@decide (-(10 ^ 70)<i/\i<10 ^ 70) (Classical.propDecidable _)
def TV(k:Int):Bool:=@decide (k<2 ^ 63/\-(2 ^ 63)<=k) (Classical.propDecidable _)
def DM(i j:Int):Bool:=Ey i || Ey j || (CZ i && CZ j)
noncomputable def BE:Nat:=16777216
def B5:T->T->Option T
 |.int i,.int j=>some (.int (i+j))
 |.str x,.str y=>if x.length+y.length<=BE then some (.str (x++y)) else none
 |.nd _ .lst l,.nd _ .lst m=>if l.length+m.length<=BE then some (.own (l++m)) else none
 |_,_=>none
def HM:T->T->Option T
 |.int i,.int j=>some (.int (i - j))
 |_,_=>none
def Dm:T->T->Option T
 |.int i,.int j=>if DM i j then some (.int (i * j)) else none
 |.nd _ .lst l,.int k=>if TV k=true/\l.length * k.toNat<=BE then some (.own (List.replicate k.toNat l).flatten) else none
 |.str x,.int k=>if 0<=k/\k<=1000000/\x.length<=16 then some (.str (Txt.mul x k)) else none
 |_,_=>none
def B3:T->T->Option T
 |.int i,.int j=>if j≠0 then some (.int (i.fmod j)) else none
 |_,_=>none
def DB:T->T->Option T
 |.int i,.int j=>if j≠0/\CZ j then some (.int (i.fdiv j)) else none
 |_,_=>none
def Ff:T->T->Option T
 |.int i,.int j=>if 0<=j/\j<=1000000/\Ey i then some (.int (i ^ j.toNat)) else none
 |_,_=>none
def CN(f:Int->Int->Bool):T->T->Option T
 |.int i,.int j=>some (.bl (f i j))
 |_,_=>none
def Dl:T->Option T
 |.int i=>some (.int (-i))
 |_=>none
theorem MK{i:Int}(h:Ey i=true):-(2 ^ 64)<i/\i<2 ^ 64:=@of_decide_eq_true _ (Classical.propDecidable _) h
theorem MJ{i:Int}(h:CZ i=true):Sm i:=@of_decide_eq_true _ (Classical.propDecidable _) h
theorem TU{k:Int}(h:TV k=true):k<2 ^ 63/\-(2 ^ 63)<=k:=@of_decide_eq_true _ (Classical.propDecidable _) h
theorem DP:BE=sizeLine:=by rw[yej];rfl
theorem JO{K:k6}{F:Hp}:∀{l m:List T} {xs ys:List V},A6 K F l xs->A6 K F m ys->A6 K F (l++m) (xs++ys)
 |[],m,xs,ys,r,q=>by rw[r.inv0];exact q
 |t::l,m,xs,ys,r,q=>by
  obtain⟨x,xs',rfl,r1,r2⟩:=r.inv;exact .cons r1 (JO r2 q)
theorem Qk{K:k6}{F:Hp}{l:List T}{xs:List V}(r:A6 K F l xs):∀n:Nat,A6 K F (List.replicate n l).flatten (List.replicate n xs).flatten
 |0=>.nil
 |n+1=>by
  rw[ybr,ybr,yc8,yc8];exact JO r (Qk r n)
section
variable {X:Cx}
theorem Cp{K:k6}{F H:Hp}{o:Bool}{k:Kd}{l:List T}{x:V}(h:Rp K F H (.nd o k l) x R0):∃p xs,x=.ref p/\o=false/\Dy K F k p xs/\A6 K F l xs:=by
 generalize hA:R0=A at h;cases h with
 |shr h e c=>exact⟨_,_,rfl,rfl,h,e,λi t x h1 h2=>(hA▸c i t x h1 h2).any⟩
 |@own k0 p xs l hk R f h e c d dp o =>
  exfalso
  have z:=congrFun hA p;have:R0 p:=by rw[z];exact .inl rfl
  exact this
theorem zid:A2 X (binaryOp .Add) (BY X.K B5):=by
 intro pins s σ H x y v u Q I rx ry h;obtain⟨F,t1,t2,r,fh,r1,r2,e,q⟩:=h;unfold B5 at e;split at e
 .cases e;rw[r1.int_inv]at rx;rw[r2.int_inv]at ry;exact zlw pins s σ H _ _ v u Q I rx ry ⟨_,_,rfl,rfl,q.int fh⟩
 .split at e
  .cases e;rename_i hz;rw[r1.str_inv]at rx;rw[r2.str_inv]at ry;exact zd8 pins s σ H _ _ v u Q I rx ry ⟨_,_,rfl,rfl,by rw[<- DP];exact hz,q.str fh⟩
  .cases e
 .split at e
  .cases e;rename_i hz;obtain⟨p,xs,rfl,rfl,n1,k1⟩:=Cp r1;obtain⟨p2,ys,rfl,rfl,n2,k2⟩:=Cp r2;refine zlv pins s σ H _ _ v u Q I rx ry ⟨p,p2,xs,ys,rfl,rfl,fh _ _ n1,fh _ _ n2,?_,λa ha=>q.list fh (JO k1 k2) ha⟩
   rw[<- k1.1,<- k2.1,<- DP];exact hz
  .cases e
 .cases e
theorem Ha{f:Value->Value->Sem Value}{C:Int->Int->Prop}{g:Int->Int->V}{gT:T->T->Option T}(ho:A2 X f (rI C g))(hg:∀t u v,gT t u=some v->∃i j,t=.int i/\u=.int j/\C i j/\((∃k,v=.int k/\g i j=.int k)\/∃k,v=.bl k/\g i j=.bl k)):A2 X f (BY X.K gT):=by
 intro pins s σ H x y v u Q I rx ry h;obtain⟨F,t1,t2,r,fh,r1,r2,e,q⟩:=h;obtain⟨i,j,rfl,rfl,hc,hv⟩:=hg _ _ _ e;rw[r1.int_inv]at rx;rw[r2.int_inv]at ry;refine ho pins s σ H _ _ v u Q I rx ry ⟨i,j,rfl,rfl,hc,?_⟩
 rcases hv with ⟨k,rfl,ek⟩|⟨k,rfl,ek⟩
 .rw[ek];exact q.int fh
 .rw[ek];exact q.bl fh
theorem A2.weak{f:Value->Value->Sem Value}{r r':R2}(h:A2 X f r)(w:∀x y H Q,r' x y H Q->r x y H Q):A2 X f r':=λpins s σ H x y v u Q I rx ry q=>h pins s σ H x y v u Q I rx ry (w x y H Q q)
theorem Qo{g:Int->Int->V}{f:Value->Value->Sem Value}(h:A2 X f (EF g)):A2 X f (rI (λ_ _=>True) g):=A2.weak h λx y H Q ⟨i,j,a,b,_,q⟩=>⟨i,j,a,b,q⟩
theorem zi7:A2 X (binaryOp .Sub) (BY X.K HM):=Ha (Qo zlq) λt u v h=>by
 unfold HM at h;split at h
 .cases h;exact⟨_,_,rfl,rfl,trivial,.inl ⟨_,rfl,rfl⟩⟩
 .cases h
theorem zib:A2 X (binaryOp .Mod) (BY X.K B3):=Ha zi6 λt u v h=>by
 unfold B3 at h;split at h
 .split at h
  .cases h;exact⟨_,_,rfl,rfl,by assumption,.inl ⟨_,rfl,rfl⟩⟩
  .cases h
 .cases h
theorem zg1:A2 X (binaryOp .FloorDiv) (BY X.K DB):=Ha zg0 λt u v h=>by
 unfold DB at h;split at h
 .split at h
  .cases h;rename_i hc;exact⟨_,_,rfl,rfl,⟨hc.1,MJ hc.2⟩,.inl ⟨_,rfl,rfl⟩⟩
  .cases h
 .cases h
theorem zi8:A2 X (binaryOp .Pow) (BY X.K Ff):=Ha zls λt u v h=>by
 unfold Ff at h;split at h
 .split at h
  .cases h;rename_i hc;have q:=MK hc.2.2;exact⟨_,_,rfl,rfl,⟨hc.1,hc.2.1,by omega⟩,.inl ⟨_,rfl,rfl⟩⟩
  .cases h
 .cases h
theorem JY{op:CmpOp}{g:Int->Int->Bool}(ho:A2 X (compareOp op) (EF λi j=>.bl (g i j))):A2 X (compareOp op) (BY X.K (CN g)):=Ha (Qo ho) λt u v h=>by
 unfold CN at h;split at h
 .cases h;exact⟨_,_,rfl,rfl,trivial,.inr ⟨_,rfl,rfl⟩⟩
 .cases h
theorem zia:A2 X (binaryOp .Mult) (BY X.K Dm):=by
 intro pins s σ H x y v u Q I rx ry h;obtain⟨F,t1,t2,r,fh,r1,r2,e,q⟩:=h;unfold Dm at e;split at e
 .rename_i i j;split at e
  .cases e;rename_i hc;rw[r1.int_inv]at rx;rw[r2.int_inv]at ry;unfold DM at hc;rw[ybk,ybk,ya3]at hc
   rcases hc with (hc|hc)|hc
   .exact RV pins s σ H _ _ v u Q I rx ry ⟨i,j,rfl,rfl,.inl (MK hc),q.int fh⟩
   .exact RV pins s σ H _ _ v u Q I rx ry ⟨i,j,rfl,rfl,.inr (MK hc),q.int fh⟩
   .exact zi5 pins s σ H _ _ v u Q I rx ry ⟨i,j,rfl,rfl,⟨MJ hc.1,MJ hc.2⟩,q.int fh⟩
  .cases e
 .split at e
  .cases e;rename_i hc;obtain⟨p,xs,rfl,rfl,n1,k1⟩:=Cp r1;rw[r2.int_inv]at ry;refine zlr pins s σ H _ _ v u Q I rx ry ⟨p,_,xs,rfl,rfl,fh _ _ n1,(TU hc.1).2,(TU hc.1).1,?_,λa ha=>q.list fh (Qk k1 _) ha⟩
   rw[<- k1.1,<- DP];exact hc.2
  .cases e
 .split at e
  .cases e;rename_i hc;rw[r1.str_inv]at rx;rw[r2.int_inv]at ry;obtain⟨t1,rfl⟩:=rx;obtain⟨t2,rfl⟩:=ry;exact SB.mul (mulOk_of 16 1048576 hc.2.2 (by omega) (by omega) (by decide) (by decide)) λt' k=>⟨.str _,H,I.tok _,⟨_,rfl⟩,q.str fh⟩
  .cases e
 .cases e
theorem zgr:Hz X (unaryOp .USub) (JR X.K Dl):=by
 intro pins s σ H x v Q I rx h;obtain⟨F,t,r,fh,r1,e,q⟩:=h;unfold Dl at e;split at e
 .cases e;rw[r1.int_inv]at rx;exact zjy pins s σ H _ v Q I rx ⟨_,rfl,q.int fh⟩
 .cases e
theorem Uj{A:Around}{n:Nat}(hu:A.units+64<cLine)(h:n<=60):A.units+n<cLine:=by omega
theorem zm0(hu:X.A.units+64<cLine):A2 X (compareOp .Eq) (BY X.K Bm):=by
 intro pins s σ H x y v u Q I rx ry h;obtain⟨F,t1,t2,r,fh,r1,r2,e,q⟩:=h;unfold Bm at e;split at e
 .cases e;rename_i hc;unfold Dv Bq at hc;rw[ya3,ya3,ya3,ya3,yev]at hc;obtain⟨a1,q1⟩:=ED I fh (r1.any) hc.1.1.1 rx;obtain⟨a2,q2⟩:=ED I fh (r2.any) hc.1.2.1 ry;exact SeqAt.compareEq_reads q1 q2 hc.1.1.2 hc.1.2.2 (Uj hu hc.2) ⟨.bl _,H,I,rfl,q.bl fh⟩
 .cases e
theorem zlz(hu:X.A.units+64<cLine):A2 X (compareOp .In) (BY X.K Dt):=by
 intro pins s σ H x y v u Q I rx ry h;obtain⟨F,t1,t2,r,fh,r1,r2,e,q⟩:=h;unfold Dt at e;split at e
 .rename_i o k l;split at e
  .cases e;rename_i hc;unfold G8 Bq at hc;rw[ya3,ya3,ya3,ya3,yev]at hc;obtain⟨a1,q1⟩:=ED I fh (r1.any) hc.1.1.1 rx;obtain⟨a2,q2⟩:=ED I fh (r2.any) (show(T.nd o k l).pln=true from hc.1.2.1) ry;have hd:X.A.units+1+min (PyData.depthAll (BV l)) t1.data.depth<cLine:=by omega
   cases k with
   |lst=>exact ydn q2 q1 hc.1.2.2 hc.1.1.2 hd ⟨.bl _,H,I,rfl,q.bl fh⟩
   |rl=>exact ydn q2 q1 hc.1.2.2 hc.1.1.2 hd ⟨.bl _,H,I,rfl,q.bl fh⟩
   |tup=>exact SeqAt.in_tuple_reads q2 q1 hc.1.2.2 hc.1.1.2 hd ⟨.bl _,H,I,rfl,q.bl fh⟩
   |rt=>exact SeqAt.in_tuple_reads q2 q1 hc.1.2.2 hc.1.1.2 hd ⟨.bl _,H,I,rfl,q.bl fh⟩
   |pin _=>exact ydn q2 q1 hc.1.2.2 hc.1.1.2 hd ⟨.bl _,H,I,rfl,q.bl fh⟩
  .cases e
 .unfold T8 at e;split at e
  .cases e;rw[r1.str_inv]at rx;rw[r2.str_inv]at ry;exact ze0 pins s σ H _ _ v u Q I rx ry ⟨_,_,rfl,rfl,q.bl fh⟩
  .cases e
 .cases e
theorem ze1(hu:X.A.units+64<cLine):A2 X (compareOp .NotIn) (BY X.K Fj):=by
 intro pins s σ H x y v u Q I rx ry h;obtain⟨F,t1,t2,r,fh,r1,r2,e,q⟩:=h;unfold Fj at e;split at e
 .rename_i o k l;split at e
  .cases e;rename_i hc;unfold G8 Bq at hc;rw[ya3,ya3,ya3,ya3,yev]at hc;obtain⟨a1,q1⟩:=ED I fh (r1.any) hc.1.1.1 rx;obtain⟨a2,q2⟩:=ED I fh (r2.any) (show(T.nd o k l).pln=true from hc.1.2.1) ry;have hd:X.A.units+1+min (PyData.depthAll (BV l)) t1.data.depth<cLine:=by omega
   cases k with
   |lst=>exact yd9 q2 q1 hc.1.2.2 hc.1.1.2 hd ⟨.bl _,H,I,rfl,q.bl fh⟩
   |rl=>exact yd9 q2 q1 hc.1.2.2 hc.1.1.2 hd ⟨.bl _,H,I,rfl,q.bl fh⟩
   |tup=>exact SeqAt.notIn_tuple_reads q2 q1 hc.1.2.2 hc.1.1.2 hd ⟨.bl _,H,I,rfl,q.bl fh⟩
   |rt=>exact SeqAt.notIn_tuple_reads q2 q1 hc.1.2.2 hc.1.1.2 hd ⟨.bl _,H,I,rfl,q.bl fh⟩
   |pin _=>exact yd9 q2 q1 hc.1.2.2 hc.1.1.2 hd ⟨.bl _,H,I,rfl,q.bl fh⟩
  .cases e
 .cases e
end
inductive Rs where
 |v (t:T) (b:Bool)|x (c:Str)
inductive RsL where
 |v (ts:List T) (b:Bool)|x (c:Str)
def tot(R:Nat->Rg):Rg:=λa=>∃i,R i a
def Cs(K:k6)(F H:Hp)(R:Nat->Rg)(v:T)(b:Bool)(x:V)(B:Rg):Prop:=match b with
 |true=>B=R0/\∃A,(∀a,A a->tot R a)/\Rp K F H v x A
 |false=>Rp K F H v x B
def Gz(b:Bool)(F H:Hp)(R:Nat->Rg):Hp:=match b with
 |true=>frz F H (tot R)
 |false=>F
section
variable {K:k6}{F H F1 H1:Hp}{σ:L2.St}{τ:AA}{R:Nat->Rg}{B:Rg}{b c:Bool}{v:T}{x:V}
theorem StR.tot(S:StR K F H σ τ R){a:Addr}(h:tot R a):F a=none/\∃u,H a=some u:=by
 obtain⟨i,z⟩:=h;exact S.dom z
theorem Jo(S:StR K F H σ τ R):AQ F (Gz b F H R):=by
 cases b with
 |true=>exact DY λa z=>(S.tot z).1
 |false=>exact .refl _
theorem Na(S:StR K F H σ τ R):AQ (Gz b F H R) H:=by
 cases b with
 |true=>exact Gb S.fh
 |false=>exact S.fh
theorem zj5(S:StR K F H σ τ R)(e:Ext F H F1 H1 B)(h:b=true->c=true):AQ (Gz b F H R) (Gz c F1 H1 R):=by
 have S1:=S.ext e;cases b with
 |false=>exact e.ff.trans (Jo S1)
 |true =>
  rw[h rfl];intro a u q;show frz F1 H1 (Pu.tot R) a=some u
  by_cases z:Pu.tot R a
  .rw[Ea z];have q':frz F H (Pu.tot R) a=some u:=q;rw[Ea z]at q';exact e.hh _ _ q'
  .rw[Du z];have q':frz F H (Pu.tot R) a=some u:=q;rw[Du z]at q';exact e.ff _ _ q'
theorem Cs.frz(S:StR K F H σ τ R)(e:Ext F H F1 H1 B)(g:Cs K F1 H1 R v b x B):∃F2,Ext F H F2 H1 R0/\AQ F1 F2/\Rp K (Gz b F2 H1 R) (Gz b F2 H1 R) v.share x R0:=by
 have S1:=S.ext e;cases b with
 |true =>
  obtain⟨rfl,A,hA,r⟩:=g
  exact⟨F1,e,.refl _,r.share (Jo (b:=true) S1) λa u z q=>by
   show Pu.frz F1 H1 (Pu.tot R) a=some u;rw[Ea (hA a z)];exact q⟩
 |false =>
  have g':Rp K F1 H1 v x B:=g;have n:∀a,B a->F1 a=none:=λa z=>(g'.dom z).1
  exact⟨_,e.frz n,DY n,g'.share (DY n) λa u z q=>by
   show Pu.frz F1 H1 B a=some u;rw[Ea z];exact q⟩
theorem Ext.grow{H2:Hp}(e:Ext F H F1 H1 R0)(s:AQ H1 H2):Ext F H F1 H2 R0:=⟨e.hh.trans s,e.ff,e.fh.trans s,λ_ z=>z.elim,e.nf⟩
end
def tM(K:k6)(E:L2.St->XK)(ca:Str->Value)(m:AA->Option Rs):TE:=λσ H Q=>∃F τ R,StR K F H σ τ R/\match m τ with
 |some (.v v b)=>∀F' H' x B,Ext F H F' H' B->Cs K F' H' R v b x B->Q x H'
 |some (.x c)=>∀F' H',Ext F H F' H' R0->E σ (ca c) none H'
 |none=>False
def B9(K:k6)(E:L2.St->XK)(ca:Str->Value)(m:AA->Option RsL):TA:=λσ H Q=>∃F τ R,StR K F H σ τ R/\match m τ with
 |some (.v ts b)=>∀F' H' xs,Ext F H F' H' R0->A6 K (Gz b F' H' R) ts xs->Q xs H'
 |some (.x c)=>∀F' H',Ext F H F' H' R0->E σ (ca c) none H'
 |none=>False
def Ak(K:k6)(E:L2.St->XK)(ca:Str->Value)(m:AA->Option Rs):TT:=λσ H Q=>∃F τ R,StR K F H σ τ R/\match m τ with
 |some (.v (.bl c) _)=>∀F' H',Ext F H F' H' R0->Q c H'
 |some (.v _ _)=>False
 |some (.x c)=>∀F' H',Ext F H F' H' R0->E σ (ca c) none H'
 |none=>False
noncomputable def AB(i:Nat):AA->Option Rs:=λτ=>match τ[i]? with
 |some (some t)=>some (.v t (!t.sh))
 |_=>none
noncomputable def mC(t:T):AA->Option Rs:=λ_=>some (.v t false)
def AF:AA->Option RsL:=λ_=>some (.v [] false)
noncomputable def AE(m:AA->Option Rs)(ms:AA->Option RsL):AA->Option RsL:=λτ=>match m τ with
 |some (.v t b)=>(match ms τ with
  |some (.v ts b')=>some (.v (t.share::ts) (b || b'))
  |r=>r)
 |some (.x c)=>some (.x c)
 |none=>none
def Ay(b:Bool)(v:T):Option Rs:=if b && !v.flat then none else some (.v v false)
def BQ(g:List T->Option T)(ms:AA->Option RsL):AA->Option Rs:=λτ=>match ms τ with
 |some (.v ts b)=>(match g ts with
  |some v=>Ay b v
  |none=>none)
 |some (.x c)=>some (.x c)
 |none=>none
def g2(g:T->T->Option T):List T->Option T
 |[t,u]=>g t u
 |_=>none
def g1(g:T->Option T):List T->Option T
 |[t]=>g t
 |_=>none
abbrev m1(g:T->Option T)(a:AA->Option Rs):AA->Option Rs:=BQ (g1 g) (AE a AF)
abbrev m2(g:T->T->Option T)(a b:AA->Option Rs):AA->Option Rs:=BQ (g2 g) (AE a (AE b AF))
def DW(c:AA->Option Rs)(a b:AA->Option Rs):AA->Option Rs:=λτ=>match c τ with
 |some (.v (.bl true) _)=>a τ
 |some (.v (.bl false) _)=>b τ
 |some (.x c)=>some (.x c)
 |_=>none
def BJ(c:AA->Option Rs):AA->Option Rs:=λτ=>match c τ with
 |some (.v (.bl b) _)=>some (.v (.bl (!b)) false)
 |some (.x c)=>some (.x c)
 |_=>none
def Cw(a b:AA->Option Rs):AA->Option Rs:=DW a b (mC (.bl false))
def Bg(a b:AA->Option Rs):AA->Option Rs:=DW a (mC (.bl true)) b
section
variable {X:Cx}{E:L2.St->XK}{ca:Str->Value}{σ:L2.St}{H:Hp}{m ma mb mc:AA->Option Rs}{ms:AA->Option RsL}{K:k6}{a b c e:Expr}{es:List Expr}{pos:Pos}
theorem PE.weak{t t':TE}(h:PE X e t)(w:∀σ H Q,t' σ H Q->t σ H Q):PE X e t':=λpins s σ H Q I q=>h pins s σ H Q I (w σ H Q q)
theorem PT.weak{t t':TT}(h:PT X e t)(w:∀σ H Q,t' σ H Q->t σ H Q):PT X e t':=λpins s σ H Q I q=>h pins s σ H Q I (w σ H Q q)
theorem PA.weak{t t':TA}(h:PA X es t)(w:∀σ H Q,t' σ H Q->t σ H Q):PA X es t':=λpos pins s σ H Q I q=>h pos pins s σ H Q I (w σ H Q q)
theorem tM.mono{Q Q':VK}(h:tM K E ca m σ H Q)(w:∀x H',Q x H'->Q' x H'):tM K E ca m σ H Q':=by
 obtain⟨F,τ,R,S,q⟩:=h;refine⟨F,τ,R,S,?_⟩;cases hm:m τ with
 |none=>rw[hm]at q;exact q
 |some r =>
  rw[hm]at q;cases r with
  |v v b=>exact λF' H' x B e g=>w _ _ (q F' H' x B e g)
  |x c=>exact q
theorem B9.mono{Q Q':List V->Hp->Prop}(h:B9 K E ca ms σ H Q)(w:∀x H',Q x H'->Q' x H'):B9 K E ca ms σ H Q':=by
 obtain⟨F,τ,R,S,q⟩:=h;refine⟨F,τ,R,S,?_⟩;cases hm:ms τ with
 |none=>rw[hm]at q;exact q
 |some r =>
  rw[hm]at q;cases r with
  |v v b=>exact λF' H' x e g=>w _ _ (q F' H' x e g)
  |x c=>exact q
theorem F6{Q:List V->Hp->Prop}(h:B9 K E ca AF σ H Q):Q [] H:=by
 obtain⟨F,τ,R,S,q⟩:=h;exact q F H [] (Ext.refl S.fh) .nil
theorem F7{Q:List V->Hp->Prop}(h:B9 K E ca (AE m ms) σ H Q):tM K E ca m σ H λx H1=>B9 K E ca ms σ H1 λxs H2=>Q (x::xs) H2:=by
 obtain⟨F,τ,R,S,q⟩:=h;refine⟨F,τ,R,S,?_⟩;unfold AE at q;cases hm:m τ with
 |none=>rw[hm]at q;exact q
 |some r =>
  rw[hm]at q;cases r with
  |x c=>exact q
  |v t b =>
   intro F' H' x B e g;obtain⟨F2,e2,_,r2⟩:=Cs.frz S e g;have S2:=S.ext e2;refine⟨F2,τ,R,S2,?_⟩;cases hs:ms τ with
   |none=>simp only[hs]at q
   |some r =>
    simp only[hs]at q;cases r with
    |x c=>exact λF3 H3 e3=>q F3 H3 (e2.trans0 e3)
    |v ts b' =>
     intro F3 H3 xs e3 rs;refine q F3 H3 (x::xs) (e2.trans0 e3) ?_;refine .cons (H:=H3) ((r2.frame (zj5 S2 e3 (by intro z;simp[z])) λa z=>z.elim)) ?_
     cases b' with
     |true=>rw[Bool.or_true];exact rs
     |false =>
      rw[ydv];cases b with
      |false=>exact rs
      |true=>exact rs.same (Jo (b:=true) (S2.ext e3))
theorem F8{g:List T->Option T}{Q:VK}(h:tM K E ca (BQ g ms) σ H Q):B9 K E ca ms σ H λxs H1=>Cm K g xs H1 Q:=by
 obtain⟨F,τ,R,S,q⟩:=h;refine⟨F,τ,R,S,?_⟩;unfold BQ at q;cases hs:ms τ with
 |none=>simp only[hs]at q
 |some r =>
  simp only[hs]at q;cases r with
  |x c=>exact q
  |v ts b =>
   intro F1 H1 xs e1 rs;have S1:=S.ext e1;cases hg:g ts with
   |none=>simp only[hg]at q
   |some v =>
    simp only[hg]at q;refine⟨Gz b F1 H1 R,ts,v,Na S1,rs,hg,λF2 H2 z C e2 r2=>?_⟩
    unfold Ay at q;cases b with
    |false=>exact q F2 H2 z C (e1.trans0 e2) r2
    |true =>
     cases hf:v.flat with
     |false =>
      rw[hf]at q;exact False.elim q
     |true =>
      rw[hf]at q;exact q F1 H2 z R0 (e1.grow e2.hh) (r2.flat_any hf)
theorem rTn2{g:T->T->Option T}{x y:V}{Q:VK}(h:Cm K (g2 g) [x,y] H Q):BY K g x y H Q:=by
 obtain⟨F,ts,v,fh,rs,e,q⟩:=h;unfold g2 at e;split at e
 .obtain⟨x1,xs1,e1,r1,rs1⟩:=rs.inv;obtain⟨x2,xs2,e2,r2,rs2⟩:=rs1.inv;cases e1;cases e2;exact⟨F,_,_,v,fh,r1,r2,e,q⟩
 .cases e
theorem rTn1{g:T->Option T}{x:V}{Q:VK}(h:Cm K (g1 g) [x] H Q):JR K g x H Q:=by
 obtain⟨F,ts,v,fh,rs,e,q⟩:=h;unfold g1 at e;split at e
 .obtain⟨x1,xs1,e1,r1,rs1⟩:=rs.inv;cases e1;exact⟨F,_,v,fh,r1,e,q⟩
 .cases e
theorem LP{g:T->T->Option T}{Q:VK}(h:tM K E ca (BQ (g2 g) (AE ma (AE mb AF))) σ H Q):GU (BY K g) (tM K E ca ma) (tM K E ca mb) σ H Q :=
 (F7 (F8 h)).mono λx H1 h1=>(F7 h1).mono λy H2 h2=>rTn2 (F6 h2)
theorem zk8{g:T->Option T}{Q:VK}(h:tM K E ca (BQ (g1 g) (AE ma AF)) σ H Q):QF (JR K g) (tM K E ca ma) σ H Q :=
 (F7 (F8 h)).mono λx H1 h1=>rTn1 (F6 h1)
theorem zjw{i:Nat}{Q:VK}(h:tM K E ca (AB i) σ H Q):LM i σ H Q:=by
 obtain⟨F,τ,R,S,q⟩:=h;unfold AB at q;split at q
 .rename_i t b hm;split at hm
  .rename_i ht;cases hm;obtain⟨x,e,r⟩:=S.rep i t ht;refine⟨x,e,q F H x R0 (Ext.refl S.fh) ?_⟩;cases hs:t.sh with
   |true=>exact r.move hs (.refl _)
   |false=>exact⟨rfl,R i,λa z=>⟨i,z⟩,r⟩
  .cases hm
 .rename_i c hm;split at hm<;>cases hm
 .exact q.elim
theorem r_var{i:Nat}{x:Str}(hN:X.N[i]?=some x)(hv:C7 X.env.scope x)(hd:(x == ("__debug__":Str))=false)(hcd:(x == ("__classdict__":Str))=false):PE X (.Name x pos) (tM X.K E ca (AB i)):=PE.weak (FA hN hv hd hcd) λ_ _ _ h=>zjw h
theorem JP{t:T}{v:V}(h:PE X e (tC v))(r:∀F H,Rp X.K F H t v R0):PE X e (tM X.K E ca (mC t)):=PE.weak h λσ H Q h=>by
 obtain⟨F,τ,R,S,q⟩:=h;exact q F H v R0 (Ext.refl S.fh) (r _ _)
theorem Qw:PA X [] (B9 X.K E ca AF):=PA.weak EI λσ H Q h=>F6 h
theorem RA(ha:PE X e (tM X.K E ca m))(hr:PA X es (B9 X.K E ca ms))(hs:starEach (e::es) X.env=(false,eval e X.env)::starEach es X.env):PA X (e::es) (B9 X.K E ca (AE m ms)) :=
 PA.weak (DU ha hr hs) λσ H Q h=>F7 h
theorem r_bin{op:Operator}{g:T->T->Option T}(ho:A2 X (binaryOp op) (BY X.K g))(ha:PE X a (tM X.K E ca ma))(hb:PE X b (tM X.K E ca mb)):PE X (.BinOp a op b pos) (tM X.K E ca (BQ (g2 g) (AE ma (AE mb AF)))) :=
 PE.weak (pe_op ho ha hb) λσ H Q h=>LP h
theorem r_un{op:UnaryOp}{g:T->Option T}(ho:Hz X (unaryOp op) (JR X.K g))(ha:PE X a (tM X.K E ca ma)):PE X (.UnaryOp op a pos) (tM X.K E ca (BQ (g1 g) (AE ma AF))) :=
 PE.weak (pe_un ho ha) λσ H Q h=>zk8 h
theorem r_cmp{op:CmpOp}{g:T->T->Option T}(ho:A2 X (compareOp op) (BY X.K g))(ha:PE X a (tM X.K E ca ma))(hb:PE X b (tM X.K E ca mb))(hm:behindInMarks op b=false):PE X (.Compare a [op] [b] pos) (tM X.K E ca (BQ (g2 g) (AE ma (AE mb AF)))) :=
 PE.weak (zhy ho ha hb hm) λσ H Q h=>LP h
theorem Im{Q:Bool->Hp->Prop}(h:Ak K E ca m σ H Q):tM K E ca m σ H λx H1=>∃k,x=.bl k/\Q k H1:=by
 obtain⟨F,τ,R,S,q⟩:=h;refine⟨F,τ,R,S,?_⟩;cases hm:m τ with
 |none=>rw[hm]at q;exact q
 |some r =>
  rw[hm]at q;cases r with
  |x c=>exact q
  |v v b =>
   cases v with
   |bl k =>
    intro F' H' x B e g
    have hx:x=.bl k:=by
     cases b with
     |true=>obtain⟨_,A,_,r⟩:=g;exact r.bl_inv
     |false=>exact(show Rp K F' H' _ _ _ from g).bl_inv
    exact⟨k,hx,q F' H' (e.mono λ_ z=>z.elim)⟩
   |_=>exact q.elim
theorem zks{op:CmpOp}{g:T->T->Option T}(ho:A2 X (compareOp op) (BY X.K g))(ha:PE X a (tM X.K E ca ma))(hb:PE X b (tM X.K E ca mb))(hm:behindInMarks op b=false):PT X (.Compare a [op] [b] pos) (Ak X.K E ca (BQ (g2 g) (AE ma (AE mb AF)))) :=
 PT.weak (zhl ho ha hb hm) λσ H Q h=>LP (Im h)
theorem Qu(h:PE X e (tM X.K E ca m))(he:∀whole,isTrue e X.env whole=(do let v <- whole;standAt e.pos;holding [v] (truthy v))):PT X e (Ak X.K E ca m):=PT.weak (zl3 h he) λσ H Q h=>Im h
theorem QV{Q:Bool->Hp->Prop}(h:Ak K E ca (DW mc ma mb) σ H Q):Ak K E ca mc σ H λk H1=>if k=true then Ak K E ca ma σ H1 Q else Ak K E ca mb σ H1 Q:=by
 obtain⟨F,τ,R,S,q⟩:=h;refine⟨F,τ,R,S,?_⟩;unfold DW at q;cases hm:mc τ with
 |none=>simp only[hm]at q
 |some r =>
  simp only[hm]at q;cases r with
  |x c=>exact q
  |v v b =>
   cases v with
   |bl k =>
    intro F1 H1 e1;have S1:=S.ext e1
    have key:∀{mm:AA->Option Rs},(match mm τ with
      |some (.v (.bl c) _)=>∀F' H',Ext F H F' H' R0->Q c H'
      |some (.v _ _)=>False
      |some (.x c)=>∀F' H',Ext F H F' H' R0->E σ (ca c) none H'
      |none=>False)->Ak K E ca mm σ H1 Q:=λ{mm} q=>by
     refine⟨F1,τ,R,S1,?_⟩;cases hr:mm τ with
     |none=>simp only[hr]at q
     |some r =>
      simp only[hr]at q;cases r with
      |x c=>exact λF' H' e=>q F' H' (e1.trans0 e)
      |v v b =>
       cases v with
       |bl k=>exact λF' H' e=>q F' H' (e1.trans0 e)
       |_=>exact q.elim
    cases k with
    |true=>exact Jj (key q)
    |false=>exact Jk (key q)
   |_=>exact q.elim
theorem QR{Q:VK}(h:tM K E ca (DW mc ma mb) σ H Q):Ak K E ca mc σ H λk H1=>if k=true then tM K E ca ma σ H1 Q else tM K E ca mb σ H1 Q:=by
 obtain⟨F,τ,R,S,q⟩:=h;refine⟨F,τ,R,S,?_⟩;unfold DW at q;cases hm:mc τ with
 |none=>simp only[hm]at q
 |some r =>
  simp only[hm]at q;cases r with
  |x c=>exact q
  |v v b =>
   cases v with
   |bl k =>
    intro F1 H1 e1;have S1:=S.ext e1
    have key:∀{mm:AA->Option Rs},(match mm τ with
      |some (.v v b)=>∀F' H' x B,Ext F H F' H' B->Cs K F' H' R v b x B->Q x H'
      |some (.x c)=>∀F' H',Ext F H F' H' R0->E σ (ca c) none H'
      |none=>False)->tM K E ca mm σ H1 Q:=λ{mm} q=>by
     refine⟨F1,τ,R,S1,?_⟩;cases hr:mm τ with
     |none=>simp only[hr]at q
     |some r =>
      simp only[hr]at q;cases r with
      |x c=>exact λF' H' e=>q F' H' (e1.trans0 e)
      |v v b=>exact λF' H' x B e g=>q F' H' x B (e1.trans0 e) g
    cases k with
    |true=>exact Jj (key q)
    |false=>exact Jk (key q)
   |_=>exact q.elim
theorem r_ife(hc:PT X c (Ak X.K E ca mc))(ha:PE X a (tM X.K E ca ma))(hb:PE X b (tM X.K E ca mb)):PE X (.IfExp c a b pos) (tM X.K E ca (DW mc ma mb)):=PE.weak (zfw hc ha hb) λσ H Q h=>QR h
theorem zgy{Q:Bool->Hp->Prop}(h:Ak K E ca (BJ mc) σ H Q):QK (Ak K E ca mc) σ H Q:=by
 obtain⟨F,τ,R,S,q⟩:=h;refine⟨F,τ,R,S,?_⟩;unfold BJ at q;cases hm:mc τ with
 |none=>simp only[hm]at q
 |some r =>
  simp only[hm]at q;cases r with
  |x c=>exact q
  |v v b =>
   cases v with
   |bl k=>exact q
   |_=>exact q.elim
theorem zkr(hc:PT X c (Ak X.K E ca mc)):PT X (.UnaryOp .Not c pos) (Ak X.K E ca (BJ mc)):=PT.weak (zl4 hc) λσ H Q h=>zgy h
theorem zk9{Q:VK}(h:tM K E ca (BJ mc) σ H Q):QJ (tM K E ca mc) σ H Q:=by
 obtain⟨F,τ,R,S,q⟩:=h;refine⟨F,τ,R,S,?_⟩;unfold BJ at q;cases hm:mc τ with
 |none=>simp only[hm]at q
 |some r =>
  simp only[hm]at q;cases r with
  |x c=>exact q
  |v v b =>
   cases v with
   |bl k =>
    intro F' H' x B e g
    have hx:x=.bl k:=by
     cases b with
     |true=>obtain⟨_,A,_,r⟩:=g;exact r.bl_inv
     |false=>exact(show Rp K F' H' _ _ _ from g).bl_inv
    exact⟨k,hx,q F' H' _ R0 (e.mono λ_ z=>z.elim) (.bl _)⟩
   |_=>exact q.elim
theorem r_not(ha:PE X a (tM X.K E ca ma)):PE X (.UnaryOp .Not a pos) (tM X.K E ca (BJ ma)):=PE.weak (zli ha) λσ H Q h=>zk9 h
theorem QP{Q:VK}(h:tM K E ca (DW mc ma mb) σ H Q):tM K E ca mc σ H λx H1=>∃k,x=.bl k/\if k=true then tM K E ca ma σ H1 Q else tM K E ca mb σ H1 Q:=Im (QR h)
theorem QT{t:T}{v:V}(r:∀F H,Rp K F H t v R0){Q:VK}(h:tM K E ca (mC t) σ H Q):Q v H:=by
 obtain⟨F,τ,R,S,q⟩:=h;exact q F H v R0 (Ext.refl S.fh) (r _ _)
theorem r_and{As:List Expr}(ha:PE X a (tM X.K E ca ma))(hb:PE X (.BoolOp .And (b::As) pos) (tM X.K E ca mb)):PE X (.BoolOp .And (a::b::As) pos) (tM X.K E ca (Cw ma mb)) :=
 PE.weak (zlo ha hb) λσ H Q h=>(QP h).mono λx H1 ⟨k,e,q⟩=>⟨k,e,by
  cases k with
  |true=>exact q
  |false=>exact QT (E:=E) (ca:=ca) (λ_ _=>.bl _) q⟩
theorem r_or{As:List Expr}(ha:PE X a (tM X.K E ca ma))(hb:PE X (.BoolOp .Or (b::As) pos) (tM X.K E ca mb)):PE X (.BoolOp .Or (a::b::As) pos) (tM X.K E ca (Bg ma mb)) :=
 PE.weak (pe_or ha hb) λσ H Q h=>(QP h).mono λx H1 ⟨k,e,q⟩=>⟨k,e,by
  cases k with
  |true=>exact QT (E:=E) (ca:=ca) (λ_ _=>.bl _) q
  |false=>exact q⟩
theorem r_one{op:BoolOp}(ha:PE X a (tM X.K E ca ma)):PE X (.BoolOp op [a] pos) (tM X.K E ca ma):=zlh ha
theorem Ak.mono{Q Q':Bool->Hp->Prop}(h:Ak K E ca m σ H Q)(w:∀x H',Q x H'->Q' x H'):Ak K E ca m σ H Q':=by
 obtain⟨F,τ,R,S,q⟩:=h;refine⟨F,τ,R,S,?_⟩;cases hm:m τ with
 |none=>rw[hm]at q;exact q
 |some r =>
  rw[hm]at q;cases r with
  |v v b =>
   cases v with
   |bl k=>exact λF' H' e=>w _ _ (q F' H' e)
   |_=>exact q.elim
  |x c=>exact q
theorem LR{k:Bool}{Q:Bool->Hp->Prop}(h:Ak K E ca (mC (.bl k)) σ H Q):Q k H:=by
 obtain⟨F,τ,R,S,q⟩:=h;exact q F H (Ext.refl S.fh)
theorem PW.weak{t t':TT}(h:PW X e t)(w:∀σ H Q,t' σ H Q->t σ H Q):PW X e t':=λwh pins s σ H Q I q=>h wh pins s σ H Q I (w σ H Q q)
theorem zkq{As:List Expr}(ha:PT X a (Ak X.K E ca ma))(hb:PW X (.BoolOp .And (b::As) pos) (Ak X.K E ca mb)):PW X (.BoolOp .And (a::b::As) pos) (Ak X.K E ca (Cw ma mb)) :=
 PW.weak (zl2 ha hb) λσ H Q h=>(QV h).mono λk H1 q=>by
  cases k with
  |true=>exact q
  |false=>exact LR (E:=E) (ca:=ca) q
theorem r_wor{As:List Expr}(ha:PT X a (Ak X.K E ca ma))(hb:PW X (.BoolOp .Or (b::As) pos) (Ak X.K E ca mb)):PW X (.BoolOp .Or (a::b::As) pos) (Ak X.K E ca (Bg ma mb)) :=
 PW.weak (pw_or ha hb) λσ H Q h=>(QV h).mono λk H1 q=>by
  cases k with
  |true=>exact LR (E:=E) (ca:=ca) q
  |false=>exact q
theorem zhe(ha:PT X a (Ak X.K E ca ma)):PW X (.BoolOp .And [a] pos) (Ak X.K E ca ma):=zhi ha
theorem zhd(ha:PT X a (Ak X.K E ca ma)):PW X (.BoolOp .Or [a] pos) (Ak X.K E ca ma):=zl1 ha
end
section
variable {X:Cx}{pins:List (Addr×Obj)}{σ:L2.St}{H:Hp}{s:Shared}{h':Heap}
theorem FY{t':Nat}{ch:List Addr}(I:Inv X pins σ H s)(k:∀b o,b∉ch->s.heap.get? b=some o->h'.get? b=some o)(f:∀b∈ch,Bx X pins H b):Inv X pins σ H { s with heap:=h',toks:=t' }:=by
 have nit:∀b u,H b=some u->b∉ch:=λb u e z=>by rw[(f b z).1]at e;cases e
 refine I.step (g':=s.gens) (d':=s.drawn) (ch:=ch) (λb hb=>?_) (λb o _ _ hc e _=>k b o hc e) (λb o _ _ hc e _=>⟨o.slots,k b o hc e⟩) (λ_ _ _ _ n=>n)
  (λb o hc e=>⟨o,k b o hc e⟩) (λ_ _ e=>e) (λ_ _ _ e=>e) (λb ps e=>⟨#[],by rw[e];simp⟩) (λm hm=>?_) (λb u e=>?_) I.bare
 .obtain⟨_,f1,f2,f3,f4,f5⟩:=f b hb;exact⟨f3,f1,f4,f5⟩
 .obtain⟨o,es,ep,ho,r⟩:=hm;exact⟨o,es,ep,k _ o (λz=>(f _ z).2.1 rfl) ho,r⟩
 .refine(I.hok b u e).stay (λc v hc q=>k c v ?_ q) (λ_ q=>q) λ_ _ q=>q
  rcases hc with z|z
  .rw[z];exact nit b u e
  .exact nit c _ z
theorem QA{t':Nat}{ch:List Addr}{p:Addr}{o:HO}(I:Inv X pins σ H s)(k:∀b o,b∉ch->s.heap.get? b=some o->h'.get? b=some o)(f:∀b∈ch,Bx X pins H b)(hp:s.heap.objs.size<=p)(new:BR X.prog X.w (upd H p o) h' p o) :
  Inv X pins σ (upd H p o) { s with heap:=h',toks:=t' }:=by
 have hn:H p=none:=I.hok.fresh hp;have nit:∀b u,H b=some u->b∉ch:=λb u e z=>by rw[(f b z).1]at e;cases e
 have old:∀b ob,s.heap.get? b=some ob->b≠p:=λb ob e z=>by
  subst z;exact absurd (yad e) (Nat.not_lt.mpr hp)
 refine I.step (g':=s.gens) (d':=s.drawn) (ch:=ch) (λb hb=>?_) (λb o _ _ hc e _=>k b o hc e) (λb o _ _ hc e _=>⟨o.slots,k b o hc e⟩) (λb ob hc e n=>by rw[Aj (old b ob e)];exact n)
  (λb o hc e=>⟨o,k b o hc e⟩) (λb xs e=>by rw[Aj (CA e hn)];exact e) (λb o u e=>by rw[Aj (CA e hn)];exact e) (λb ps e=>⟨#[],by rw[Aj (CA e hn),e];simp⟩) (λm hm=>?_) (λb u e=>?_) I.bare
 .obtain⟨_,f1,f2,f3,f4,f5⟩:=f b hb;exact⟨f3,f1,f4,f5⟩
 .obtain⟨o,es,ep,ho,r⟩:=hm;exact⟨o,es,ep,k _ o (λz=>(f _ z).2.1 rfl) ho,r⟩
 .by_cases hb:b=p
  .subst hb;rw[Br]at e;cases e;exact new
  .rw[Aj hb]at e;refine(I.hok b u e).stay (λc v hc q=>k c v ?_ q) (λc q=>by rw[Aj (CA q hn)];exact q) λc xs q=>by rw[Aj (CA q hn)];exact q
   rcases hc with z|z
   .rw[z];exact nit b u e
   .exact nit c _ z
theorem US{p b:Addr}{o:HO}(f:Bx X pins H b)(h:b≠p):Bx X pins (upd H p o) b:=⟨by rw[Aj h];exact f.1,f.2⟩
end
def Pc(K:k6)(l:Addr):It :=
 ⟨λi H=>∃xs x,AS K H l xs/\xs[i]?=some x,λi H x H'=>∃p y,x=.ref p/\H p=none/\H'=upd H p (.tup [.int i,y])/\∀xs,AS K H l xs->xs[i]?=some y,λi H=>∃xs,AS K H l xs/\xs.length<=i⟩
theorem zdn{P:Program}{w:World}{K:k6}{elts:List Expr}{kk:Nat}{tpos:Pos}(l e it:Addr)(hei:e≠it) :
  Turn P w K (.Tuple elts kk tpos) (Pc K l) [e,it] e (λi h=>(∃old,IsEnum h e it i old)/\h.IsListIter it l i) where
 mem:=by simp
 obj:=λi h st b hb=>by
  obtain⟨⟨old,he⟩,o,hi,hc,hd⟩:=st;obtain rfl|hb:=yai.mp hb
  .exact⟨_,he,λv z=>by
    have z':Data.fields _=Data.cell v:=z;cases z'⟩
  .have q:b=it:=by simpa using hb
   subst q;exact⟨o,hi,λv z=>by rw[hd]at z;cases z⟩
 keep:=λi h h' st k=>by
  obtain⟨⟨old,he⟩,hi⟩:=st;exact⟨⟨old,k e (by simp) _ he⟩,hi.at λo q=>k it (by simp) o q⟩
 item:=by
  intro X hP hw hK hc i pins s σ H E I hf st hg;subst hP hw hK;obtain⟨⟨old,he⟩,hit⟩:=st;obtain⟨xs,x,hq,hx⟩:=hg;obtain⟨its,rv,p,hz⟩:=I.list hq;obtain⟨u,hu,ru⟩:=rv.get hx;have elt:e<s.heap.objs.size:=yad he;have ilt:it<s.heap.objs.size:=by obtain⟨o,q,_⟩:=hit;exact yad q
  have hn:H s.heap.objs.size=none:=I.hok.fresh (ya8 _);refine wpAny_pyNext_enum_item he hit p.isList (x:=u) (by simpa using hu) hei λh' ho hit' hT hsz hk=>?_
  have I1:Inv X pins σ (upd H s.heap.objs.size (.tup [.int i,x])) { s with heap:=h',toks:=s.toks+1 }:=by
   refine QA (ch:=[e,it]) I (λb o hb q=>hk b o (λz=>hb (by simp[z])) (λz=>hb (by simp[z])) q) hf (ya8 _) ?_
   exact⟨by simp only[yao,yb4];rw[yej];decide,[.int i s.toks,u],.cons ⟨_,rfl⟩ (.cons ru .nil),_,hT,rfl,0,rfl⟩
  have f1:∀b∈[e,it],Bx X pins (upd H s.heap.objs.size (.tup [.int i,x])) b:=λb hb=>US (hf b hb) (by
   obtain rfl|hb:=yai.mp hb
   .exact yaq elt
   .have q:b=it:=by simpa using hb
    subst q;exact yaq ilt)
  refine⟨.ref s.heap.objs.size,rfl,wpAny_letOwnedTupleGo_enum ho λh2 he2 hs2=>?_⟩
  refine⟨.ref s.heap.objs.size,_,FY (t':=s.toks+1) (ch:=[e]) I1 (λb o hb q=>hs2.extBut b o (λz=>hb (by simp[z])) q) (λb hb=>f1 b (by simp at hb;simp[hb])),rfl,⟨_,x,rfl,hn,rfl,λys hy=>by rw[I.list_inj hy hq];exact hx⟩,⟨⟨_,by simpa using he2⟩,hit'.extBut hs2.extBut hei.symm⟩,λb hb=>(f1 b hb).1⟩
 done:=by
  intro X hP hw hK hc i pins s σ H E I hf st hg;subst hP hw hK;obtain⟨⟨old,he⟩,hit⟩:=st;obtain⟨xs,hq,hx⟩:=hg;obtain⟨its,rv,p,hz⟩:=I.list hq;have hl:=rv.length;exact wpAny_pyNext_enum_end (I.ok.hd hc) he hit p.isList (by simp;omega) λh' eb=>⟨rfl,FY (t':=s.toks) (ch:=[it]) I (λb o hb q=>eb b o (λz=>hb (by simp[z])) q) (λb hb=>hf b (by simp at hb;simp[hb]))⟩
 self:=λ_ _ _ _ _ st h=>wpAny_pyIter_enum st.1.choose_spec h
def P9(K:k6)(l1 l2:Addr):It :=
  ⟨λi H=>∃xs x ys y,AS K H l1 xs/\xs[i]?=some x/\AS K H l2 ys/\ys[i]?=some y,
   λi H x H'=>∃p y z,x=.ref p/\H p=none/\H'=upd H p (.tup [y,z])/\(∀xs,AS K H l1 xs->xs[i]?=some y)/\∀xs,AS K H l2 xs->xs[i]?=some z,
   λi H=>∃xs ys,AS K H l1 xs/\AS K H l2 ys/\(xs.length<=i\/ys.length<=i)⟩
theorem zf0{P:Program}{w:World}{K:k6}{elts:List Expr}{kk:Nat}{tpos:Pos}(z TI TO i1 i2 l1 l2:Addr)(D:ZipApart z TI TO i1 i2 l1 l2) :
  Turn P w K (.Tuple elts kk tpos) (P9 K l1 l2) [z,TI,TO,i1,i2] z (λi h=>IsZip h z TI TO .none/\IsPair h TI (.ref i1) (.ref i2)/\(∃a b,IsPair h TO a b)/\h.IsListIter i1 l1 i/\h.IsListIter i2 l2 i) where
 mem:=by simp
 obj:=λi h st b hb=>by
  obtain⟨hz,hTI,⟨a,c,hTO⟩,⟨o1,e1,_,d1⟩,⟨o2,e2,_,d2⟩⟩:=st;simp only[yai,ybs,yew]at hb;rcases hb with rfl|rfl|rfl|rfl|rfl
  .exact⟨_,hz,λv z=>by
    have z':Data.fields _=Data.cell v:=z;cases z'⟩
  .exact⟨_,hTI,λv z=>by
    have z':Data.seq _ _=Data.cell v:=z;cases z'⟩
  .exact⟨_,hTO,λv z=>by
    have z':Data.seq _ _=Data.cell v:=z;cases z'⟩
  .exact⟨o1,e1,λv z=>by rw[d1]at z;cases z⟩
  .exact⟨o2,e2,λv z=>by rw[d2]at z;cases z⟩
 keep:=λi h h' st k=>by
  obtain⟨hz,hTI,⟨a,c,hTO⟩,h1,h2⟩:=st;exact⟨k z (by simp) _ hz,k TI (by simp) _ hTI,⟨a,c,k TO (by simp) _ hTO⟩,h1.at λo q=>k i1 (by simp) o q,h2.at λo q=>k i2 (by simp) o q⟩
 item:=by
  intro X hP hw hK hc i pins s σ H E I hf st hg;subst hP hw hK;obtain⟨hz,hTI,⟨a,c,hTO⟩,h1,h2⟩:=st;obtain⟨xs,x,ys,y,hq,hx,hq2,hy⟩:=hg;obtain⟨its,rv,p,hzz⟩:=I.list hq;obtain⟨its2,rv2,p2,hzz2⟩:=I.list hq2;obtain⟨u,hu,ru⟩:=rv.get hx;obtain⟨u2,hu2,ru2⟩:=rv2.get hy;have hn:H s.heap.objs.size=none:=I.hok.fresh (ya8 _)
  have lt:∀b∈[z,TI,TO,i1,i2],b≠s.heap.objs.size:=λb hb=>by
   simp only[yai,ybs,yew]at hb;rcases hb with rfl|rfl|rfl|rfl|rfl
   .exact yaq (yad hz)
   .exact yaq (yad hTI)
   .exact yaq (yad hTO)
   .obtain⟨o,q,_⟩:=h1;exact yaq (yad q)
   .obtain⟨o,q,_⟩:=h2;exact yaq (yad q)
  refine wpAny_pyNext_zip_item D hz hTI hTO h1 h2 p.isList p2.isList (x:=u) (y:=u2) (by simpa using hu) (by simpa using hu2) λh' a1 a2 a3 a4 a5 a6 hk=>?_
  have I1:Inv X pins σ (upd H s.heap.objs.size (.tup [x,y])) { s with heap:=h',toks:=s.toks }:=by
   refine QA (ch:=[z,TI,TO,i1,i2]) I (λb o hb q=>hk b o (λz=>hb (by simp[z])) (λz=>hb (by simp[z])) (λz=>hb (by simp[z])) (λz=>hb (by simp[z])) q) hf (ya8 _) ?_
   exact⟨by simp only[yao,yb4];rw[yej];decide,[u,u2],.cons ru (.cons ru2 .nil),_,a5,rfl,0,rfl⟩
  have f1:∀b∈[z,TI,TO,i1,i2],Bx X pins (upd H s.heap.objs.size (.tup [x,y])) b:=λb hb=>US (hf b hb) (lt b hb)
  refine⟨.ref s.heap.objs.size,rfl,wpAny_letOwnedTupleGo_zip a1 λh3 hz3 hs3=>?_⟩
  refine⟨.ref s.heap.objs.size,_,FY (t':=s.toks) (ch:=[z]) I1 (λb o hb q=>hs3.extBut b o (λz=>hb (by simp[z])) q) (λb hb=>f1 b (by simp at hb;simp[hb])),rfl,⟨_,x,y,rfl,hn,rfl,(λzs hy'=>by rw[I.list_inj hy' hq];exact hx),λzs hy'=>by rw[I.list_inj hy' hq2];exact hy⟩,?_,λb hb=>(f1 b hb).1⟩
  exact⟨hz3,hs3.extBut _ _ D.TIz (hk _ _ D.TIz D.TITO D.TIi1 D.TIi2 hTI),⟨_,_,hs3.extBut _ _ D.TOz a2⟩,a3.extBut hs3.extBut D.i1z,a4.extBut hs3.extBut D.i2z⟩
 done:=by
  intro X hP hw hK hc i pins s σ H E I hf st hg;subst hP hw hK;obtain⟨hz,hTI,⟨a,c,hTO⟩,h1,h2⟩:=st;obtain⟨xs,ys,hq,hq2,hx⟩:=hg;obtain⟨its,rv,p,hzz⟩:=I.list hq;obtain⟨its2,rv2,p2,hzz2⟩:=I.list hq2;have hl:=rv.length;have hl2:=rv2.length;refine wpAny_pyNext_zip_end (I.ok.hd hc) D hz hTI hTO h1 h2 p.isList p2.isList ?_ λh' hk=>⟨rfl,FY (t':=s.toks) (ch:=[z,TI,TO,i1,i2]) I (λb o hb q=>hk b o (λz=>hb (by simp[z])) (λz=>hb (by simp[z])) (λz=>hb (by simp[z])) (λz=>hb (by simp[z])) q) hf⟩
  rcases hx with hx|hx
  .exact .inl (by simp;omega)
  .exact .inr (by simp;omega)
 self:=λ_ _ _ _ _ st h=>wpAny_pyIter_zip st.1 h
section
variable {X:Cx}{elts:List Expr}{kk:Nat}{tpos:Pos}
def iEnum(K:k6)(ta:TA):TI:=λσ H R=>ta σ H λvs H1=>∃a,vs=[.ref a]/\(∃xs,AS K H1 a xs)/\R (Pc K a) H1
theorem zhu{a:Expr}{ta:TA}{p pos:Pos}(hg:Gl X "enumerate")(hm:X.mg "enumerate"=none)(ha:PA X [a] ta)(hs:starEach [a] X.env=[(false,eval a X.env)]):PI X (.Tuple elts kk tpos) (.Call (.Name "enumerate" p) [a] [] pos) (iEnum X.K ta):=by
 intro pins s σ H R I h;refine Call_ (Fv I hg hm boot_enumerate (ybv (AO (ha pos pins s σ H _ I h) λus s1 ⟨vs,H1,I1,r1,q1⟩=>?_) hs rfl))
 obtain⟨l,e,⟨xs,hq⟩,q⟩:=q1;subst e;obtain⟨u,rfl,ru⟩:=De r1;cases ru;obtain⟨its,rv,pl,hz⟩:=I1.list hq;have llt:l<s1.heap.objs.size:=by obtain⟨o,n,e,_⟩:=pl;exact yad e
 refine call_enumerate_list pl.isList λh' he hit hsz hk=>?_
 have I2:Inv X pins σ H1 { s1 with heap:=h',toks:=s1.toks }:=I1.kept hk
 refine wpAny_pyIter_enum he ⟨s1.heap.objs.size+1,[s1.heap.objs.size+1,s1.heap.objs.size],_,_,H1,rfl,I2,zdn l _ _ (by simp),⟨⟨_,he⟩,hit⟩,λb hb=>?_,q⟩
 have hb':s1.heap.objs.size<=b:=by
  obtain rfl|hb:=yai.mp hb
  .exact ycd _
  .have e:b=s1.heap.objs.size:=by simpa using hb
   subst e;exact ya8 _
 exact I1.fpOk hb' (I1.hok.fresh hb')
def iZip(K:k6)(ta:TA):TI:=λσ H R=>ta σ H λvs H1=>∃a b,vs=[.ref a,.ref b]/\(∃xs,AS K H1 a xs)/\(∃xs,AS K H1 b xs)/\R (P9 K a b) H1
theorem zla{a b:Expr}{ta:TA}{p pos:Pos}(hg:Gl X "zip")(hm:X.mg "zip"=none)(ha:PA X [a,b] ta)(hs:starEach [a,b] X.env=[(false,eval a X.env),(false,eval b X.env)])(hs2:starEach [b] X.env=[(false,eval b X.env)]):PI X (.Tuple elts kk tpos) (.Call (.Name "zip" p) [a,b] [] pos) (iZip X.K ta):=by
 intro pins s σ H R I h;refine Call_ (Fv I hg hm boot_zip (ybv (AO (ha pos pins s σ H _ I h) λus s1 ⟨vs,H1,I1,r1,q1⟩=>?_) (by rw[hs,hs2]) (by rw[hs2];rfl)))
 obtain⟨l1,l2,e,⟨xs,hq⟩,⟨ys,hq2⟩,q⟩:=q1;subst e;obtain⟨u,u2,rfl,ru,ru2⟩:=GP r1;cases ru;cases ru2;obtain⟨its,rv,pl,hz⟩:=I1.list hq;obtain⟨its2,rv2,pl2,hz2⟩:=I1.list hq2;have llt:l1<s1.heap.objs.size:=by obtain⟨o,n,e,_⟩:=pl;exact yad e
 have llt2:l2<s1.heap.objs.size:=by obtain⟨o,n,e,_⟩:=pl2;exact yad e
 refine call_zip_2 pl.isList pl2.isList λh' a1 a2 a3 a4 a5 a6 hk=>?_
 have I2:Inv X pins σ H1 { s1 with heap:=h',toks:=s1.toks }:=I1.kept hk
 have D:ZipApart (s1.heap.objs.size+4) (s1.heap.objs.size+2) (s1.heap.objs.size+3) s1.heap.objs.size (s1.heap.objs.size+1) l1 l2:=by
  have n1:∀k:Nat,l1≠s1.heap.objs.size+k:=λk z=>yb5 _ (yaj llt (z▸ycf _ _))
  have n2:∀k:Nat,l2≠s1.heap.objs.size+k:=λk z=>yb5 _ (yaj llt2 (z▸ycf _ _))
  refine⟨?_,?_,?_,?_,?_,?_,?_,?_,?_,?_,n1 4,n1 3,n1 0,n1 1,n2 4,n2 3,n2 0,n2 1⟩<;>intro z<;>simp at z
 refine wpAny_pyIter_zip a1 ⟨_,[s1.heap.objs.size+4,s1.heap.objs.size+2,s1.heap.objs.size+3,s1.heap.objs.size,s1.heap.objs.size+1],_,_,H1,rfl,I2,zf0 _ _ _ _ _ l1 l2 D,⟨a1,a2,⟨_,_,a3⟩,a4,a5⟩,λb hb=>?_,q⟩
 have hb':s1.heap.objs.size<=b:=by
  simp only[yai,ybs,yew]at hb;rcases hb with rfl|rfl|rfl|rfl|rfl
  .exact ycf _ _
  .exact ycf _ _
  .exact ycf _ _
  .exact ya8 _
  .exact ycf _ _
 exact I1.fpOk hb' (I1.hok.fresh hb')
end
section
variable {X:Cx}{pins:List (Addr×Obj)}{σ:L2.St}{H:Hp}{s:Shared}{a:Addr}{o:Obj}{kvs:List (Key×V)}
theorem NS{vs:List (Key×Value)}(r:KV kvs vs):kvs.length=vs.length:=ydu (show Paired _ kvs vs from r)
end
section
variable {X:Cx}{o:Expr}{to:TE}{ap cp:Pos}{elts:List Expr}{kk:Nat}{tpos:Pos}
end
def HJ(ifs:List Expr)(env:Env):Sem Bool:=forIn ifs true λc r=>if r=true then do let ok <- isTrue c env (eval c env);pure (ForInStep.yield ok) else pure (ForInStep.yield r)
def FQ(X:Cx)(ifs:List Expr)(t:TT):Prop :=
 ∀(pins:List (Addr×Obj)) (s:Shared) (σ:L2.St) (H:Hp) (Q:Bool->Hp->Prop),Inv X pins σ H s->t σ H Q->wpAny (model X.prog X.w) X.A (HJ ifs X.env) (TP X pins σ Q) X.xe s
theorem zhk{X:Cx}:FQ X [] (λ_ H Q=>Q true H):=λpins s σ H Q I h=>yeg ⟨H,I,h⟩
theorem zhj{X:Cx}{c:Expr}{t:TT}(h:PT X c t):FQ X [c] t:=λpins s σ H Q I q=>by
 have e:HJ [c] X.env=(isTrue c X.env (eval c X.env) >>= λok=>pure ok):=by
  unfold HJ;simp[List.forIn_cons]
 rw[e];exact yed (yeb (h pins s σ H Q I q) (λb s1 h1=>yeg h1) λ_ _ z=>z)
theorem zdd{elt target iter:Expr}{ifs:List Expr}{scope:Scope}{pos:Pos}{it acc:Value}{env:Env}:compTurn (.ListComp elt [⟨target,iter,ifs,0⟩] scope pos) 0 it acc env=(standAt iter.pos >>= λ_=>pyNext it >>= λr=>match r with
  |none=>pure (.done .next)
  |some u=>letOwnedTupleGo target it u >>= λ_=>assign target env u >>= λ_=>HJ ifs env >>= λok =>
   if ok=true then ((eval elt env >>= λx=>call (.builtin "list.append") [acc,x] >>= λ_=>pure ()) >>= λ_=>again (.compLoop (.ListComp elt [⟨target,iter,ifs,0⟩] scope pos) 0 it acc env))
   else again (.compLoop (.ListComp elt [⟨target,iter,ifs,0⟩] scope pos) 0 it acc env)):=by rfl
theorem zde{prog:Program}{w:World}{A:Around}{R:Result->Shared->Prop}{s:Shared}{elt target iter:Expr}{ifs:List Expr}{scope:Scope}{pos:Pos}{it acc:Value}{env:Env}{NE:Value->Shared->Prop}(hN:NE=notedBy (model prog w) A env λe s'=>R (.error e) s')(I:Nat->Shared->Prop)
  (hturn : ∀ n s, I n s -> wpAny (model prog w) A (pyNext it) (fun r s₁ => match r with
   |none=>R (.ok .next) s₁
   |some v=>wpAny (model prog w) A (letOwnedTupleGo target it v) (λ_ s₁'=>wpAny (model prog w) A (assign target env v) (λ_ s₂=>wpAny (model prog w) A (HJ ifs env) (λok s₂'=>if ok=true then wpAny (model prog w) A (eval elt env) (λx s₃ =>
     wpAny (model prog w) A (call (.builtin "list.append") [acc,x]) (λ_ s₄=>∃m,m<n/\I m s₄) NE s₃)
     NE s₂' else ∃m,m<n/\I m s₂') NE s₂) NE s₁') NE s₁) NE s)
  (k:Nat) (hk:I k s):codeAny (model prog w) A (.compLoop (.ListComp elt [⟨target,iter,ifs,0⟩] scope pos) 0 it acc env) R s:=by
 subst hN;refine codeAny_loop rfl I (λn s hI=>?_) k hk
 show wpAny _ _ ((compTurn (.ListComp elt [⟨target,iter,ifs,0⟩] scope pos) 0 it acc env).onRaise (λy=>do noteFrame y env;theTreesLotGoes y)) _ _ s
 refine wpAny_noted ?_;rw[zdd];refine yed (yef (yed (yeb (hturn n s hI) (λr s₁ h₁=>?_) λ_ _ z=>z)))
 cases r with
 |none=>exact yeg h₁
 |some v =>
  refine yed (yeb h₁ (λ_ s₁' h₁'=>?_) λ_ _ z=>z)
  refine yed (yeb h₁' (λ_ s₂ h₂=>yed (yeb h₂ (λok s₂' h₂'=>?_) λ_ _ z=>z)) λ_ _ z=>z)
  cases ok with
  |false =>
   rw[if_neg (by decide)]at h₂' ⊢
   exact yeg ⟨rfl,h₂'⟩
  |true =>
   rw[if_pos rfl]at h₂' ⊢;exact yed (yed (yeb h₂' (λx s₃ h₃=>yed (yeb h₃ (λ_ s₄ h₄=>yeg (yeg ⟨rfl,h₄⟩)) λ_ _ z=>z)) λ_ _ z=>z))
theorem O9(env:Env):∀(names:List (Str×NameKind)),(∀y∈names,y.2=.free->∃c,env.cells.lookup y.1=some c)->∀acc:List (Str×Addr),∃cl:List (Str×Addr),
  (forIn names acc λ(x:Str×NameKind) (r:List (Str×Addr))=>(if (x.2 == NameKind.free)=true then do let a <- cellOf env x.1;pure (ForInStep.yield ((x.1,a)::r)) else pure (ForInStep.yield r):Sem (ForInStep (List (Str×Addr)))))=(pure cl:Sem (List (Str×Addr))) /\
  (∀y c,cl.lookup y=some c->acc.lookup y=some c\/env.cells.lookup y=some c)/\(∀y∈names,y.2=.free->∃c,cl.lookup y.1=some c)/\∀y c,acc.lookup y=some c->∃c',cl.lookup y=some c'
 |[],_,acc=>⟨acc,rfl,λ_ _ e=>.inl e,(λ_ z=>by cases z),λ_ c e=>⟨c,e⟩⟩
 |(n,k)::r,h,acc=>by
  rw[List.forIn_cons]
  by_cases hk:k=.free
  .subst hk;obtain⟨c,hc⟩:=h (n,.free) (ya7 ..) rfl;have e1:cellOf env n=pure c:=by unfold cellOf;rw[hc]
   obtain⟨cl,e,h1,h2,h3⟩:=O9 env r (λy hy=>h y (ya6 _ hy)) ((n,c)::acc)
   refine⟨cl,?_,λy c' q=>?_,λy hy hf=>?_,λy c' q=>?_⟩
   .simp only[yex,yeo,e1,pure_bind];exact e
   .rcases h1 y c' q with z|z
    .rw[yay]at z;cases hy:y == n with
     |true =>
      rw[hy]at z;cases z;exact .inr (by rw[eq_of_beq hy];exact hc)
     |false=>rw[hy]at z;exact .inl z
    .exact .inr z
   .obtain rfl|hy:=yai.mp hy
    .exact h3 n c (by simp)
    .exact h2 y hy hf
   .by_cases hy:y=n
    .subst hy;exact h3 y c (by simp)
    .exact h3 y c' (by rw[yay,beq_eq_false_iff_ne.mpr hy];exact q)
  .have hk':(k == NameKind.free)=false:=beq_eq_false_iff_ne.mpr hk;obtain⟨cl,e,h1,h2,h3⟩:=O9 env r (λy hy=>h y (ya6 _ hy)) acc
   refine⟨cl,?_,h1,λy hy hf=>?_,h3⟩
   .simp only[hk',pure_bind];exact e
   .obtain rfl|hy:=yai.mp hy
    .exact absurd hf hk
    .exact h2 y hy hf
theorem zcs(scope:Scope)(env:Env)(h:∀y∈scope.names,y.2=.free->∃c,env.cells.lookup y.1=some c):∃cl,closureFor scope env=pure cl/\(∀y c,cl.lookup y=some c->env.cells.lookup y=some c)/\∀y∈scope.names,y.2=.free->∃c,cl.lookup y.1=some c:=by
 obtain⟨cl,e,h1,h2,_⟩:=O9 env scope.names h [];refine⟨cl,?_,λy c q=>?_,h2⟩
 .have e2:closureFor scope env=(forIn scope.names [] λ(x:Str×NameKind) (r:List (Str×Addr))=>(if (x.2 == NameKind.free)=true then do let a <- cellOf env x.1;pure (ForInStep.yield ((x.1,a)::r)) else pure (ForInStep.yield r):Sem (ForInStep (List (Str×Addr))))) >>= pure:=rfl
  rw[e2,e,pure_bind]
 .rcases h1 y c q with z|z
  .cases z
  .exact z
theorem Oc:∀(names:List (Str×NameKind)) (h:Heap) (acc:List (Str×Addr)) (y:Str) (c:Addr),(cellsFrom h.objs.size names acc).lookup y=some c->acc.lookup y=some c\/(h.objs.size<=c/\(pushCells h names).IsCell c none/\(y,NameKind.cell)∈names)
 |[],h,acc,y,c,e=>.inl e
 |(n,k)::r,h,acc,y,c,e=>by
  unfold cellsFrom at e;unfold pushCells;split at e
  .rename_i hk;rw[if_pos hk];have ez:(h.push { cls:=.type "cell",data:=.cell none }).objs.size=h.objs.size+1:=yc4 ..;rw[<- ez]at e
   rcases Oc r _ _ y c e with q|⟨q1,q2,q3⟩
   .rw[yay]at q;cases hy:y == n with
    |true =>
     rw[hy]at q;cases q;have e1:y=n:=eq_of_beq hy;subst e1;exact .inr ⟨ya8 _,⟨_,yey _ _ _ _ (yau _ rfl),rfl⟩,by rw[eq_of_beq hk];exact ya7 ..⟩
    |false=>rw[hy]at q;exact .inl q
   .exact .inr ⟨by rw[ez]at q1;exact yaf (ycd _) q1,q2,ya6 _ q3⟩
  .rename_i hk;rw[if_neg hk]
   rcases Oc r h acc y c e with q|⟨q1,q2,q3⟩
   .exact .inl q
   .exact .inr ⟨q1,q2,ya6 _ q3⟩
theorem Od:∀(names:List (Str×NameKind)) (h:Heap) (acc:List (Str×Addr)),(∀y z c,acc.lookup y=some c->acc.lookup z=some c->y=z)->(∀y c,acc.lookup y=some c->c<h.objs.size) ->
  ∀y z c,(cellsFrom h.objs.size names acc).lookup y=some c->(cellsFrom h.objs.size names acc).lookup z=some c->y=z
 |[],h,acc,hi,_=>hi
 |(n,k)::r,h,acc,hi,hl=>by
  unfold cellsFrom;split
  .have ez:(h.push { cls:=.type "cell",data:=.cell none }).objs.size=h.objs.size+1:=yc4 ..;rw[<- ez];refine Od r _ _ (λy z c h1 h2=>?_) (λy c h1=>?_)
   .rw[yay]at h1 h2;cases hy:y == n with
    |true =>
     rw[hy]at h1;cases h1;cases hz:z == n with
     |true=>rw[eq_of_beq hy,eq_of_beq hz]
     |false =>
      rw[hz]at h2;exact absurd (hl z _ h2) (yb5 _)
    |false =>
     rw[hy]at h1;cases hz:z == n with
     |true =>
      rw[hz]at h2;cases h2;exact absurd (hl y _ h1) (yb5 _)
     |false=>rw[hz]at h2;exact hi y z c h1 h2
   .rw[yay]at h1;rw[ez];cases hy:y == n with
    |true=>rw[hy]at h1;cases h1;exact ycr _
    |false=>rw[hy]at h1;exact yca (hl y c h1)
  .exact Od r h acc hi hl
theorem Oa:∀(names:List (Str×NameKind)) (n lo:Nat) (acc:List (Str×Addr)) (y:Str) (c:Addr),lo<=n->((y,NameKind.cell)∈names\/∃c0,acc.lookup y=some c0/\lo<=c0)->(cellsFrom n names acc).lookup y=some c->lo<=c
 |[],n,lo,acc,y,c,hn,h,e=>by
  rcases h with h|⟨c0,h1,h2⟩
  .cases h
  .have e':acc.lookup y=some c:=e;rw[h1]at e';cases e';exact h2
 |(m,k)::r,n,lo,acc,y,c,hn,h,e=>by
  unfold cellsFrom at e;split at e
  .refine Oa r (n+1) lo _ y c (Nat.le_succ_of_le hn) ?_ e
   by_cases hy:y=m
   .subst hy;exact .inr ⟨n,by simp,hn⟩
   .rcases h with h|⟨c0,h1,h2⟩
    .rcases yai.mp h with z|z
     .cases z;exact absurd rfl hy
     .exact .inl z
    .exact .inr ⟨c0,by rw[yay,beq_eq_false_iff_ne.mpr hy];exact h1,h2⟩
  .rename_i hk;refine Oa r n lo acc y c hn ?_ e
   rcases h with h|h
   .rcases yai.mp h with z|z
    .cases z;exact absurd rfl hk
    .exact .inl z
   .exact .inr h
theorem zbz{M:Model}{A:Around}{E:Value->Shared->Prop}{s:Shared}{scope:Scope}{globals:Addr}{cl:List (Str×Addr)}{qual:Str}{func:Option Addr}{code:Value}{outer:Env}{builtins:Addr}{Q:Env->Shared->Prop}
  (hQ:Q (newEnv scope s.heap.objs.size globals (cellsFrom (s.heap.objs.size+1) scope.names cl) qual func code (some outer) builtins) { s with heap:=pushCells (s.heap.push { cls:=.type "dict",data:=.dict #[] }) scope.names }) :
  wpAny M A (newFunctionEnv scope globals cl [] qual func code (some outer) builtins) Q E s:=by
 simp only[newFunctionEnv,Option.isSome_some,yeo];refine yed (wpAny_alloc ?_);refine yed (wpAny_layCells _ (λname kind cells=>by cases hkc:kind == NameKind.cell<;>simp[hkc]) _ _ _ _ ?_);rw[show({ s with heap:=s.heap.push { cls:=.type "dict",data:=.dict #[] } }:Shared).heap.objs.size=s.heap.objs.size+1 from yc4 ..]
 rw[List.forIn_nil];exact yed (yeg (yeg hQ))
abbrev Ae(X:Cx)(scope:Scope)(cl:List (Str×Addr))(N':List Str)(C:Addr)(s₀:Shared)(H₀:Hp)(ex:List Addr)(xb:Value->Shared->Prop):Cx:={ zn5 X scope cl N' C s₀ H₀ ex with fn:=λx=>decide (scope.names.lookup x=some .cell),xe:=xb }
theorem U3{h h' B B':Heap}(k:∀b o,B.get? b=none->h.get? b=some o->(∀us,o.data≠.fields us)->B'.get? b=none/\∃o',h'.get? b=some o'/\∀us,o'.data≠.fields us):∀{l:List Env},h.FunFrames B l->h'.FunFrames B' l
 |[],_=>trivial
 |_::_,⟨x,⟨L,o,y1,y2,y3,y4⟩,r⟩=>by
  obtain⟨z1,o',z2,z3⟩:=k L o y2 y3 y4;exact⟨x,⟨L,o',y1,z1,z2,z3⟩,U3 k r⟩
def GK(X:Cx):Prop:=∃v l,X.stack=v::l/\X.env.frame=v.frame
theorem zej{X:Cx}{E:L2.St->XK}{pins:List (Addr×Obj)}{σ:L2.St}{H:Hp}{s s':Shared}{C:Addr}{benv:Env}{e acc:Value}{use:Option (Value->Sem Unit)}{QQ:Value->Shared->Prop}{EE:Value->Shared->Prop}(hx:BM X E)(hst:GK X)(I:Inv X pins σ H s)(fC:Bx X pins H C)(hC:∃m,s.heap.Ns C m)(nC:C∉BH X.stack)
  (hb:benv.frame=X.env.frame) (h:Bb X.prog X.w X.stack H s (E σ) e s'):wpAny (model X.prog X.w) X.A (noteFrame e benv) (λ_ s2=>compPost (model X.prog X.w) X.A X.xe use QQ acc C (.error e) s2) EE s':=by
 obtain⟨v,l,st,hv⟩:=hst;obtain⟨a,cls,H',B,rfl,os,bare,un,hok,kB,tB,fl0,he⟩:=h;have fl1:HA B (v::l) a cls s'.heap:=st▸fl0
 obtain⟨L,hL⟩:∃L,v.frame=some L:=by
  obtain⟨_,_,_,⟨_,⟨L,_,y,_⟩,_⟩,_⟩:=fl1;exact⟨L,y⟩
 refine S9 (st▸I.ok.frames) (hb.trans hv) hL fl1 λh4 held sm=>?_
 obtain⟨m,oC,es,ep,hCo,dC,rC⟩:=hC;have bC:B.get? C=some oC:=kB C oC hCo fC.1 nC;obtain⟨f1,f2,f3,oe,ws,Tb,oT,ts,ha,hcl,hd,g1,nT,Tne,hT,dT,g3⟩:=held
 have hne:∀{b:Addr},B.get? b=none->b≠C:=λz w=>by
  rw[w,bC]at z;cases z
 have key:∃m,h4.Ns C m/\∀h',Heap.SameBut C h4 h'->∀cenv:Env,cenv.locals=C->wpAny (model X.prog X.w) X.A (PySem.passOn "comprehension.variables-let-go" (.ref a) cenv:Sem Value) (λ_ _=>False) X.xe { s' with heap:=h' }:=by
  refine⟨m,⟨oC,es,ep,f1 C oC bC,dC,rC⟩,λh5 sb cenv _=>?_⟩
  have ha5:h5.get? a=some oe:=(sb.2 a (hne f2)).trans ha;have hT5:h5.get? Tb=some oT:=(sb.2 Tb (hne nT)).trans hT;unfold PySem.passOn;refine yed (yet ha5 hd g1 ?_);rw[if_neg (by simp)]
  refine yed ?_;unfold setFlight;refine yed (yet ha5 hd g1 ?_);rw[if_pos (by simp)]
  refine yes hT5 dT (yby.mp g3).1 (wpAny_throw ?_);generalize hfl:(cenv.frame.elim Value.none λf=>rawInt f)=fl
  have dT6:=ycz dT (·.setIfInBounds 3 fl);have hT6:=yco (Obj.mapFields (·.setIfInBounds 3 fl)) hT5 (ydc dT6);generalize hh6:h5.update Tb (Obj.mapFields (·.setIfInBounds 3 fl))=h6 at hT6 ⊢
  have to6:∀b o,b≠C->b≠Tb->h4.get? b=some o->h6.get? b=some o:=λb o n1 n2 e=>by
   rw[<- hh6,ybf _ _ (yb1 n2)];exact(sb.2 b n1).trans e
  have B6:∀b o,b≠C->B.get? b=some o->h6.get? b=some o:=λb o n e=>to6 b o n (λz=>by rw[z,nT]at e;cases e) (f1 b o e)
  have hid:∀{b:Addr} {o:Obj},(PySem.W.hideAll s.heap [C]).get? b=some o->s.heap.get? b=some o/\b≠C:=λ{b o} e=>⟨ycj _ e,λz=>by
   rw[z,ydg [C] (yaa.mpr rfl)]at e;cases e⟩
  have hidB:∀{b:Addr} {o:Obj},b≠C->B.get? b=some o->(PySem.W.hideAll B [C]).get? b=some o:=λ{b o} n e=>yc2 _ e (λz=>n (yaa.mp z))
  have hidN:∀{b:Addr},B.get? b=none->(PySem.W.hideAll B [C]).get? b=none:=λ{b} e=>by
   cases q:(PySem.W.hideAll B [C]).get? b with
   |none=>rfl
   |some o =>
    rw[ycj _ q]at e;cases e
  have IX:Inv X pins σ H { s with heap:=PySem.W.hideAll s.heap [C] }:=FY (t':=s.toks) (ch:=[C]) I (λb o n e=>yc2 _ e n) λb z=>by
   rw[yaa.mp z];exact fC
  have slot:∀b o,s.heap.get? b=some o->H b=none->b∈BH X.stack->∃z,h6.get? b=some { o with slots:=z }:=λb o e n z=>by
   obtain⟨_,o2,ho2,d2⟩:=I.stack.mem z;rw[e]at ho2;cases ho2;obtain⟨z2,e2⟩:=un.slot b o e n z (by simp)
   obtain⟨z3,e3⟩:=sm b _ e2 d2;refine⟨z3,to6 b _ (λw=>nC (w▸z)) (λw=>?_) e3⟩
   rw[w,hT]at e3;cases e3;exact d2 _ dT
  have HC:H' C=none:=un.free C oC hCo fC.1 (by simp)
  refine hx pins σ H _ _ _ IX ⟨a,cls,H',PySem.W.hideAll B [C],rfl,os,bare,⟨λb o e n z _=>?_,λb o e n z _=>slot b o (hid e).1 n z,λb o e n z=>un.free b o (hid e).1 n z,λb o e _=>?_,un.tups,un.frzs,un.tbls⟩,?_,λb o e n z=>hidB (hid e).2 (kB b o (hid e).1 n z),λb o e z=>?_,⟨fl,λb o e=>?_,hidN f2,?_,?_⟩,he⟩
  .exact B6 b o (hid e).2 (kB b o (hid e).1 n z)
  .by_cases z:b∈BH X.stack
   .obtain⟨w,q⟩:=slot b o (hid e).1 (I.stkFree b z) z;exact⟨_,q⟩
   .obtain⟨o',q⟩:=tB b o (hid e).1 z;exact⟨o',B6 b o' (hid e).2 q⟩
  .intro b u e;refine(hok b u e).stay (λc x hc q=>hidB (λw=>?_) q) (λ_ q=>q) λ_ _ q=>q
   rcases hc with y|y
   .rw[<- y,w,HC]at e;cases e
   .rw[w,HC]at y;cases y
  .obtain⟨o',q⟩:=tB b o (hid e).1 z;exact⟨o',hidB (hid e).2 q⟩
  .have e':=ycj _ e;refine B6 b o (λw=>?_) e'
   rw[w,ydg [C] (yaa.mpr rfl)]at e;cases e
  .rw[st];refine U3 (λb o n e d=>⟨hidN n,o,to6 b o (hne n) (λw=>?_) e,d⟩) f3
   rw[w,hT]at e;cases e;exact d _ dT
  .refine⟨oe,ws,Tb,_,_,?_,hcl,hd,g1,hidN nT,Tne,hT6,dT6,?_⟩
   .rw[<- hh6,ybf _ _ Tne];exact ha5
   .simp[Array.getElem?_setIfInBounds,(yby.mp g3).1]
 cases use<;>exact key
structure TurnG(cq:Cx->Prop)(P:Program)(w:World)(K:k6)(tg:Expr)(J:It)(fp:List Addr)(it:Addr)(tn:Nat->Heap->Prop):Prop where
 obj:∀i h,tn i h->∀b∈fp,∃o,h.get? b=some o/\∀v,o.data≠.cell v
 keep:∀i h h',tn i h->(∀b∈fp,∀o,h.get? b=some o->h'.get? b=some o)->tn i h'
 item:∀(X:Cx),X.prog=P->X.w=w->X.K=K->cq X->∀(i:Nat) (pins:List (Addr×Obj)) (s:Shared) (σ:L2.St) (H:Hp) (E:Value->Shared->Prop),Inv X pins σ H s->(∀b∈fp,Bx X pins H b)->tn i s.heap->J.go i H ->
  wpAny (model P w) X.A (pyNext (.ref it)) (λr s1=>∃u,r=some u/\wpAny (model P w) X.A (letOwnedTupleGo tg (.ref it) u) (λ_ s2=>∃x H',Inv X pins σ H' s2/\RelV x u/\J.yld i H x H'/\tn (i+1) s2.heap/\∀b∈fp,H' b=none) E s1) E s
 done:∀(X:Cx),X.prog=P->X.w=w->X.K=K->cq X->∀(i:Nat) (pins:List (Addr×Obj)) (s:Shared) (σ:L2.St) (H:Hp) (E:Value->Shared->Prop),Inv X pins σ H s->(∀b∈fp,Bx X pins H b)->tn i s.heap->J.stop i H ->
  wpAny (model P w) X.A (pyNext (.ref it)) (λr s1=>r=none/\Inv X pins σ H s1) E s
 self:∀(A:Around) (i:Nat) (s:Shared) (Q:Value->Shared->Prop) (E:Value->Shared->Prop),tn i s.heap->Q (.ref it) s->wpAny (model P w) A (pyIter (.ref it)) Q E s
def PJ(cq:Cx->Prop)(X:Cx)(tg iter:Expr)(wi:TI):Prop :=
 ∀(pins:List (Addr×Obj)) (s:Shared) (σ:L2.St) (H:Hp) (R:It->Hp->Prop),Inv X pins σ H s->wi σ H R ->
  wpAny (model X.prog X.w) X.A (eval iter X.env) (λv s1=>wpAny (model X.prog X.w) X.A (pyIter v) (λitv s2=>∃(it:Addr) (fp:List Addr) (tn:Nat->Heap->Prop) (J:It) (H':Hp),itv=.ref it/\Inv X pins σ H' s2/\TurnG cq X.prog X.w X.K tg J fp it tn/\tn 0 s2.heap/\(∀b∈fp,Bx X pins H' b)/\R J H') X.xe s1) X.xe s
theorem RN{X:Cx}{tg iter:Expr}{wi:TI}(h:PI X tg iter wi):PJ (λX=>X.calm=true) X tg iter wi:=λpins s σ H R I q =>
 AO (h pins s σ H R I q) λ_ _ h1=>AO h1 λ_ _ ⟨it,fp,tn,J,H',e,I2,T,r⟩=>⟨it,fp,tn,J,H',e,I2,⟨T.obj,T.keep,T.item,T.done,T.self⟩,r⟩
section
variable {X:Cx}{elt iter tg:Expr}{ifs:List Expr}{scope:Scope}{pos pos2:Pos}{cl:List (Str×Addr)}{N':List Str}{wi:TI}{g:TG}{tt:TT}{te:TE}
def Io(σ':L2.St->L2.St)(wi:TI)(g:TG)(tt:TT)(te:TE):TE:=λσ H Q=>wi σ H λJ H1=>∃(W:Nat->List V->L2.St->Hp->Prop) (n:Nat),n<=sizeLine/\W 0 [] (σ' σ) H1/\∀i ys τ H,W i ys τ H->ys.length<=i/\i<=n /\
 ((J.stop i H/\∀p,H p=none->Q (.ref p) (upd H p (.lst ys)))\/(i<n/\J.go i H/\∀x H',J.yld i H x H'->g x τ H' λτ2 H2=>tt τ2 H2 λk H3=>if k=true then te τ2 H3 λy H4=>W (i+1) (ys++[y]) τ2 H4 else W (i+1) ys τ2 H3))
theorem TC(σ':L2.St->L2.St)(hclos:closureFor scope X.env=pure cl)(hkind:scope.kind=.function)(hnames:∀y∈scope.names,y.2=.local->scope.names.lookup y.1=some .local)
  (hcl:∀y c,cl.lookup y=some c->X.env.cells.lookup y=some c) (hhas:∀y,(relabel scope X.env).names.lookup y=some .cell\/(relabel scope X.env).names.lookup y=some .free->(y,NameKind.cell)∈scope.names\/∃c,cl.lookup y=some c) (hcap:∀(σ:L2.St) (i:Nat) (y:Str) (v:V),N'[i]?=some y->(σ' σ)[i]?=some (some v)->(y,NameKind.cell)∉scope.names)
  (hσ:∀σ:L2.St,σ.length=X.N.length->(σ' σ).length=N'.length)
  (hvis:∀(σ:L2.St) (i:Nat) (y:Str) (v:V),N'[i]?=some y->(σ' σ)[i]?=some (some v)->((relabel scope X.env).names.lookup y=some .cell\/(relabel scope X.env).names.lookup y=some .free)/\∃j:Nat,X.N[j]?=some y/\σ[j]?=some (some v)/\C7 X.env.scope y/\X.env.kindOf y≠some .local)
  {cq:Cx->Prop} (hc:∀pins σ H s cl C ex xb,Inv X pins σ H s->cq (Ae X scope cl N' C s H ex xb)) (hi:PJ cq X tg iter wi) {E:L2.St->XK} (hps:BM X E) (hst:GK X) {σ:L2.St} (hg:∀cl C s₀ H₀ ex xb,BM (Ae X scope cl N' C s₀ H₀ ex xb) (λ_=>E σ)->PG (Ae X scope cl N' C s₀ H₀ ex xb) tg g) (ht:∀cl C s₀ H₀ ex xb,BM (Ae X scope cl N' C s₀ H₀ ex xb) (λ_=>E σ)->FQ (Ae X scope cl N' C s₀ H₀ ex xb) ifs tt) (he:∀cl C s₀ H₀ ex xb,BM (Ae X scope cl N' C s₀ H₀ ex xb) (λ_=>E σ)->PE (Ae X scope cl N' C s₀ H₀ ex xb) elt te)
  (hs:∀x,foldedSetIterable iter X.env x=pure x) {use:Option (Value->Sem Unit)} {pins:List (Addr×Obj)} {s:Shared} {H:Hp} {Q:VK} {QQ:Value->Shared->Prop} (I:Inv X pins σ H s) (h:Io σ' wi g tt te σ H Q)
  (hend:∀(D C:Addr) (s5:Shared) (H5:Hp),Inv X pins σ H5 s5->Q (.ref D) H5->(∃m,s5.heap.Ns C m)->Bx X pins H5 C->compPost (model X.prog X.w) X.A X.xe use QQ (.ref D) C (.ok .next) s5) :
  wpAny (model X.prog X.w) X.A (comprehension (.ListComp elt [⟨tg,iter,ifs,0⟩] scope pos) scope X.env pos2 (newList []) false (eval iter X.env) use) QQ X.xe s:=by
 refine wpAny_comprehension_free (use:=use) rfl hs hclos hkind hnames (AO (hi pins s σ H _ I h) λv s1 h1=>AO h1 λitv s2 h2=>?_)
 obtain⟨it,fp,tn,J,H2,e,I2,T,st2,f2,W,n,hn,w0,turn⟩:=h2;subst e;refine wpAny_newObj_type (zbz ?_);dsimp only;generalize hHp:s2.heap.push { cls:=.type "list",dict:=none,data:=.seq ([]:List Value).toArray }=P2;generalize hcl':cellsFrom (P2.objs.size+1) scope.names cl=cl';generalize hh1:pushCells (P2.push { cls:=.type "dict",data:=.dict #[] }) scope.names=h₁;have hC:P2.objs.size=s2.heap.objs.size+1:=by rw[<- hHp,yc4]
 have hP3:(P2.push { cls:=.type "dict",data:=.dict #[] }).objs.size=P2.objs.size+1:=yc4 ..;have hDC:s2.heap.objs.size≠P2.objs.size:=by rw[hC];exact yaq (ycr _)
 have below:∀b,b<s2.heap.objs.size->b≠P2.objs.size/\b≠s2.heap.objs.size:=λb hb=>⟨by rw[hC];exact yaq (yca hb),yaq hb⟩
 have old:∀b o,s2.heap.get? b=some o->h₁.get? b=some o:=λb o e=>by
  rw[<- hh1];exact yey _ _ _ _ (yab _ (hHp▸yab _ e))
 have hacc:h₁.PlainList s2.heap.objs.size #[]:=⟨_,by
  rw[<- hh1];exact yey _ _ _ _ (yab _ (hHp▸yau _ rfl))⟩
 have hns₁:h₁.Ns P2.objs.size (λ_=>none):=by
  rw[<- hh1];exact(Heap.Ns.new P2 (.type "dict")).keeps (yey _ _)
 have cells:∀y c,cl'.lookup y=some c->X.env.cells.lookup y=some c\/(P2.objs.size<c/\h₁.IsCell c none/\(y,NameKind.cell)∈scope.names):=λy c e=>by
  rw[<- hcl',<- hP3]at e
  rcases Oc _ _ _ y c e with q|⟨q1,q2,q3⟩
  .exact .inl (hcl y c q)
  .rw[hP3]at q1;rw[hh1]at q2;exact .inr ⟨q1,q2,q3⟩
 have has':∀y,(y,NameKind.cell)∈scope.names\/(∃c,cl.lookup y=some c)->∃c,cl'.lookup y=some c:=λy hy=>by
  rw[<- hcl']
  have go:∀(names:List (Str×NameKind)) (n:Nat) (acc:List (Str×Addr)),((y,NameKind.cell)∈names\/∃c,acc.lookup y=some c)->∃c,(cellsFrom n names acc).lookup y=some c:=by
   intro names
   induction names with
   |nil =>
    intro n acc h
    rcases h with h|h
    .cases h
    .exact h
   |cons x r ih =>
    obtain⟨m,k⟩:=x;intro n acc h;unfold cellsFrom;split
    .refine ih _ _ ?_
     by_cases hm:y=m
     .subst hm;exact .inr ⟨n,by simp⟩
     .rcases h with h|⟨c,h⟩
      .rcases yai.mp h with z|z
       .cases z;exact absurd rfl hm
       .exact .inl z
      .exact .inr ⟨c,by rw[yay,beq_eq_false_iff_ne.mpr hm];exact h⟩
    .rename_i hk;refine ih _ _ ?_
     rcases h with h|h
     .rcases yai.mp h with z|z
      .cases z;exact absurd rfl hk
      .exact .inl z
     .exact .inr h
  exact go _ _ _ hy
 have fsub:∀b∈BH X.stack,b∈X.env.locals::X.fs:=I2.stkSub
 have fpfs:∀b∈fp,b∉BH X.stack:=λb hb z=>by
  obtain⟨_,h2,h3,_⟩:=f2 b hb
  rcases yai.mp (fsub b z) with q|q
  .exact h2 q
  .exact h3 q
 have fpold:∀b∈fp,b<s2.heap.objs.size:=λb hb=>by
  obtain⟨o,e,_⟩:=T.obj 0 _ st2 b hb;exact yad e
 have cold:∀y c,cl'.lookup y=some c->c<s2.heap.objs.size\/P2.objs.size<c:=λy c e=>by
  rcases cells y c e with q|q
  .obtain⟨v,z⟩:=I2.cell y c q;exact .inl z.lt
  .exact .inr q.1
 have cneD:∀y c,cl'.lookup y=some c->c≠s2.heap.objs.size:=λy c e z=>by
  rcases cold y c e with q|q
  .rw[z]at q;exact yb5 _ q
  .rw[z,hC]at q;exact absurd q (Nat.not_lt.mpr (ycd _))
 have cneF:∀b,b<s2.heap.objs.size->(∀y c,X.env.cells.lookup y=some c->c≠b)->∀y c,cl'.lookup y=some c->c≠b:=λb hb hx y c e z=>by
  rcases cells y c e with q|q
  .exact hx y c q z
  .have:=q.1;rw[z,hC]at this;exact absurd (yde hb (Nat.lt_of_succ_lt this)) (yb5 _)
 have fresh2:∀b,s2.heap.objs.size<=b->H2 b=none:=λb hb=>I2.hok.fresh hb
 have CS:s2.heap.objs.size<=P2.objs.size:=by rw[hC];exact ycd _
 obtain⟨xb,hxb⟩:∃xb,xb=notedBy (model X.prog X.w) X.A (compEnvC scope cl' P2.objs.size X.env) λe s'=>compPost (model X.prog X.w) X.A X.xe use QQ (.ref s2.heap.objs.size) P2.objs.size (.error e) s':=⟨_,rfl⟩
 have hpb:BM (Ae X scope cl' N' P2.objs.size s2 H2 fp xb) (λ_=>E σ):=by
  subst hxb;intro pins4 σ4 H4 s4 e s' I4 hcx
  have IX:Inv X pins σ H4 s4:=I2.call' (s':=s4) (ch:=fp) I4.os I4.base I4.hok I4.bare λb hb=>by
   obtain⟨g1,g2,g3,g4,g5,g6⟩:=f2 b hb;exact⟨g4,g2,g5,g6⟩
  obtain⟨m4,hm4,_⟩:=I4.loc
  exact zej hps hst IX ⟨I4.free,(I2.fpOk (H':=H2) CS (fresh2 _ CS)).2⟩ ⟨m4,hm4⟩ (λz=>by
   obtain⟨o,ho,_⟩:=(I2.stack.mem z).2;exact absurd (yad ho) (Nat.not_lt.mpr CS)) rfl hcx
 have ok':(Ae X scope cl' N' P2.objs.size s2 H2 fp xb).Ok:=by
  refine⟨I2.ok.mod,hkind,I2.ok.glob,I2.ok.blt,CS,?inj,λy hy=>has' y (hhas y hy),?cab,I2.ok.hd,I2.ok.frames,.inl rfl,λb hb=>⟨(below b (fpold b hb)).1,cneF b (fpold b hb) λy c e=>(f2 b hb).2.2.2.2.1 y c e⟩,
   λb o e=>I2.bs b o e,yaf I2.ok.bsz I2.sz,λb o e hb=>?_,λb hb=>fpfs b hb,I2.stack,I2.stkFree⟩
  case inj =>
   intro y z c h1 h2;have h1':(cellsFrom (P2.push { cls:=.type "dict",data:=.dict #[] }).objs.size scope.names cl).lookup y=some c:=by rw[hP3,hcl'];exact h1
   have h2':(cellsFrom (P2.push { cls:=.type "dict",data:=.dict #[] }).objs.size scope.names cl).lookup z=some c:=by rw[hP3,hcl'];exact h2
   refine Od scope.names _ cl (λy z c g1 g2=>I2.ok.inj y z c (hcl y c g1) (hcl z c g2)) (λy c g=>?_) y z c h1' h2'
   obtain⟨v,q⟩:=I2.cell y c (hcl y c g);rw[hP3,hC];exact yca (yca q.lt)
  case cab =>
   intro y c hy e;have hy':scope.names.lookup y=some .cell:=yez hy;have e':(cellsFrom (P2.objs.size+1) scope.names cl).lookup y=some c:=by rw[hcl'];exact e
   exact yaf CS (yaf (ycd _) (Oa scope.names _ (P2.objs.size+1) cl y c (ya8 _) (.inl (ybx hy')) e'))
  .obtain⟨_,_,_,q,_⟩:=f2 b hb
   rcases q with q|q
   .exact I2.ok.noex b o e q
   .exact absurd (yaj (yad e) (yaf I2.ok.bsz q)) (yb5 _)
 have I':Inv (Ae X scope cl' N' P2.objs.size s2 H2 fp xb) pins (σ' σ) H2 { s2 with heap:=h₁ }:=by
  refine⟨ok',rfl,I2.bare,Un.kept old,⟨_,hns₁,λi y v h1 h2 h3=>?_⟩,λy c e=>?_,fresh2 _ CS,?fc,λp hp=>?_,I2.hok.kept old,hσ σ I2.len⟩
  case fc =>
   intro y c e
   rcases cells y c e with q|q
   .exact I2.freeC y c q
   .exact fresh2 c (yaf CS (ydh q.1))
  .obtain⟨hk,j,h4,h5,h6,h7⟩:=hvis σ i y v h1 h2;have hno:=hcap σ i y v h1 h2;obtain⟨m,hn',hl⟩:=I2.loc;obtain⟨u,r,l⟩:=hl j y v h4 h5 h6;obtain⟨c,hcc⟩:=has' y (hhas y hk);refine⟨u,r,.inr ⟨hk,c,hcc,?_⟩⟩
   rcases l with ⟨k1,_⟩|⟨_,c',e',z⟩
   .exact absurd k1 h7
   .rcases cells y c hcc with w|w
    .rw[w]at e';cases e';obtain⟨o,ho,hd⟩:=z;exact⟨o,old _ _ ho,hd⟩
    .exact absurd w.2.2 hno
  .rcases cells y c e with w|w
   .obtain⟨v,o,ho,hd⟩:=I2.cell y c w;exact⟨v,o,old _ _ ho,hd⟩
   .exact⟨none,w.2.1⟩
  .obtain⟨e1,e2,e3,e4,e5⟩:=I2.pin p hp;refine⟨old _ _ e1,e2,(below _ (yad e1)).1,λz=>?_,e5⟩
   rcases yai.mp (fsub _ z) with q|q
   .exact e3 q
   .exact e4 q
 have stat:∀{H':Hp},(∀b∈fp,H' b=none)->∀b∈fp,Bx (Ae X scope cl' N' P2.objs.size s2 H2 fp xb) pins H' b:=λhn' b hb =>
  ⟨hn' b hb,(below b (fpold b hb)).1,fpfs b hb,.inl hb,cneF b (fpold b hb) λy c e=>(f2 b hb).2.2.2.2.1 y c e,(f2 b hb).2.2.2.2.2⟩
 have Dok:∀{H':Hp},H' s2.heap.objs.size=none->Bx (Ae X scope cl' N' P2.objs.size s2 H2 fp xb) pins H' s2.heap.objs.size:=λhn' =>
  ⟨hn',hDC,(λz=>by
   obtain⟨o,ho,_⟩:=(I2.stack.mem z).2;exact absurd (yad ho) (yb5 _)),.inr (ya8 _),cneD,λp hp z=>absurd (yad (I2.pin p hp).1) (by rw[z];exact yb5 _)⟩
 have loop:∀s3:Shared,s3={ s2 with heap:=h₁ } ->
   codeAny (model X.prog X.w) X.A (.compLoop (.ListComp elt [⟨tg,iter,ifs,0⟩] scope pos) 0 (.ref it) (.ref s2.heap.objs.size) (compEnvC scope cl' P2.objs.size X.env))
    (compPost (model X.prog X.w) X.A X.xe use QQ (.ref s2.heap.objs.size) P2.objs.size) s3:=by
  rintro s3 rfl
  refine zde hxb (λm s'=>∃i ys τ H',m=n - i/\Inv (Ae X scope cl' N' P2.objs.size s2 H2 fp xb) pins τ H' s'/\tn i s'.heap/\(∀b∈fp,H' b=none)/\H' s2.heap.objs.size=none/\(∃its:List Value,AR ys its/\s'.heap.PlainList s2.heap.objs.size its.toArray)/\W i ys τ H')
   ?_ n ⟨0,[],σ' σ,H2,rfl,I',T.keep _ _ _ st2 λb _ o e=>old b o e,λb hb=>(f2 b hb).1,fresh2 _ (ya8 _),⟨[],.nil,hacc⟩,w0⟩
  rintro m s4 ⟨i,ys,τ,H4,rfl,I4,st4,fr4,hD4,⟨its,rv,hpl⟩,w4⟩;obtain⟨hly,hin,c⟩:=turn i ys τ H4 w4
  have statp:∀{H':Hp},(∀b∈fp,H' b=none)->∀b∈fp,Bx (Ae X scope cl' N' P2.objs.size s2 H2 fp xb) (pins++Fh [s2.heap.objs.size] s4.heap) H' b:=λ{H'} fr' b hb=>by
    obtain⟨g1,g2,g3,g4,g5,g6⟩:=stat fr' b hb;refine⟨g1,g2,g3,g4,g5,λp hp z=>?_⟩
    rcases ybb.mp hp with y|y
    .exact g6 p (ycb _ y) z
    .rcases ybb.mp y with y|y
     .exact g6 p (yal _ y) z
     .obtain⟨hb',_⟩:=R6 y;rw[z,yaa]at hb';exact absurd (fpold b hb) (by rw[hb'];exact yb5 _)
  rcases c with ⟨stop,q⟩|⟨hlt,go,step⟩
  .obtain⟨k,hDo⟩:=hpl;have I4p:=I4.pinned (fp:=[s2.heap.objs.size]) (λb hb=>by rw[yaa.mp hb];exact Dok hD4) (λb hb=>by rw[yaa.mp hb];exact⟨_,hDo,λv z=>(by cases z)⟩)
   refine AO (T.done (Ae X scope cl' N' P2.objs.size s2 H2 fp xb) rfl rfl rfl (hc _ _ _ _ _ _ _ _ I2) i _ s4 τ H4 _ I4p (statp fr4) st4 stop) λr s5 ⟨hr,I5⟩=>?_
   subst hr;have hD5:s5.heap.get? s2.heap.objs.size=some { cls:=.type "list",data:=.seq its.toArray k }:=(I5.pin (s2.heap.objs.size,_) (yal _ (yal _ (Fo (yaa.mpr rfl) hDo)))).1;obtain⟨m5,hn5,_⟩:=I5.loc;have fC:H4 P2.objs.size=none:=I5.free
   have U5:Un (BH X.stack) fp H2 (upd H4 s2.heap.objs.size (.lst ys)) s2.heap s5.heap:=by
    have B:=I5.base;refine⟨λb o e1 e2 e3 e4=>B.keep b o e1 e2 e3 e4,λb o e1 e2 e3 e4=>B.slot b o e1 e2 e3 e4,λb o e1 e2 e4=>?_,λb o e1 e4=>B.there b o e1 e4,λb xs e1=>?_,λb o u e1=>?_,λb ps e1=>?_⟩
    .rw[Aj (below b (yad e1)).2];exact B.free b o e1 e2 e4
    .have q':=B.tups b xs e1;rw[Aj (CA q' hD4)];exact q'
    .have q':=B.frzs b o u e1;rw[Aj (CA q' hD4)];exact q'
    .obtain⟨more,q'⟩:=B.tbls b ps e1;exact⟨more,by rw[Aj (CA q' hD4)];exact q'⟩
   have hzy:ys.length<=sizeLine:=yaf hly (yaf hin hn);have HK:HOk X.prog X.w (upd H4 s2.heap.objs.size (.lst ys)) s5.heap:=Zw.HOk.adopt I5.hok hD4 ⟨hzy,its,k,rv,hD5⟩;have os5:s5.os=s2.os:=I5.os
   have IX:Inv X pins σ (upd H4 s2.heap.objs.size (.lst ys)) s5:=I2.call' (s':=s5) (ch:=fp) os5 U5 HK I5.bare (λb hb=>by
    obtain⟨g1,g2,g3,g4,g5,g6⟩:=f2 b hb;exact⟨g4,g2,g5,g6⟩)
   refine hend s2.heap.objs.size P2.objs.size s5 _ IX (q _ hD4) ⟨m5,hn5⟩ ?_;have CL:s2.heap.objs.size<=P2.objs.size:=CS;have fp0:Bx X pins H2 P2.objs.size:=I2.fpOk CS (fresh2 _ CS);exact⟨by rw[Aj (yb1 hDC)];exact fC,fp0.2⟩
  .obtain⟨k,hDo⟩:=hpl;have I4p:=I4.pinned (fp:=[s2.heap.objs.size]) (λb hb=>by rw[yaa.mp hb];exact Dok hD4) (λb hb=>by rw[yaa.mp hb];exact⟨_,hDo,λv z=>(by cases z)⟩)
   refine AO (T.item (Ae X scope cl' N' P2.objs.size s2 H2 fp xb) rfl rfl rfl (hc _ _ _ _ _ _ _ _ I2) i _ s4 τ H4 _ I4p (statp fr4) st4 go) λr s5 ⟨u,hr,h5⟩=>?_
   subst hr;refine AO h5 λ_ s6 ⟨x,H6,I6,r6,y6,st6,fr6⟩=>?_
   have I6':=I6.pinned (statp fr6) (T.obj _ _ st6);refine AO (hg _ _ _ _ _ _ hpb _ s6 τ H6 x u _ I6' r6 (step x H6 y6)) λ_ s7 ⟨τ7,H7,I7,q7⟩=>?_
   refine AO (ht _ _ _ _ _ _ hpb _ s7 τ7 H7 _ I7 q7) λok s7b ⟨H7b,I7b,q7b⟩=>?_
   have Ay:∀{H8:Hp} {s8:Shared} {τ8:L2.St},Inv (Ae X scope cl' N' P2.objs.size s2 H2 fp xb) (pins++Fh [s2.heap.objs.size] s4.heap++Fh fp s6.heap) τ8 H8 s8->∀h9:Heap,(∀b o,b≠s2.heap.objs.size->s8.heap.get? b=some o->h9.get? b=some o)->tn (i+1) h9/\∀b∈fp,H8 b=none:=λ{H8 s8 τ8} I8 h9 sb=>by
    refine⟨T.keep _ _ _ st6 λb hb o e=>?_,λb hb=>?_⟩
    .exact sb b o (below b (fpold b hb)).2 (I8.pin (b,o) (yal _ (yal _ (Fo hb e)))).1
    .obtain⟨o,e,d⟩:=T.obj _ _ st6 b hb;exact(I8.pin (b,o) (yal _ (yal _ (Fo hb e)))).2.1
   cases ok with
   |false =>
    rw[if_neg (by decide)]at q7b ⊢
    have hD8:=I7b.pin (s2.heap.objs.size,_) (yal _ (ycb _ (yal _ (Fo (yaa.mpr rfl) hDo))));obtain⟨t9,f9⟩:=Ay I7b s7b.heap λb o _ e=>e
    exact⟨n - (i+1),by omega,i+1,ys,τ7,H7b,rfl,I7b.unpinned.unpinned,t9,f9,hD8.2.1,⟨its,rv,k,hD8.1⟩,q7b⟩
   |true =>
    rw[if_pos rfl]at q7b ⊢;refine AO (he _ _ _ _ _ _ hpb _ s7b τ7 H7b _ I7b q7b) λuy s8 ⟨y,H8,I8,ry,w8⟩=>?_
    have hD8:=I8.pin (s2.heap.objs.size,_) (yal _ (ycb _ (yal _ (Fo (yaa.mpr rfl) hDo))));have P8:s8.heap.PlainList s2.heap.objs.size its.toArray:=⟨k,hD8.1⟩;have hlen:=rv.length;refine wpAny_list_append_plain P8 (λh' pl' sb=>?_) (by rw[yah,<- hlen];omega)
    have I8u:Inv (Ae X scope cl' N' P2.objs.size s2 H2 fp xb) pins τ7 H8 s8:=I8.unpinned.unpinned;obtain⟨d1,d2,d3,d4,d5,d6⟩:=Dok hD8.2.1;have I9:Inv (Ae X scope cl' N' P2.objs.size s2 H2 fp xb) pins τ7 H8 { s8 with heap:=h' }:=I8u.turned (t':=s8.toks) (λb o hb e=>(sb.2 b hb).trans e) d1 d2 d4 d5 d6
    obtain⟨t9,f9⟩:=Ay I8 h' λb o hb e=>(sb.2 b hb).trans e
    exact⟨n - (i+1),by omega,i+1,ys++[y],τ7,H8,rfl,I9,t9,f9,hD8.2.1,⟨its++[uy],rv.append (.cons ry .nil),by simpa using pl'⟩,w8⟩
 refine codeAny_compStart_list (loop _ rfl) (T.self _ 0 _ _ _ (T.keep _ _ _ st2 λb _ o e=>old b o e) (loop _ rfl))
theorem zmg(σ':L2.St->L2.St)(hclos:closureFor scope X.env=pure cl)(hkind:scope.kind=.function)(hnames:∀y∈scope.names,y.2=.local->scope.names.lookup y.1=some .local)
  (hcl:∀y c,cl.lookup y=some c->X.env.cells.lookup y=some c) (hhas:∀y,(relabel scope X.env).names.lookup y=some .cell\/(relabel scope X.env).names.lookup y=some .free->(y,NameKind.cell)∈scope.names\/∃c,cl.lookup y=some c) (hcap:∀(σ:L2.St) (i:Nat) (y:Str) (v:V),N'[i]?=some y->(σ' σ)[i]?=some (some v)->(y,NameKind.cell)∉scope.names)
  (hσ:∀σ:L2.St,σ.length=X.N.length->(σ' σ).length=N'.length)
  (hvis:∀(σ:L2.St) (i:Nat) (y:Str) (v:V),N'[i]?=some y->(σ' σ)[i]?=some (some v)->((relabel scope X.env).names.lookup y=some .cell\/(relabel scope X.env).names.lookup y=some .free)/\∃j:Nat,X.N[j]?=some y/\σ[j]?=some (some v)/\C7 X.env.scope y/\X.env.kindOf y≠some .local)
  {cq:Cx->Prop} (hc:∀pins σ H s cl C ex xb,Inv X pins σ H s->cq (Ae X scope cl N' C s H ex xb)) (hi:PJ cq X tg iter wi) {E:L2.St->XK} (hps:BM X E) (hst:GK X) {σ:L2.St} (hg:∀cl C s₀ H₀ ex xb,BM (Ae X scope cl N' C s₀ H₀ ex xb) (λ_=>E σ)->PG (Ae X scope cl N' C s₀ H₀ ex xb) tg g) (ht:∀cl C s₀ H₀ ex xb,BM (Ae X scope cl N' C s₀ H₀ ex xb) (λ_=>E σ)->FQ (Ae X scope cl N' C s₀ H₀ ex xb) ifs tt) (he:∀cl C s₀ H₀ ex xb,BM (Ae X scope cl N' C s₀ H₀ ex xb) (λ_=>E σ)->PE (Ae X scope cl N' C s₀ H₀ ex xb) elt te)
  (hs:∀x,foldedSetIterable iter X.env x=pure x) {pins:List (Addr×Obj)} {s:Shared} {H:Hp} {Q:VK} (I:Inv X pins σ H s) (h:Io σ' wi g tt te σ H Q) :
  wpAny (model X.prog X.w) X.A (eval (.ListComp elt [⟨tg,iter,ifs,0⟩] scope pos) X.env) (EP X pins σ Q) X.xe s:=by
 rw[eval_ListComp];refine TC σ' hclos hkind hnames hcl hhas hcap hσ hvis hc hi hps hst hg ht he hs I h λD C s5 H5 I5 q5 ⟨m,hm⟩ f=>⟨m,hm,λh' sb=>?_⟩
 exact⟨.ref D,H5,FY (t':=s5.toks) (ch:=[C]) I5 (λb o hb e=>(sb.2 b (λz=>hb (by simp[z]))).trans e) (λb hb=>by rw[yaa.mp hb];exact f),rfl,q5⟩
theorem zmh(σ':L2.St->L2.St)(hclos:closureFor scope X.env=pure cl)(hkind:scope.kind=.function)(hnames:∀y∈scope.names,y.2=.local->scope.names.lookup y.1=some .local)
  (hcl:∀y c,cl.lookup y=some c->X.env.cells.lookup y=some c) (hhas:∀y,(relabel scope X.env).names.lookup y=some .cell\/(relabel scope X.env).names.lookup y=some .free->(y,NameKind.cell)∈scope.names\/∃c,cl.lookup y=some c) (hcap:∀(σ:L2.St) (i:Nat) (y:Str) (v:V),N'[i]?=some y->(σ' σ)[i]?=some (some v)->(y,NameKind.cell)∉scope.names)
  (hσ:∀σ:L2.St,σ.length=X.N.length->(σ' σ).length=N'.length)
  (hvis:∀(σ:L2.St) (i:Nat) (y:Str) (v:V),N'[i]?=some y->(σ' σ)[i]?=some (some v)->((relabel scope X.env).names.lookup y=some .cell\/(relabel scope X.env).names.lookup y=some .free)/\∃j:Nat,X.N[j]?=some y/\σ[j]?=some (some v)/\C7 X.env.scope y/\X.env.kindOf y≠some .local)
  (hc:X.calm=true) (hi:PI X tg iter wi) {E:L2.St->XK} (hps:BM X E) (hst:GK X) {σ:L2.St} (hg:∀cl C s₀ H₀ ex xb,BM (Ae X scope cl N' C s₀ H₀ ex xb) (λ_=>E σ)->PG (Ae X scope cl N' C s₀ H₀ ex xb) tg g) (ht:∀cl C s₀ H₀ ex xb,BM (Ae X scope cl N' C s₀ H₀ ex xb) (λ_=>E σ)->FQ (Ae X scope cl N' C s₀ H₀ ex xb) ifs tt) (he:∀cl C s₀ H₀ ex xb,BM (Ae X scope cl N' C s₀ H₀ ex xb) (λ_=>E σ)->PE (Ae X scope cl N' C s₀ H₀ ex xb) elt te)
  (hs:∀x,foldedSetIterable iter X.env x=pure x) {pins:List (Addr×Obj)} {s:Shared} {H:Hp} {D:Ends} {i:Nat} {x:Str} {pos':Pos} (hN:X.N.Nodup) (hix:X.N[i]?=some x) (hx:X.env.scope.names.lookup x=some .local)
  (hsw:swapsWith (.ListComp elt [⟨tg,iter,ifs,0⟩] scope pos) (some (.Name x pos')) pos2.line X.env=pure true)
  (I:Inv X pins σ H s) (h:Io σ' wi g tt te σ H λv H1=>D.nx (σ.set i (some v)) H1) :
  wpAny (model X.prog X.w) X.A (exec (.Assign [.Name x pos'] (.ListComp elt [⟨tg,iter,ifs,0⟩] scope pos) pos2) X.env) (SP X pins D) X.xe s:=by
 rw[exec_Assign_Name_used _ _ _ _ hsw];refine yed (yef (yed ?_));show wpAny _ X.A (do let _ <- comprehension (.ListComp elt [⟨tg,iter,ifs,0⟩] scope pos) scope X.env _ (newList []) false (eval iter X.env) (some (assign (.Name x pos') X.env))) _ _ s
 refine yed (yeb (TC (QQ:=λ_ s'=>SP X pins D .next s') σ' hclos hkind hnames hcl hhas hcap hσ hvis (cq:=λX=>X.calm=true) (λ_ _ _ _ _ _ _ _ _=>hc) (RN hi) hps hst hg ht he hs I h λA C s5 H5 I5 q5 ⟨m,hm⟩ f=>?_) (λ_ s' hq=>yeg (yeg hq)) λ_ _ e=>e)
 show wpAny _ X.A (assign (.Name x pos') X.env (.ref A)) _ _ _;refine wpAny_assign_Name (Q5 I5 hN hix (.inl hx) (v:=.ref A) rfl (λs6 I6 ⟨a,sb,ha⟩=>?_) (.inr hx))
 have hCa:C≠a:=by
  rcases ha with rfl|ha
  .exact f.2.1
  .exact λz=>f.2.2.2.2.1 x a ha z.symm
 refine⟨m,hm.sameBut sb hCa,λh' sb2=>⟨_,H5,FY (t':=s6.toks) (ch:=[C]) I6 (λb o hb e=>(sb2.2 b (λz=>hb (by simp[z]))).trans e) (λb hb=>by rw[yaa.mp hb];exact f),q5⟩⟩
end
structure RpO(K:k6)(F H:Hp)(l:List T)(xs:List V)(R:Nat->Rg):Prop where
 len:l.length=xs.length
 rep:∀(i:Nat) (t:T) (x:V),l[i]?=some t->xs[i]?=some x->Rp K F H t x (R i)
 dis:∀i j a,i≠j->R i a->¬ R j a
 out:∀i a,R i a->i<l.length
section
variable {K:k6}{F H F1 H1:Hp}{l:List T}{xs:List V}{R:Nat->Rg}{B:Rg}
theorem RpO.nil:RpO K F H [] [] (λ_=>R0):=⟨rfl,λi t x h=>by simp at h,λ_ _ _ _ z=>z.elim,λ_ _ z=>z.elim⟩
theorem RpO.dom(h:RpO K F H l xs R){i:Nat}{a:Addr}(z:R i a):F a=none/\∃u,H a=some u:=by
 have hi:=h.out i a z;have hx:i<xs.length:=by have:=h.len;omega
 exact(h.rep i _ _ (ya0 hi) (ya0 hx)).dom z
theorem RpO.ext(h:RpO K F H l xs R)(e:Ext F H F1 H1 B):RpO K F1 H1 l xs R:=⟨h.len,λi t x h1 h2=>(h.rep i t x h1 h2).ext e,h.dis,h.out⟩
theorem RpO.apart(h:RpO K F H l xs R)(e:Ext F H F1 H1 B){b:Addr}(hb:B b)(i:Nat):¬ R i b:=λz=>by
 obtain⟨f,u,q⟩:=h.dom z;rw[e.nb b hb]at q;cases q
theorem RpO.snoc(h:RpO K F H l xs R){t:T}{x:V}(r:Rp K F H t x B)(d:∀i a,R i a->¬ B a):RpO K F H (l++[t]) (xs++[x]) (λj=>if j=l.length then B else R j):=by
 have hl:=h.len;refine⟨by simp[hl],λi t' x' h1 h2=>?_,λi j a hij z1 z2=>?_,λi a z=>?_⟩
 .by_cases hi:i=l.length
  .subst hi;rw[if_pos rfl];have e1:t=t':=by simpa using h1
   have e2:x=x':=by rw[hl]at h2;simpa using h2
   subst e1;subst e2;exact r
  .rw[if_neg hi]
   have hlt:i<l.length:=by
    have:=(ya5.mp h1).1;simp at this
    omega
   rw[yax hlt]at h1;rw[yax (by omega)]at h2
   exact h.rep i t' x' h1 h2
 .by_cases hi:i=l.length
  .simp only[hi,yeo]at z1;have hj:¬ j=l.length:=λz=>hij (hi.trans z.symm)
   simp only[hj,yep]at z2;exact d j a z2 z1
  .simp only[hi,yep]at z1
   by_cases hj:j=l.length
   .simp only[hj,yeo]at z2;exact d i a z1 z2
   .simp only[hj,yep]at z2;exact h.dis i j a hij z1 z2
 .by_cases hi:i=l.length
  .simp[hi]
  .simp only[hi,yep]at z;have:=h.out i a z;simp
   omega
theorem RpO.cons(h:RpO K F H l xs R){t:T}{x:V}(r:Rp K F H t x B)(d:∀i a,R i a->¬ B a):RpO K F H (t::l) (x::xs) (λj=>match j with|0=>B|j+1=>R j):=by
 refine⟨by simp[h.len],λi t' x' h1 h2=>?_,λi j a hij z1 z2=>?_,λi a z=>?_⟩
 .cases i with
  |zero =>
   simp at h1 h2;subst h1;subst h2;exact r
  |succ i=>exact h.rep i t' x' (by simpa using h1) (by simpa using h2)
 .cases i with
  |zero =>
   cases j with
   |zero=>exact hij rfl
   |succ j=>exact d j a z2 z1
  |succ i =>
   cases j with
   |zero=>exact d i a z1 z2
   |succ j=>exact h.dis i j a (λz=>hij (by rw[z])) z1 z2
 .cases i with
  |zero=>simp
  |succ i=>have:=h.out i a z;simp;omega
theorem RpO.r0(h:RpO K F H l xs R)(s:A5 l=true):A6 K F l xs:=⟨h.len,λi t x h1 h2=>(h.rep i t x h1 h2).move (L5 s h1) (.refl _)⟩
theorem RpO.list(h:RpO K F H l xs R)(s:AQ F H){p:Addr}(hp:H p=none):Rp K F (upd H p (.lst xs)) (.own l) (.ref p) (λa=>a=p\/∃i,R i a)/\Ext F H F (upd H p (.lst xs)) (λa=>a=p):=by
 have e:=Ext.newO (o:=.lst xs) s hp;have h':=h.ext e;exact⟨.own (k:=.lst) trivial R (Fk s hp) Br h.len h'.rep h.dis (λi z=>h.apart e rfl i z) h.out,e⟩
end
def BA(ma mk:AA->Option Rs):AA->Option Rs:=λτ=>match ma τ with
 |some (.v t b)=>(match mk τ with
  |some (.v (.int i) _)=>(match t with
   |.nd _ _ l=>(match Ab l i with
    |some c=>some (.v c (b && !c.sh))
    |none=>none)
   |.str z=>if z.length<=BE then (match Ab z.cps.toList i with
    |some c=>some (.v (.str ⟨#[c]⟩) false)
    |none=>none) else none
   |_=>none)
  |some (.v _ _)=>none
  |r=>r)
 |r=>r
theorem zjq{α β:Type}{l:List α}{m:List β}{i:Int}{c:α}(e:l.length=m.length)(h:Ab l i=some c):∃(j:Nat) (d:β),l[j]?=some c/\m[j]?=some d/\Ab m i=some d:=by
 unfold Ab at h ⊢;rw[<- e];cases q:CU l.length i with
 |none=>rw[q]at h;cases h
 |some j =>
  rw[q]at h;have h':l[j]?=some c:=h
  have hj:j<m.length:=by
   have:=(ya5.mp h').1
   omega
  exact⟨j,m[j],h',ya0 hj,ya0 hj⟩
section
variable {K:k6}{F H:Hp}
theorem Rp.seq{o:Bool}{k:Kd}{l:List T}{x:V}{A:Rg}(s:AQ F H)(h:Rp K F H (.nd o k l) x A):∃p xs,x=.ref p/\(AS K H p xs\/B7 K H p xs)/\l.length=xs.length/\∀(i:Nat) (t:T) (x:V),l[i]?=some t->xs[i]?=some x->∃B,(∀a,B a->A a)/\Rp K F H t x B:=by
 cases h with
 |@shr k p xs l h e c =>
  refine⟨p,xs,rfl,?_,e,λi t x h1 h2=>⟨R0,λ_ z=>z.elim,c i t x h1 h2⟩⟩
  cases k with
  |lst=>exact .inl (AS.of (s _ _ h))
  |rl=>exact .inl (s.seq h)
  |tup=>exact .inr (B7.of (s _ _ h))
  |rt=>exact .inr (Et s h)
  |pin q=>exact .inl (AS.of (s _ _ h))
 |@own k0 p xs l hk R f h e c d dp o=>exact⟨p,xs,rfl,.inl (AS.of h),e,λi t x h1 h2=>⟨R i,λa z=>.inr ⟨i,z⟩,c i t x h1 h2⟩⟩
end
section
variable {X:Cx}{E:L2.St->XK}{ca:Str->Value}{σ:L2.St}{H:Hp}{m ma mb mc:AA->Option Rs}{ms:AA->Option RsL}{K:k6}{a b c e:Expr}{es:List Expr}{pos:Pos}
theorem tM_ix{Q:VK}(h:tM K E ca (BA ma mb) σ H Q):GU (RF K) (tM K E ca ma) (tM K E ca mb) σ H Q:=by
 obtain⟨F,τ,R,S,q⟩:=h;refine⟨F,τ,R,S,?_⟩;unfold BA at q;cases hm:ma τ with
 |none=>simp only[hm]at q
 |some r =>
  simp only[hm]at q;cases r with
  |x c=>exact q
  |v t bb =>
   intro F1 H1 x B e1 g1;have S1:=S.ext e1;refine⟨F1,τ,R,S1,?_⟩;cases hk:mb τ with
   |none=>simp only[hk]at q
   |some r =>
    simp only[hk]at q;cases r with
    |x c=>exact λF' H' e=>q F' H' ((e1.trans e).mono λ_ z=>z.elim)
    |v tk bk =>
     cases tk with
     |int i =>
      intro F2 H2 y C e2 g2
      have hy:y=.int i:=by
       cases bk with
       |true=>obtain⟨_,A,_,r⟩:=g2;exact r.int_inv
       |false=>exact(show Rp K F2 H2 _ _ _ from g2).int_inv
      subst hy;have e02:Ext F H F2 H2 B:=(e1.trans e2).mono λ_ z=>.inl z
      have S2:=S1.ext e2;cases t with
      |nd o k l =>
       simp only at q;cases hc:Ab l i with
       |none=>simp only[hc]at q
       |some cc =>
        simp only[hc]at q
        have node:∃A0,(bb=true->∀a,A0 a->tot R a)/\(bb=false->∀a,A0 a->B a)/\Rp K F2 H2 (.nd o k l) x A0:=by
         cases bb with
         |true =>
          obtain⟨_,A,hA,r⟩:=g1;exact⟨A,λ_=>hA,(λz=>by cases z),r.ext e2⟩
         |false=>exact⟨B,(λz=>by cases z),λ_ _ z=>z,(show Rp K F1 H1 _ _ _ from g1).ext e2⟩
        obtain⟨A0,hA1,hA2,rn⟩:=node;obtain⟨p,xs,rfl,hq,hl,kids⟩:=Rp.seq S2.fh rn;obtain⟨j,d,h1,h2,h3⟩:=zjq hl hc;obtain⟨A1,hA,rk⟩:=kids j cc d h1 h2
        have qq:Q d H2:=by
         cases bb with
         |false=>exact q F2 H2 d A1 (e02.mono λa z=>hA2 rfl a (hA a z)) rk
         |true =>
          cases hs:cc.sh with
          |true =>
           rw[hs]at q;exact q F2 H2 d R0 (e02.mono λ_ z=>z.elim) (rk.move hs (.refl _))
          |false =>
           rw[hs]at q;exact q F2 H2 d R0 (e02.mono λ_ z=>z.elim) ⟨rfl,A1,λa z=>hA1 rfl a (hA a z),rk⟩
        rcases hq with hq|hq
        .exact .inl ⟨p,xs,i,d,rfl,rfl,hq,h3,qq⟩
        .exact .inr (.inl ⟨p,xs,i,d,rfl,rfl,hq,h3,qq⟩)
      |str z =>
       by_cases hz:z.length<=BE
       .simp only[hz,yeo]at q;cases hc:Ab z.cps.toList i with
        |none=>simp only[hc]at q
        |some cc =>
         simp only[hc]at q
         have hx:x=.str z:=by
          cases bb with
          |true=>obtain⟨_,A,_,r⟩:=g1;exact r.str_inv
          |false=>exact(show Rp K F1 H1 _ _ _ from g1).str_inv
         subst hx;exact .inr (.inr ⟨z,i,cc,rfl,rfl,by rw[<- DP];exact hz,hc,q F2 H2 _ R0 (e02.mono λ_ z=>z.elim) (.str _)⟩)
       .simp only[hz,yep]at q
      |_=>exact q.elim
     |_=>exact q.elim
theorem r_ix(ha:PE X a (tM X.K E ca ma))(hb:PE X b (tM X.K E ca mb))(hs:Km b):PE X (.Subscript a b pos) (tM X.K E ca (BA ma mb)):=PE.weak (RQ zms ha hb hs) λσ H Q h=>tM_ix h
def Bv{α:Type}(l:List α)(lo hi:Option Int):List α:=(l.drop (HT.sIx l.length 0 lo)).take (HT.sIx l.length l.length hi - HT.sIx l.length 0 lo)
noncomputable def Dn(m:Option (AA->Option Rs)):AA->Option (Option Int):=λτ=>match m with
 |none=>some none
 |some m=>match m τ with
  |some (.v (.int i) _)=>some (some i)
  |_=>none
def DO(ma:AA->Option Rs)(ml mh:Option (AA->Option Rs)):AA->Option Rs:=λτ=>match ma τ with
 |some (.v t false)=>(match Dn ml τ with
  |some lo=>(match Dn mh τ with
   |some hi=>(match t with
    |.nd _ .lst l=>some (.v (.own (Bv (BD l) lo hi)) false)
    |.nd _ .rl l=>some (.v (.own (Bv (BD l) lo hi)) false)
    |_=>none)
   |none=>none)
  |none=>none)
 |some (.v _ true)=>none
 |r=>r
def FZ(K:k6)(m:Option (AA->Option Rs)):TO:=λσ H Q=>∃F τ R o,StR K F H σ τ R/\Dn m τ=some o/\∀F' H',Ext F H F' H' R0->Q o H'
theorem r_po0:PO X none (FZ X.K none):=λpins s σ H Q I h=>by
 obtain⟨F,τ,R,o,S,e,q⟩:=h;cases e;exact zhs pins s σ H Q I (q F H (Ext.refl S.fh))
theorem r_po1(ha:PE X e (tM X.K E ca m)):PO X (some e) (FZ X.K (some m)):=λpins s σ H Q I h=>by
 obtain⟨F,τ,R,o,S,e',q⟩:=h;refine zhr ha pins s σ H Q I ⟨F,τ,R,S,?_⟩;unfold Dn at e';simp only at e';cases hm:m τ with
 |none=>rw[hm]at e';cases e'
 |some r =>
  rw[hm]at e';cases r with
  |x c=>cases e'
  |v v b =>
   cases v with
   |int i =>
    cases e';intro F' H' x B e g
    have hx:x=.int i:=by
     cases b with
     |true=>obtain⟨_,A,_,r⟩:=g;exact r.int_inv
     |false=>exact(show Rp X.K F' H' _ _ _ from g).int_inv
    exact⟨i,hx,q F' H' (e.mono λ_ z=>z.elim)⟩
   |_=>cases e'
theorem zgj{F:Hp}{l:List T}{xs:List V}(r:A6 K F l xs)(lo hi:Option Int):A6 K F (Bv l lo hi) (Gf xs lo hi):=by
 have hl:=r.1;unfold Bv Gf;rw[hl];refine⟨by simp[hl],λi t x h1 h2=>?_⟩
 rw[List.getElem?_take]at h1 h2;split at h1
 .rename_i hi';rw[if_pos hi',yd0]at h2;rw[yd0]at h1;exact r.2 _ t x h1 h2
 .cases h1
theorem Qv{lo hi:Option Expr}{ml mh:Option (AA->Option Rs)}{p2:Pos}(ha:PE X a (tM X.K E ca ma))(hl:PO X lo (FZ X.K ml))(hh:PO X hi (FZ X.K mh)):PE X (.Subscript a (.Slice lo hi none p2) pos) (tM X.K E ca (DO ma ml mh)):=by
 refine PE.weak (RP zh4 ha hl hh) λσ H Q h=>?_
 obtain⟨F,τ,R,S,q⟩:=h;refine⟨F,τ,R,S,?_⟩;unfold DO at q;cases hm:ma τ with
 |none=>simp only[hm]at q
 |some r =>
  simp only[hm]at q;cases r with
  |x c=>exact q
  |v t bb =>
   cases bb with
   |true=>exact q.elim
   |false =>
    intro F1 H1 x B e1 g1;obtain⟨F1',e1',_,r1⟩:=Cs.frz (b:=false) S e1 g1;have S1:=S.ext e1';simp only at q;cases h1:Dn ml τ with
    |none=>simp only[h1]at q
    |some lo' =>
     simp only[h1]at q;refine⟨F1',τ,R,lo',S1,h1,λF2 H2 e2=>?_⟩
     have S2:=S1.ext e2;cases h2:Dn mh τ with
     |none=>simp only[h2]at q
     |some hi' =>
      simp only[h2]at q;refine⟨F2,τ,R,hi',S2,h2,λF3 H3 e3=>?_⟩
      have S3:=S2.ext e3;have e03:=e1'.trans0 (e2.trans0 e3);have r3:Rp X.K F3 F3 t.share x R0:=(show Rp X.K F1' F1' t.share x R0 from r1).frame (e2.ff.trans e3.ff) λ_ z=>z.elim
      have key:∀{o:Bool} {k:Kd} {l:List T},t=.nd o k l->(k=.lst\/k=.rl)->(∀F' H' x B,Ext F H F' H' B->Rp X.K F' H' (.own (Bv (BD l) lo' hi')) x B->Q x H')->RB X.K x lo' hi' H3 Q:=by
       intro o k l et hk qq;subst et;rw[T.share]at r3;obtain⟨p,xs,rfl,_,n3,k3⟩:=Cp r3
       have sq:AS X.K H3 p xs:=by
        rcases hk with rfl|rfl
        .exact AS.of (S3.fh _ _ n3)
        .exact S3.fh.seq n3
       refine⟨p,xs,rfl,sq,λp' hp'=>?_⟩
       have gg:Bw X.K F3 H3 (.own (Bv (BD l) lo' hi')) Q:=λF' H' z C e g=>qq F' H' z C (e03.trans0 e) g
       exact gg.list S3.fh (zgj k3 lo' hi') hp'
      cases t with
      |nd o k l =>
       cases k with
       |lst=>exact key rfl (.inl rfl) q
       |rl=>exact key rfl (.inr rfl) q
       |tup=>exact q.elim
       |rt=>exact q.elim
       |pin _=>exact q.elim
      |_=>exact q.elim
def HL(K:k6)(E:L2.St->XK)(ca:Str->Value)(m:AA->Option RsL):TA:=λσ H Q=>∃F τ R,StR K F H σ τ R/\match m τ with
 |some (.v ts _)=>∀F' H' xs (Rr:Nat->Rg),Ext F H F' H' (tot Rr)->RpO K F' H' ts xs Rr->Q xs H'
 |some (.x c)=>∀F' H',Ext F H F' H' R0->E σ (ca c) none H'
 |none=>False
noncomputable def CK(m:AA->Option Rs)(ms:AA->Option RsL):AA->Option RsL:=λτ=>match m τ with
 |some (.v t false)=>(match ms τ with
  |some (.v ts _)=>some (.v (t::ts) false)
  |r=>r)
 |some (.v _ true)=>none
 |some (.x c)=>some (.x c)
 |none=>none
theorem zku:PA X [] (HL X.K E ca AF):=PA.weak EI λσ H Q h=>by
 obtain⟨F,τ,R,S,q⟩:=h;exact q F H [] (λ_=>R0) ((Ext.refl S.fh).mono λa ⟨i,z⟩=>z.elim) .nil
theorem zhf(ha:PE X e (tM X.K E ca m))(hr:PA X es (HL X.K E ca ms))(hs:starEach (e::es) X.env=(false,eval e X.env)::starEach es X.env):PA X (e::es) (HL X.K E ca (CK m ms)):=by
 refine PA.weak (DU ha hr hs) λσ H Q h=>?_
 obtain⟨F,τ,R,S,q⟩:=h;refine⟨F,τ,R,S,?_⟩;unfold CK at q;cases hm:m τ with
 |none=>simp only[hm]at q
 |some r =>
  simp only[hm]at q;cases r with
  |x c=>exact q
  |v t bb =>
   cases bb with
   |true=>exact q.elim
   |false =>
    intro F1 H1 x B e1 g1;have S1:=S.ext e1;refine⟨F1,τ,R,S1,?_⟩;simp only at q;cases hs:ms τ with
    |none=>simp only[hs]at q
    |some r =>
     simp only[hs]at q;cases r with
     |x c=>exact λF' H' e=>q F' H' ((e1.trans e).mono λ_ z=>z.elim)
     |v ts b' =>
      intro F2 H2 xs Rr e2 ro;have g1':Rp X.K F1 H1 t x B:=g1;refine q F2 H2 (x::xs) _ ((e1.trans e2).mono ?_) (ro.cons (g1'.ext e2) λi a z=>?_)
      .rintro a ⟨j,z⟩;cases j with
       |zero=>exact .inl z
       |succ j=>exact .inr ⟨j,z⟩
      .exact g1'.apart e2 ⟨i,z⟩
def BO(ms:AA->Option RsL):AA->Option Rs:=λτ=>match ms τ with
 |some (.v ts _)=>if ts.length<=BE then some (.v (.own ts) false) else none
 |some (.x c)=>some (.x c)
 |none=>none
theorem r_lst(h:PA X es (HL X.K E ca ms)):PE X (.List es pos) (tM X.K E ca (BO ms)):=by
 refine PE.weak (zlk h) λσ H Q h=>?_
 obtain⟨F,τ,R,S,q⟩:=h;refine⟨F,τ,R,S,?_⟩;unfold BO at q;cases hm:ms τ with
 |none=>simp only[hm]at q
 |some r =>
  simp only[hm]at q;cases r with
  |x c=>exact q
  |v ts b =>
   intro F1 H1 xs Rr e1 ro
   by_cases hz:ts.length<=BE
   .simp only[hz,yeo]at q;refine⟨by rw[<- ro.len,<- DP];exact hz,λp hp=>?_⟩
    obtain⟨r,e2⟩:=ro.list e1.fh hp;refine q F1 _ _ _ ((e1.trans e2).mono ?_) r;rintro a (z|⟨i,z⟩)
    .exact .inr z
    .exact .inl ⟨i,z⟩
   .simp only[hz,yep]at q
def CJ(ms:AA->Option RsL):AA->Option Rs:=λτ=>match ms τ with
 |some (.v ts false)=>if ts.length<=BE then some (.v (.tup ts) false) else none
 |some (.v _ true)=>none
 |some (.x c)=>some (.x c)
 |none=>none
theorem r_tup{k:Nat}(h:PA X es (B9 X.K E ca ms)):PE X (.Tuple es k pos) (tM X.K E ca (CJ ms)):=by
 refine PE.weak (zlf h) λσ H Q h=>?_
 obtain⟨F,τ,R,S,q⟩:=h;refine⟨F,τ,R,S,?_⟩;unfold CJ at q;cases hm:ms τ with
 |none=>simp only[hm]at q
 |some r =>
  simp only[hm]at q;cases r with
  |x c=>exact q
  |v ts b =>
   cases b with
   |true=>exact q.elim
   |false =>
    intro F1 H1 xs e1 rs
    by_cases hz:ts.length<=BE
    .simp only[hz,yeo]at q;refine⟨by rw[<- rs.1,<- DP];exact hz,λp hp=>?_⟩
     have gg:Bw X.K F1 H1 (.tup ts) Q:=λF' H' z C e g=>q F' H' z C (e1.trans0 e) g
     exact gg.tuple e1.fh rs hp
    .simp only[hz,yep]at q
theorem HY{id:String}{x:Str}{p:Pos}{g:List T->Option T}(hc:BZ X (.builtin id) (Cm X.K g))(hg:Gl X x)(hm:X.mg x=none)(hv:bootBuiltins x=some (.builtin id))(ha:PA X (e::es) (B9 X.K E ca ms))(hn:x≠"__name__")(hdb:(x == ("__debug__":Str))=false)
  (he:starEach (e::es) X.env=(false,eval e X.env)::starEach es X.env) (hpl:(backTo pos (starEach es X.env)).any (·.1)=false):PE X (.Call (.Name x p) (e::es) [] pos) (tM X.K E ca (BQ g ms)) :=
 PE.weak (JU hc hg hm hv ha hn hdb he hpl) λσ H Q h=>F8 h
theorem MT{T':String}{x:Str}{p:Pos}{g:List T->Option T}(hc:BZ X (.type T') (Cm X.K g))(hg:Gl X x)(hm:X.mg x=none)(hv:bootBuiltins x=some (.type T'))(ha:PA X (e::es) (B9 X.K E ca ms))(hn:x≠"__name__")(hdb:(x == ("__debug__":Str))=false)
  (he:starEach (e::es) X.env=(false,eval e X.env)::starEach es X.env) (hpl:(backTo pos (starEach es X.env)).any (·.1)=false):PE X (.Call (.Name x p) (e::es) [] pos) (tM X.K E ca (BQ g ms)) :=
 PE.weak (RT hc hg hm hv ha hn hdb he hpl) λσ H Q h=>F8 h
end
def Bh:T->Option T
 |.nd _ _ l=>some (.int l.length)
 |.str z=>if z.length<=BE then some (.int z.length) else none
 |_=>none
def Bo:T->Option T
 |.nd _ _ l=>some (.own l)
 |_=>none
def K1:T->Option T
 |.int i=>some (.int (if i<0 then -i else i))
 |_=>none
def Hf:T->T->Option T
 |.int i,.int j=>some (.int (if j<i then j else i))
 |_,_=>none
def maxT:T->T->Option T
 |.int i,.int j=>some (.int (if j > i then j else i))
 |_,_=>none
noncomputable def Hm:T->Option T
 |.int i=>some (.int i)
 |.bl k=>some (.int (if k then 1 else 0))
 |.str x=>if x.length<=640 then (intText? x).map T.int else none
 |_=>none
noncomputable def DR:List T->Option (List Bool)
 |[]=>some []
 |.bl b::r=>(match DR r with
  |some l=>some (b::l)
  |none=>none)
 |_::_=>none
def DS:T->Option T
 |.nd _ .lst l=>(match DR l with
  |some bs=>some (.bl (bs.all id))
  |none=>none)
 |_=>none
def KZ:T->Option T
 |.nd _ .lst l=>(match DR l with
  |some bs=>some (.bl (bs.any id))
  |none=>none)
 |_=>none
noncomputable def Ig:T->Option String
 |.non=>some "NoneType"
 |.bl _=>some "bool"
 |.int _=>some "int"
 |.str _=>some "str"
 |.nd _ .lst _=>some "list"
 |.nd _ .tup _=>some "tuple"
 |.dic _ _=>some "dict"
 |.pdc _ _=>some "dict"
 |_=>none
def HH:List String:=["int","bool","str","list","tuple"]
def Iu(a c:String):Bool:=a == c || (a == "bool" && c == "int")
def CD(c:String)(t:T):Option T:=match Ig t with
 |some a=>if c∈HH then some (.bl (Iu a c)) else none
 |none=>none
theorem zcn:PySem.W.kitMeta "str"=true:=by decide +kernel
theorem zc0:PySem.W.kitMeta "list"=true:=by decide +kernel
theorem TQ(K:k6){a c:String}(ha:a∈["NoneType","bool","int","str","list","tuple","dict"])(hc:c∈HH):PySem.W.kitOne K (.type a) (.type c)=some (Iu a c):=by
 have km:PySem.W.kitMeta c=true:=by
  simp only[HH,yai,ybs,yew]at hc
  rcases hc with rfl|rfl|rfl|rfl|rfl
  .exact zco
  .exact zc1
  .exact zcn
  .exact zc0
  .exact zbi
 by_cases h:a=c
 .subst h;rw[zgb];simp[Iu]
 .refine zmj K (l:=[]) h km ?_;simp only[HH,yai,ybs,yew]at hc ha
  rcases ha with rfl|rfl|rfl|rfl|rfl|rfl|rfl<;>rcases hc with rfl|rfl|rfl|rfl|rfl<;>first|exact absurd rfl h|decide +kernel
section
variable {X:Cx}
theorem zet:BZ X (.builtin "len") (Cm X.K (g1 Bh)):=by
 intro pins s σ H xs us Q I r h;obtain⟨F,ts,v,fh,rs,e,q⟩:=h;unfold g1 at e;split at e
 .obtain⟨x1,xs1,rfl,r1,rs1⟩:=rs.inv;cases rs1.inv0;unfold Bh at e;split at e
  .cases e;obtain⟨p,ys,rfl,hq,hl,_⟩:=Rp.seq (H:=H) fh (r1.any);refine VC pins s σ H _ us Q I r ⟨_,ys.length,rfl,?_,by rw[<- hl];exact q.int fh⟩
   rcases hq with hq|hq
   .exact .inl ⟨ys,hq,rfl⟩
   .exact .inr ⟨ys,hq,rfl⟩
  .split at e
   .cases e;rename_i hz;rw[r1.str_inv]at r;exact VC pins s σ H _ us Q I r ⟨_,_,rfl,⟨by rw[<- DP];exact hz,rfl⟩,q.int fh⟩
   .cases e
  .cases e
 .cases e
theorem ze3{K:k6}{F H:Hp}{k:Kd}{p:Addr}{xs:List V}(s:AQ F H)(h:Dy K F k p xs):AS K H p xs\/B7 K H p xs:=by
 cases k with
 |lst=>exact .inl (AS.of (s _ _ h))
 |rl=>exact .inl (s.seq h)
 |tup=>exact .inr (B7.of (s _ _ h))
 |rt=>exact .inr (Et s h)
 |pin q=>exact .inl (AS.of (s _ _ h))
theorem zdj:BZ X (.type "list") (Cm X.K (g1 Bo)):=by
 intro pins s σ H xs us Q I r h;obtain⟨F,ts,v,fh,rs,e,q⟩:=h;unfold g1 at e;split at e
 .obtain⟨x1,xs1,rfl,r1,rs1⟩:=rs.inv;cases rs1.inv0;unfold Bo at e;split at e
  .cases e;obtain⟨p,ys,rfl,rfl,n1,k1⟩:=Cp r1;have hq:AS X.K H p ys\/B7 X.K H p ys:=ze3 fh n1;exact zcc pins s σ H _ us Q I r ⟨p,ys,rfl,hq,λl hl=>q.list fh k1 hl⟩
  .cases e
 .cases e
theorem zey:BZ X (.builtin "abs") (Cm X.K (g1 K1)):=by
 intro pins s σ H xs us Q I r h;obtain⟨F,ts,v,fh,rs,e,q⟩:=h;unfold g1 at e;split at e
 .obtain⟨x1,xs1,rfl,r1,rs1⟩:=rs.inv;cases rs1.inv0;unfold K1 at e;split at e
  .cases e;rw[r1.int_inv]at r;exact zgo pins s σ H _ us Q I r ⟨_,rfl,q.int fh⟩
  .cases e
 .cases e
theorem zev:BZ X (.type "int") (Cm X.K (g1 Hm)):=by
 intro pins s σ H xs us Q I r h;obtain⟨F,ts,v,fh,rs,e,q⟩:=h;unfold g1 at e;split at e
 .obtain⟨x1,xs1,rfl,r1,rs1⟩:=rs.inv;cases rs1.inv0;unfold Hm at e;split at e
  .cases e;rw[r1.int_inv]at r;exact VD pins s σ H _ us Q I r (.inl ⟨_,rfl,q.int fh⟩)
  .cases e;rw[r1.bl_inv]at r;exact VD pins s σ H _ us Q I r (.inr ⟨_,rfl,q.int fh⟩)
  .split at e
   .obtain⟨n,hn,rfl⟩:=ya2.mp e;rw[r1.str_inv]at r;obtain⟨u,rfl,ru⟩:=r.one;obtain⟨t,rfl⟩:=ru;exact PySem.W.KIN.call_text hn ‹_› ⟨.int n,H,I.tok _,⟨_,rfl⟩,q.int fh⟩
   .cases e
  .cases e
 .cases e
theorem zeq{f:String}{g:T->T->Option T}{gi:Int->Int->Int}(hc:BZ X (.builtin f) (λxs H Q=>∃i j,xs=[.int i,.int j]/\Q (.int (gi i j)) H))(hg:∀t u v,g t u=some v->∃i j,t=.int i/\u=.int j/\v=.int (gi i j)):BZ X (.builtin f) (Cm X.K (g2 g)):=by
 intro pins s σ H xs us Q I r h;obtain⟨F,ts,v,fh,rs,e,q⟩:=h;unfold g2 at e;split at e
 .obtain⟨x1,xs1,rfl,r1,rs1⟩:=rs.inv;obtain⟨x2,xs2,rfl,r2,rs2⟩:=rs1.inv;cases rs2.inv0;obtain⟨i,j,rfl,rfl,rfl⟩:=hg _ _ _ e;rw[r1.int_inv,r2.int_inv]at r;exact hc pins s σ H _ us Q I r ⟨_,_,rfl,q.int fh⟩
 .cases e
theorem zes(hc:X.calm=true):BZ X (.builtin "min") (Cm X.K (g2 Hf)):=zeq (zeo hc) λt u v h=>by
 unfold Hf at h;split at h
 .cases h;exact⟨_,_,rfl,rfl,rfl⟩
 .cases h
theorem VG:∀{l:List T} {bs:List Bool},DR l=some bs->l.length=bs.length/\∀(i:Nat) (t:T),l[i]?=some t->∃b,bs[i]?=some b/\t=.bl b
 |[],bs,h=>by cases h;exact⟨rfl,λi t e=>by simp at e⟩
 |t::r,bs,h=>by
  unfold DR at h;cases t with
  |bl b =>
   simp only at h;cases hr:DR r with
   |none=>simp only[hr]at h;cases h
   |some l =>
    simp only[hr]at h;cases h;obtain⟨h1,h2⟩:=VG hr;refine⟨by simp[h1],λi t e=>?_⟩
    cases i with
    |zero=>simp at e;exact⟨b,rfl,e.symm⟩
    |succ i=>exact h2 i t (by simpa using e)
  |_=>cases h
theorem Qt{bs:List Bool}{tr:Nat->Bool}(h:∀(i:Nat) (b:Bool),bs[i]?=some b->tr i=b):(List.range bs.length).all tr=bs.all id/\(List.range bs.length).any tr=bs.any id:=by
 have e:(List.range bs.length).map tr=bs:=by
  apply yd6;intro i;rw[ya4]
  by_cases hi:i<bs.length
  .rw[yc3 hi,ya0 hi];simp only[yc0];rw[h i _ (ya0 hi)]
  .rw[yb6 (by simp;omega),yb6 (by omega)]
   rfl
 constructor
 .have:(List.range bs.length).all tr=((List.range bs.length).map tr).all id:=by rw[List.all_map];rfl
  rw[this,e]
 .have:(List.range bs.length).any tr=((List.range bs.length).map tr).any id:=by rw[List.any_map];rfl
  rw[this,e]
theorem Pm(hc:X.calm=true){pins:List (Addr×Obj)}{s:Shared}{σ:L2.St}{H:Hp}{F:Hp}{l:List T}{bs:List Bool}{p:Addr}{E':Value->Shared->Prop}{P:Value->Shared->Prop}{o:Bool}(I:Inv X pins σ H s)(fh:AQ F H)(r1:Rp X.K F F (.nd o .lst l) (.ref p) R0)(hb:DR l=some bs)
  (hP : ∀ (I0 : Addr) (wr fp : List Addr) (St : Nat -> Heap -> Prop) (PP : Nat -> Value -> Prop) (tr : Nat -> Bool) (s2 : Shared), Walks X.prog X.w X.A.in1 I0 fp wr bs.length PP St -> St 0 s2.heap -> TruthOf X.prog X.w X.A.in1 PP tr -> (∀ (i : Nat) (b : Bool), bs[i]? = some b -> tr i = b) ->
   (∀h' tk,(∀b o,b∉wr->s2.heap.get? b=some o->h'.get? b=some o)->Inv X pins σ H { s2 with heap:=h',toks:=tk })->P (.ref I0) s2):wpAny (model X.prog X.w) X.A.in1 (pyIter (.ref p)) P E' s:=by
 obtain⟨p',ys,e',rfl,n1,k1⟩:=Cp r1;cases e';obtain⟨hlen,hget⟩:=VG hb;obtain⟨its,rv,pl,hz⟩:=I.list (AS.of (fh _ _ n1):AS X.K H p ys);have hl:=rv.length
 have hne:p≠s.heap.objs.size:=yaq (by
  obtain⟨o,n,e,_⟩:=pl;exact yad e)
 have hh:X.A.in1.handled=none:=I.ok.hd hc
 have val:∀(i:Nat) (v:Value),its[i]?=some v->∃b,bs[i]?=some b/\v=.bool b:=λi v hv=>by
  have hi:i<ys.length:=by
   have:=(ya5.mp hv).1
   omega
  have hi2:i<l.length:=by rw[k1.1];exact hi
  obtain⟨b,h1,h2⟩:=hget i _ (ya0 hi2);have rr:=k1.2 i _ _ (ya0 hi2) (ya0 hi);rw[h2]at rr;obtain⟨u,e1,ru⟩:=rv.get (ya0 hi);rw[hv]at e1;cases e1;rw[rr.bl_inv]at ru;exact⟨b,h1,ru⟩
 have hbl:its.toArray.size=bs.length:=by rw[yah,<- hl,<- k1.1,hlen]
 refine yeh pl.isList ?_;have W:=Walks.list (prog:=X.prog) (w:=X.w) hh s.heap.objs.size p hne its.toArray;rw[hbl]at W;refine hP s.heap.objs.size _ _ _ _ (λi=>bs.getD i false) _ W ⟨⟨_,yau _ rfl,rfl,rfl⟩,?_⟩ ?_ ?_ ?_
 .obtain⟨o,ho,hr⟩:=pl.isList;exact⟨o,yab _ ho,hr⟩
 .intro i v s' Q' E'' hv hq';obtain⟨b,h1,h2⟩:=val i v (by simpa using hv)
  subst h2;refine yec ?_;have e:bs.getD i false=b:=by rw[ya9,h1];rfl
  rw[<- e];exact hq'
 .intro i b hb';show bs.getD i false=b;rw[ya9,hb']
  rfl
 .intro h' tk k
  exact I.kept λb o e=>k b o (λz=>by
   rw[yaa]at z;exact absurd (yad e) (by rw[z];exact yb5 _)) (yab _ e)
theorem zex(hc:X.calm=true):BZ X (.builtin "all") (Cm X.K (g1 DS)):=by
 intro pins s σ H xs us Q I r h;obtain⟨F,ts,v,fh,rs,e,q⟩:=h;unfold g1 at e;split at e
 .obtain⟨x1,xs1,rfl,r1,rs1⟩:=rs.inv;cases rs1.inv0;unfold DS at e;split at e
  .split at e
   .cases e;rename_i bs hbs;obtain⟨p,rfl⟩:=r1.ref_inv;obtain⟨u,rfl,ru⟩:=De r;cases ru;refine call_all_walk (Pm hc I fh r1 hbs λI0 wr fp St PP tr s2 W st0 tro htr Ay=>⟨I0,fp,wr,bs.length,PP,St,tr,rfl,W,st0,tro,λh' tk k=>?_⟩)
    rw[(Qt htr).1];exact⟨.bl _,H,Ay h' tk k,rfl,q.bl fh⟩
   .cases e
  .cases e
 .cases e
theorem zew(hc:X.calm=true):BZ X (.builtin "any") (Cm X.K (g1 KZ)):=by
 intro pins s σ H xs us Q I r h;obtain⟨F,ts,v,fh,rs,e,q⟩:=h;unfold g1 at e;split at e
 .obtain⟨x1,xs1,rfl,r1,rs1⟩:=rs.inv;cases rs1.inv0;unfold KZ at e;split at e
  .split at e
   .cases e;rename_i bs hbs;obtain⟨p,rfl⟩:=r1.ref_inv;obtain⟨u,rfl,ru⟩:=De r;cases ru;refine call_any_walk (Pm hc I fh r1 hbs λI0 wr fp St PP tr s2 W st0 tro htr Ay=>⟨I0,fp,wr,bs.length,PP,St,tr,rfl,W,st0,tro,λh' tk k=>?_⟩)
    rw[(Qt htr).2];exact⟨.bl _,H,Ay h' tk k,rfl,q.bl fh⟩
   .cases e
  .cases e
 .cases e
theorem T5{pins:List (Addr×Obj)}{σ:L2.St}{H:Hp}{s:Shared}{p:Addr}{ob:Obj}{kvs:List (Key×V)}{c:Value}{b:Bool}{A:Around}{Q:Value->Shared->Prop}{E:Value->Shared->Prop}(I:Inv X pins σ H s)(ea:H p=some (.frz ob (.dK kvs)))(e:PySem.W.kitOne X.K (.type "dict") c=some b)(h:∀tk,Q (.bool b) { s with toks:=tk }) :
  wpAny (model X.prog X.w) A (call (.builtin "isinstance") [.ref p,c]) Q E s:=by
 obtain⟨_,_,_,vs,_,q⟩:=(show BR X.prog X.w H s.heap p (.frz ob (.dK kvs)) from I.hok p _ ea);obtain⟨o,es,ep,h1,h2,_⟩:=q;exact ybd ydz I.kIn ⟨o,h1,h2.1⟩ e (λz=>nomatch z) h
theorem Pz{F H:Hp}{t:T}{x:V}{a:String}(fh:AQ F H)(r:Rp X.K F F t x R0)(h:Ig t=some a):(TyOf X.K H x (.type a)\/a="dict"/\∃p ob kvs,x=.ref p/\H p=some (.frz ob (.dK kvs)))/\a∈["NoneType","bool","int","str","list","tuple","dict"]:=by
 cases t with
 |non=>cases h;rw[r.non_inv];exact⟨.inl .non,by simp⟩
 |bl b=>cases h;rw[r.bl_inv];exact⟨.inl (.bl b),by simp⟩
 |int i=>cases h;rw[r.int_inv];exact⟨.inl (.int i),by simp⟩
 |str y=>cases h;rw[r.str_inv];exact⟨.inl (.str y),by simp⟩
 |nd o k l =>
  obtain⟨p,xs,rfl,_,n,_⟩:=Cp r;cases k with
  |lst=>cases h;exact⟨.inl (.lst (fh _ _ n)),by simp⟩
  |tup=>cases h;exact⟨.inl (.tup (fh _ _ n)),by simp⟩
  |rl=>cases h
  |rt=>cases h
  |pin _=>cases h
 |dic ks l =>
  cases h;cases r with
  |dic h e ek c=>exact⟨.inr ⟨rfl,_,_,_,rfl,fh _ _ h⟩,by simp⟩
 |pdc ks l =>
  cases h;cases r with
  |pdc h e ek c=>exact⟨.inl (.dK (fh _ _ h)),by simp⟩
 |odc ks l=>cases h
 |obj k l=>cases h
 |oob p C fs l=>cases h
 |osd ks l=>cases h
theorem zeu{c:String}:BZ X (.builtin "isinstance") (λxs H Q=>∃x,xs=[x,.ty c]/\Cm X.K (g1 (CD c)) [x] H Q):=by
 intro pins s σ H xs us Q I r h;obtain⟨x,rfl,F,ts,v,fh,rs,e,q⟩:=h;unfold g1 at e;split at e
 .obtain⟨x1,xs1,e1,r1,rs1⟩:=rs.inv;cases e1;unfold CD at e;split at e
  .rename_i a ha;split at e
   .cases e;rename_i hc;obtain⟨ty,hm⟩:=Pz fh r1 ha
    rcases ty with ty|⟨rfl,p,ob,kvs,rfl,hp⟩
    .exact zgm pins s σ H _ us Q I r ⟨x,_,_,rfl,ty,TQ X.K hm hc,q.bl fh⟩
    .obtain⟨u,w',rfl,rx,ry⟩:=GP r;cases ry;cases rx;exact T5 I hp (TQ X.K hm hc) λtk=>⟨.bl _,H,I.tok _,rfl,q.bl fh⟩
   .cases e
  .cases e
 .cases e
def T.isN:T->Bool
 |.non=>true
 |_=>false
noncomputable def T.isB(b:Bool):T->Bool
 |.bl c=>c == b
 |_=>false
def Fw(neg:Bool)(t u:T):Option T:=match u with
 |.non=>some (.bl (neg ^^ t.isN))
 |.bl b=>some (.bl (neg ^^ t.isB b))
 |_=>none
theorem Ul{K:k6}{F H:Hp}{t:T}{x:V}{A:Rg}(r:Rp K F H t x A):decide (x=V.non)=t.isN:=by
 cases r<;>simp[T.isN]
theorem Um{K:k6}{F H:Hp}{t:T}{x:V}{A:Rg}{b:Bool}(r:Rp K F H t x A):decide (x=V.bl b)=t.isB b:=by
 cases r<;>simp[T.isB]
 rename_i c;cases c<;>cases b<;>rfl
theorem zly:A2 X (compareOp .Is) (BY X.K (Fw false)):=by
 intro pins s σ H x y v u Q I rx ry h;obtain⟨F,t1,t2,r,fh,r1,r2,e,q⟩:=h;unfold Fw at e;split at e
 .cases e;rw[r2.non_inv]at ry;refine zlt pins s σ H _ _ v u Q I rx ry ⟨rfl,?_⟩;rw[Ul r1];have:=q.bl fh;rw[Bool.false_xor]at this;exact this
 .cases e;rw[r2.bl_inv]at ry;refine zlu pins s σ H _ _ v u Q I rx ry ⟨_,rfl,?_⟩;rw[Um r1];have:=q.bl fh;rw[Bool.false_xor]at this;exact this
 .cases e
theorem ze2:A2 X (compareOp .IsNot) (BY X.K (Fw true)):=by
 intro pins s σ H x y v u Q I rx ry h;obtain⟨F,t1,t2,r,fh,r1,r2,e,q⟩:=h;unfold Fw at e;split at e
 .cases e;rw[r2.non_inv]at ry;refine zi3 pins s σ H _ _ v u Q I rx ry ⟨rfl,?_⟩;rw[Ul r1];have:=q.bl fh;rw[Bool.true_xor]at this;exact this
 .cases e;rw[r2.bl_inv]at ry;refine zi4 pins s σ H _ _ v u Q I rx ry ⟨_,rfl,?_⟩;rw[Um r1];have:=q.bl fh;rw[Bool.true_xor]at this;exact this
 .cases e
end
section
variable {X:Cx}{E:L2.St->XK}{ca:Str->Value}{σ:L2.St}{H:Hp}{m ma mb mc:AA->Option Rs}{ms:AA->Option RsL}{K:k6}{a b c e:Expr}{es:List Expr}{pos p p2:Pos}
theorem r_isT{c:String}{cn:Str}(hv:bootBuiltins cn=some (.type c))(hg:Gl X "isinstance")(hm:X.mg "isinstance"=none)(hgc:Gl X cn)(hmc:X.mg cn=none)(hn:cn≠"__name__")(hd:(cn == ("__debug__":Str))=false)(ha:PE X e (tM X.K E ca m))(he:starEach [e,.Name cn p2] X.env=(false,eval e X.env)::starEach [.Name cn p2] X.env) :
  PE X (.Call (.Name "isinstance" p) [e,.Name cn p2] [] pos) (tM X.K E ca (BQ (g1 (CD c)) (AE m AF))):=by
 refine PE.weak (JU (zeu (c:=c)) hg hm PyProof.Rows.boot_isinstance (DU ha (DU (zi1 (v:=.ty c) hgc hmc hv rfl hn hd) EI) he) (by decide) (by decide) he rfl) λσ H Q h=>?_
 exact(F7 (F8 h)).mono λx H1 h1=>⟨x,rfl,F6 h1⟩
inductive Ru where
 |ok (t:T)|exc (c:Str)
def BG(K:k6)(ca:Str->Value)(g:List T->Option Ru):Sp:=λvs H Q E=>∃F ts,AQ F H/\A6 K F ts vs/\match g ts with
 |some (.ok v)=>Bw K F H v Q
 |some (.exc c)=>∀F' H',Ext F H F' H' R0->E (ca c) none H'
 |none=>False
def A7(g:List T->Option Ru)(ms:AA->Option RsL):AA->Option Rs:=λτ=>match ms τ with
 |some (.v ts b)=>(match g ts with
  |some (.ok v)=>Ay b v
  |some (.exc c)=>some (.x c)
  |none=>none)
 |some (.x c)=>some (.x c)
 |none=>none
theorem zjj{g:List T->Option Ru}{Q:VK}(h:tM K E ca (A7 g ms) σ H Q):QX (BG K ca g) [] E (B9 K E ca ms) σ H Q:=by
 obtain⟨F,τ,R,S,q⟩:=h;refine⟨F,τ,R,S,?_⟩;unfold A7 at q;cases hs:ms τ with
 |none=>simp only[hs]at q
 |some r =>
  simp only[hs]at q;cases r with
  |x c=>exact q
  |v ts b =>
   intro F1 H1 xs e1 rs;have S1:=S.ext e1;simp only at q;rw[yaw];refine⟨Gz b F1 H1 R,ts,Na S1,rs,?_⟩;cases hg:g ts with
   |none=>simp only[hg]at q
   |some r =>
    simp only[hg]at q;cases r with
    |exc c=>exact λF' H' e2=>q F1 H' (e1.grow e2.hh)
    |ok v =>
     intro F2 H2 z C e2 r2;simp only at q;unfold Ay at q;cases b with
     |false=>exact q F2 H2 z C (e1.trans0 e2) r2
     |true =>
      cases hf:v.flat with
      |false=>rw[hf]at q;exact False.elim q
      |true=>rw[hf]at q;exact q F1 H2 z R0 (e1.grow e2.hh) (r2.flat_any hf)
theorem zkz{k j:Nat}{x:Str}{ps:List Str}{g:List T->Option Ru}(D:DefX X.prog X.w X.K X.mg X.base k x ps (BG X.K ca g))(hr:Room j X.A)(hx:BM X E)(ha:PA X (e::es) (B9 X.K E ca ms))(hk:k<=j)(hg:Gl X x)(hdb:(x == ("__debug__":Str))=false)
  (he:starEach (e::es) X.env=(false,eval e X.env)::starEach es X.env) (hpl:(backTo pos (starEach es X.env)).any (·.1)=false):PE X (.Call (.Name x p) (e::es) [] pos) (tM X.K E ca (A7 g ms)):=PE.weak (px D hr hx ha hk hg hdb he hpl) λ_ _ _ h=>zjj h
end
def Ek(K:k6)(J:It)(F:Hp)(ts:List T):Prop:=∀(i:Nat) (F' H':Hp),AQ F F'->AQ F' H' ->
 (∀t,ts[i]?=some t->J.go i H'/\∀x H'',J.yld i H' x H''->∃F'',Ext F' H' F'' H'' R0/\Rp K F'' H'' t x R0)/\(i=ts.length->J.stop i H')
def tI(K:k6)(E:L2.St->XK)(ca:Str->Value)(m:AA->Option RsL):TI:=λσ H P=>∃F τ R,StR K F H σ τ R/\match m τ with
 |some (.v ts _)=>∀F' H' J,Ext F H F' H' R0->Ek K J F' ts->P J H'
 |some (.x c)=>∀F' H',Ext F H F' H' R0->E σ (ca c) none H'
 |none=>False
noncomputable def Hl:T->Bool
 |.nd _ .lst _=>true
 |.nd _ .rl _=>true
 |.nd _ (.pin _) _=>true
 |_=>false
noncomputable def G9(m:AA->Option Rs):AA->Option RsL:=λτ=>match m τ with
 |some (.v (.nd _ k l) false)=>some (.v (BD l) false)
 |some (.x c)=>some (.x c)
 |_=>none
def DJ(lo:Int)(n:Nat):List T:=(List.range n).map λ(i:Nat)=>.int (lo+(i:Int))
def DL(j:Int):Bool:=@decide (-(2 ^ 62)<=j/\j<2 ^ 62) (Classical.propDecidable _)
def KY:List T->Option Int
 |[.int j]=>some j
 |_=>none
noncomputable def as2:List T->Option (Int×Int)
 |[.int i,.int j]=>some (i,j)
 |_=>none
def Cd(ms:AA->Option RsL):AA->Option RsL:=λτ=>match ms τ with
 |some (.v ts _)=>(match KY ts with
  |some j=>if DL j then some (.v (DJ 0 j.toNat) false) else none
  |none=>none)
 |r=>r
def C6:Nat->List T->List T
 |_,[]=>[]
 |i,t::r=>.tup [.int (i:Int),t]::C6 (i+1) r
def KW:List T->Option (List T)
 |[.nd o k l]=>if Hl (.nd o k l) then some l else none
 |_=>none
def KU:List T->Option (List T×List T)
 |[.nd o k l,.nd o' k' m]=>if Hl (.nd o k l) && Hl (.nd o' k' m) then some (l,m) else none
 |_=>none
def Cq(ms:AA->Option RsL):AA->Option RsL:=λτ=>match ms τ with
 |some (.v ts false)=>(match KW ts with
  |some l=>some (.v (C6 0 l) false)
  |none=>none)
 |some (.v _ true)=>none
 |r=>r
def FT(l m:List T):List T:=List.zipWith (λa b=>T.tup [a,b]) l m
def E8(ms:AA->Option RsL):AA->Option RsL:=λτ=>match ms τ with
 |some (.v ts false)=>(match KU ts with
  |some (l,m)=>some (.v (FT l m) false)
  |none=>none)
 |some (.v _ true)=>none
 |r=>r
theorem U9:∀(l:List T) (n i:Nat),(C6 n l)[i]?=(l[i]?).map λt=>T.tup [.int ((n+i:Nat):Int),t]
 |[],n,i=>by simp[C6]
 |t::r,n,i=>by
  cases i with
  |zero=>simp[C6]
  |succ i =>
   simp only[C6,yci];rw[U9 r (n+1) i];have:n+1+i=n+(i+1):=by omega
   rw[this]
theorem zc6(l:List T):∀n,(C6 n l).length=l.length:=by
 induction l with
 |nil=>intro n;rfl
 |cons t r ih=>intro n;simp[C6,ih]
section
variable {X:Cx}{E:L2.St->XK}{ca:Str->Value}{σ:L2.St}{H:Hp}{m ma mb mc:AA->Option Rs}{ms:AA->Option RsL}{K:k6}{a b c e tg:Expr}{es elts:List Expr}{pos p tpos:Pos}{kk:Nat}
theorem N2{F:Hp}{p:Addr}{xs:List V}{l:List T}(n:∀F' H':Hp,AQ F F'->AQ F' H'->AS K H' p xs)(r:A6 K F l xs):Ek K (Pb K p) F l:=by
 intro i F' H' s1 s2;have sq:=n F' H' s1 s2;refine⟨λt ht=>?_,λe=>⟨xs,sq,by rw[e,r.1];exact ya8 _⟩⟩
 have hi:i<xs.length:=by
  have:=(ya5.mp ht).1;have:=r.1
  omega
 refine⟨⟨xs,xs[i],sq,ya0 hi⟩,λx H'' y=>?_⟩
 obtain⟨rfl,y⟩:=y;have hx:=y xs sq;exact⟨F',Ext.refl s2,((r.same s1).2 i t x ht hx).any⟩
theorem T3{F:Hp}{p:Addr}{xs:List V}{l:List T}(n:∀F' H':Hp,AQ F F'->AQ F' H'->B7 K H' p xs)(r:A6 K F l xs):Ek K (Pa K p) F l:=by
 intro i F' H' s1 s2;have sq:=n F' H' s1 s2;refine⟨λt ht=>?_,λe=>⟨xs,sq,by rw[e,r.1];exact ya8 _⟩⟩
 have hi:i<xs.length:=by
  have:=(ya5.mp ht).1;have:=r.1
  omega
 refine⟨⟨xs,xs[i],sq,ya0 hi⟩,λx H'' y=>?_⟩
 obtain⟨rfl,y⟩:=y;have hx:=y xs sq;exact⟨F',Ext.refl s2,((r.same s1).2 i t x ht hx).any⟩
theorem zec{F:Hp}{lo:Int}{n:Nat}:Ek K (Kn lo n) F (DJ lo n):=by
 intro i F' H' s1 s2;refine⟨λt ht=>?_,λe=>?_⟩
 .unfold DJ at ht;rw[ya4]at ht;obtain⟨j,e1,e2⟩:=ya2.mp ht
  have hi:i<n:=by
   have:=(ya5.mp e1).1
   simpa using this
  have hj:i=j:=by rw[yc3 hi]at e1;exact yar e1
  subst hj;subst e2;refine⟨hi,λx H'' y=>?_⟩
  obtain⟨rfl,rfl⟩:=y;exact⟨F',Ext.refl s2,.int _⟩
 .have:n<=i:=by rw[e];simp[DJ]
  exact this
theorem zgc{F:Hp}{p:Addr}{xs:List V}{l:List T}(n:∀F' H':Hp,AQ F F'->AQ F' H'->AS K H' p xs)(r:A6 K F l xs):Ek K (Pc K p) F (C6 0 l):=by
 intro i F' H' s1 s2;have sq:=n F' H' s1 s2;refine⟨λt ht=>?_,λe=>⟨xs,sq,by rw[e,zc6,r.1];exact ya8 _⟩⟩
 rw[U9]at ht;obtain⟨t0,h0,rfl⟩:=ya2.mp ht
 have hi:i<xs.length:=by
  have:=(ya5.mp h0).1;have:=r.1
  omega
 refine⟨⟨xs,xs[i],sq,ya0 hi⟩,λx H'' y=>?_⟩
 obtain⟨q,y0,rfl,hq,rfl,y⟩:=y;have hx:=y xs sq;have e:=Ext.new (o:=.tup [.int i,y0]) s2 hq;refine⟨_,e,A6.of_node (k:=.tup) (xs:=[.int i,y0]) Br ?_⟩;have e0:((0+i:Nat):Int)=(i:Int):=by simp
 rw[e0];exact .cons (H:=H') (.int _) (.cons (H:=H') (((r.same (s1.trans e.ff)).2 i t0 y0 h0 hx).any) .nil)
theorem zj1{F:Hp}{p p2:Addr}{xs ys:List V}{l l2:List T}(n:∀F' H':Hp,AQ F F'->AQ F' H'->AS K H' p xs)(n2:∀F' H':Hp,AQ F F'->AQ F' H'->AS K H' p2 ys)(r:A6 K F l xs)(r2:A6 K F l2 ys):Ek K (P9 K p p2) F (FT l l2):=by
 intro i F' H' s1 s2;have sq:=n F' H' s1 s2;have sq2:=n2 F' H' s1 s2;have l1:=r.1;have l2':=r2.1;refine⟨λt ht=>?_,λe=>⟨xs,ys,sq,sq2,?_⟩⟩
 .unfold FT at ht;rw[List.getElem?_zipWith]at ht;cases h1:l[i]? with
  |none=>rw[h1]at ht;cases ht
  |some t1 =>
   cases h2:l2[i]? with
   |none=>rw[h1,h2]at ht;cases ht
   |some t2 =>
    rw[h1,h2]at ht;cases ht;have hi:i<xs.length:=by have:=(ya5.mp h1).1;omega
    have hi2:i<ys.length:=by have:=(ya5.mp h2).1;omega
    refine⟨⟨xs,xs[i],ys,ys[i],sq,ya0 hi,sq2,ya0 hi2⟩,λx H'' y=>?_⟩
    obtain⟨q,y0,z0,rfl,hq,rfl,y,z⟩:=y;have hx:=y xs sq;have hy:=z ys sq2;have e:=Ext.new (o:=.tup [y0,z0]) s2 hq;refine⟨_,e,A6.of_node (k:=.tup) (xs:=[y0,z0]) Br ?_⟩;exact .cons (H:=H') (((r.same (s1.trans e.ff)).2 i t1 y0 h1 hx).any) (.cons (H:=H') (((r2.same (s1.trans e.ff)).2 i t2 z0 h2 hy).any) .nil)
 .have:i=min l.length l2.length:=by rw[e];simp[FT]
  omega
theorem PI.weak{t t':TI}(h:PI X tg e t)(w:∀σ H P,t' σ H P->t σ H P):PI X tg e t':=λpins s σ H P I q=>h pins s σ H P I (w σ H P q)
theorem PI.or{t t':TI}(h:PI X tg e t)(h':PI X tg e t'):PI X tg e (λσ H P=>t σ H P\/t' σ H P):=λpins s σ H P I q=>q.elim (h pins s σ H P I) (h' pins s σ H P I)
theorem Qy(ha:PE X e (tM X.K E ca m)):PI X tg e (tI X.K E ca (G9 m)):=by
 refine PI.weak (PI.or (zht ha) (zlb ha)) λσ H P h=>?_
 obtain⟨F,τ,R,S,q⟩:=h;unfold G9 at q
 have key:∀{o:Bool} {k:Kd} {l:List T},m τ=some (.v (.nd o k l) false)->(∀F' H' J,Ext F H F' H' R0->Ek X.K J F' (BD l)->P J H')->∀F1 H1 x B,Ext F H F1 H1 B->Cs X.K F1 H1 R (.nd o k l) false x B->∃(F2:Hp) (p:Addr) (xs:List V),x=.ref p/\Ext F H F2 H1 R0/\Dy X.K F2 k p xs/\A6 X.K F2 (BD l) xs:=by
  intro o k l hm q F1 H1 x B e1 g1;obtain⟨F2,e2,_,r2⟩:=Cs.frz (b:=false) S e1 g1;have r2':Rp X.K F2 F2 (T.nd o k l).share x R0:=r2;rw[T.share]at r2';obtain⟨p,xs,rfl,_,n,kd⟩:=Cp r2';exact⟨F2,p,xs,rfl,e2,n,kd⟩
 cases hm:m τ with
 |none=>simp only[hm]at q
 |some r =>
  simp only[hm]at q;cases r with
  |x c=>exact .inl ⟨F,τ,R,S,by rw[hm];exact q⟩
  |v t bb =>
   cases t with
   |nd o k l =>
    cases bb with
    |true=>exact q.elim
    |false =>
     simp only at q;cases k with
     |lst =>
      refine .inl ⟨F,τ,R,S,?_⟩;rw[hm];intro F1 H1 x B e1 g1;obtain⟨F2,p,xs,rfl,e2,n,kd⟩:=key hm q F1 H1 x B e1 g1;exact⟨p,rfl,⟨xs,AS.of (e2.fh _ _ n)⟩,q F2 H1 _ e2 (N2 (λF' H' s1 s2=>AS.of (s2 _ _ (s1 _ _ n))) kd)⟩
     |pin _ =>
      refine .inl ⟨F,τ,R,S,?_⟩;rw[hm];intro F1 H1 x B e1 g1;obtain⟨F2,p,xs,rfl,e2,n,kd⟩:=key hm q F1 H1 x B e1 g1;exact⟨p,rfl,⟨xs,AS.of (e2.fh _ _ n)⟩,q F2 H1 _ e2 (N2 (λF' H' s1 s2=>AS.of (s2 _ _ (s1 _ _ n))) kd)⟩
     |rl =>
      refine .inl ⟨F,τ,R,S,?_⟩;rw[hm];intro F1 H1 x B e1 g1;obtain⟨F2,p,xs,rfl,e2,n,kd⟩:=key hm q F1 H1 x B e1 g1;exact⟨p,rfl,⟨xs,e2.fh.seq n⟩,q F2 H1 _ e2 (N2 (λF' H' s1 s2=>s2.seq (s1.seq n)) kd)⟩
     |tup =>
      refine .inr ⟨F,τ,R,S,?_⟩;rw[hm];intro F1 H1 x B e1 g1;obtain⟨F2,p,xs,rfl,e2,n,kd⟩:=key hm q F1 H1 x B e1 g1;exact⟨p,rfl,⟨xs,B7.of (e2.fh _ _ n)⟩,q F2 H1 _ e2 (T3 (λF' H' s1 s2=>B7.of (s2 _ _ (s1 _ _ n))) kd)⟩
     |rt =>
      refine .inr ⟨F,τ,R,S,?_⟩;rw[hm];intro F1 H1 x B e1 g1;obtain⟨F2,p,xs,rfl,e2,n,kd⟩:=key hm q F1 H1 x B e1 g1;exact⟨p,rfl,⟨xs,Et e2.fh n⟩,q F2 H1 _ e2 (T3 (λF' H' s1 s2=>Et s2 (Et s1 n)) kd)⟩
   |_=>exact q.elim
theorem LS{f:(AA->Option RsL)->AA->Option RsL}{P:It->Hp->Prop}{W:List V->Hp->Prop}(hx:∀τ c,ms τ=some (.x c)->f ms τ=some (.x c))(hn:∀τ,ms τ=none->f ms τ=none)
  (hv : ∀ F τ R ts b, StR K F H σ τ R -> ms τ = some (.v ts b) -> (match f ms τ with
   |some (.v us _)=>∀F' H' J,Ext F H F' H' R0->Ek K J F' us->P J H'
   |some (.x c)=>∀F' H',Ext F H F' H' R0->E σ (ca c) none H'
   |none=>False)->∀F' H' xs,Ext F H F' H' R0->A6 K (Gz b F' H' R) ts xs->W xs H') (h:tI K E ca (f ms) σ H P):B9 K E ca ms σ H W:=by
 obtain⟨F,τ,R,S,q⟩:=h;refine⟨F,τ,R,S,?_⟩;cases hm:ms τ with
 |none=>rw[hn τ hm]at q;exact q.elim
 |some r =>
  cases r with
  |x c=>rw[hx τ c hm]at q;exact q
  |v ts b=>exact λF' H' xs e rs=>hv F τ R ts b S hm q F' H' xs e rs
theorem zg2{j:Int}(h:DL j=true):-(2 ^ 62)<=j/\j<2 ^ 62:=@of_decide_eq_true _ (Classical.propDecidable _) h
theorem zfl(hg:Gl X "range")(hm:X.mg "range"=none)(ha:PA X [a] (B9 X.K E ca ms))(hs:starEach [a] X.env=[(false,eval a X.env)]):PI X tg (.Call (.Name "range" p) [a] [] pos) (tI X.K E ca (Cd ms)):=by
 refine PI.weak (zdz hg hm ha hs) λσ H P h=>?_
 refine LS (f:=Cd) (λτ c e=>by unfold Cd;rw[e]) (λτ e=>by unfold Cd;rw[e]) (λF τ R ts b S e q F' H' xs e1 rs=>?_) h
 unfold Cd at q;rw[e]at q;simp only at q;cases h1:KY ts with
 |none=>simp only[h1]at q
 |some j =>
  simp only[h1]at q
  by_cases hj:DL j=true
  .simp only[hj,yeo]at q;obtain⟨g1,g2⟩:=zg2 hj;unfold KY at h1;split at h1
   .cases h1;obtain⟨x1,xs1,rfl,r1,rs1⟩:=rs.inv;cases rs1.inv0;rw[r1.int_inv];exact⟨j,rfl,g1,g2,q F' H' _ e1 zec⟩
   .cases h1
  .simp only[hj]at q;exact q.elim
theorem N4{F:Hp}{o:Bool}{k:Kd}{l:List T}{x:V}(h:Hl (.nd o k l)=true)(r:Rp K F F (.nd o k l) x R0):∃p xs,x=.ref p/\(∀F' H':Hp,AQ F F'->AQ F' H'->AS K H' p xs)/\A6 K F l xs:=by
 obtain⟨p,xs,rfl,_,n,kd⟩:=Cp r;refine⟨p,xs,rfl,λF' H' s1 s2=>?_,kd⟩
 cases k with
 |lst=>exact AS.of (s2 _ _ (s1 _ _ n))
 |rl=>exact s2.seq (s1.seq n)
 |tup=>cases h
 |rt=>cases h
 |pin q=>exact AS.of (s2 _ _ (s1 _ _ n))
theorem Qz(hg:Gl X "enumerate")(hm:X.mg "enumerate"=none)(ha:PA X [a] (B9 X.K E ca ms))(hs:starEach [a] X.env=[(false,eval a X.env)]):PI X (.Tuple elts kk tpos) (.Call (.Name "enumerate" p) [a] [] pos) (tI X.K E ca (Cq ms)):=by
 refine PI.weak (zhu hg hm ha hs) λσ H P h=>?_
 refine LS (f:=Cq) (λτ c e=>by unfold Cq;rw[e]) (λτ e=>by unfold Cq;rw[e]) (λF τ R ts b S e q F' H' xs e1 rs=>?_) h
 unfold Cq at q;rw[e]at q;cases b with
 |true=>exact q.elim
 |false =>
  simp only at q;cases h1:KW ts with
  |none=>simp only[h1]at q
  |some l =>
   simp only[h1]at q;unfold KW at h1;split at h1
   .split at h1
    .cases h1;rename_i hL;obtain⟨x1,xs1,rfl,r1,rs1⟩:=rs.inv;cases rs1.inv0;obtain⟨p',ys,rfl,sq,kd⟩:=N4 hL r1;exact⟨p',rfl,⟨ys,sq F' H' (.refl _) e1.fh⟩,q F' H' _ e1 (zgc sq kd)⟩
    .cases h1
   .cases h1
theorem r_zip(hg:Gl X "zip")(hm:X.mg "zip"=none)(ha:PA X [a,b] (B9 X.K E ca ms))(hs:starEach [a,b] X.env=[(false,eval a X.env),(false,eval b X.env)])(hs2:starEach [b] X.env=[(false,eval b X.env)]):PI X (.Tuple elts kk tpos) (.Call (.Name "zip" p) [a,b] [] pos) (tI X.K E ca (E8 ms)):=by
 refine PI.weak (zla hg hm ha hs hs2) λσ H P h=>?_
 refine LS (f:=E8) (λτ c e=>by unfold E8;rw[e]) (λτ e=>by unfold E8;rw[e]) (λF τ R ts b S e q F' H' xs e1 rs=>?_) h
 unfold E8 at q;rw[e]at q;cases b with
 |true=>exact q.elim
 |false =>
  simp only at q;cases h1:KU ts with
  |none=>simp only[h1]at q
  |some lm =>
   obtain⟨l,m'⟩:=lm;simp only[h1]at q;unfold KU at h1;split at h1
   .split at h1
    .cases h1;rename_i hL;rw[ya3]at hL;obtain⟨x1,xs1,rfl,r1,rs1⟩:=rs.inv;obtain⟨x2,xs2,rfl,r2,rs2⟩:=rs1.inv;cases rs2.inv0;obtain⟨p',ys,rfl,sq,kd⟩:=N4 hL.1 r1;obtain⟨p2,zs,rfl,sq2,kd2⟩:=N4 hL.2 r2;exact⟨p',p2,rfl,⟨ys,sq F' H' (.refl _) e1.fh⟩,⟨zs,sq2 F' H' (.refl _) e1.fh⟩,q F' H' _ e1 (zj1 sq sq2 kd kd2)⟩
    .cases h1
   .cases h1
end
theorem StR.set{K:k6}{F H:Hp}{σ:L2.St}{τ:AA}{R:Nat->Rg}(S:StR K F H σ τ R){i:Nat}{t:T}{x:V}{A:Rg}(r:Rp K F H t x A)(d:∀j a,j≠i->R j a->¬ A a)(hi:i<τ.length) :
  StR K F H (σ.set i (some x)) (τ.set i (some t)) (λj=>if j=i then A else R j):=by
 have hl:=S.len;refine⟨S.fh,by simp[hl],λj t' e=>?_,λj a z=>?_,λj k a hjk z1 z2=>?_⟩
 .by_cases hj:j=i
  .subst hj;rw[yam hi]at e;cases e;exact⟨x,yam (by omega),by simpa using r⟩
  .rw[yan (yb1 hj)]at e ⊢;obtain⟨y,e1,r1⟩:=S.rep j t' e;exact⟨y,e1,by simpa[hj] using r1⟩
 .by_cases hj:j=i
  .subst hj;exact⟨t,yam hi⟩
  .simp only[hj,yep]at z;obtain⟨t',e⟩:=S.out j a z;exact⟨t',by rw[yan (yb1 hj)];exact e⟩
 .by_cases hj:j=i
  .simp only[hj,yeo]at z1;have hk:¬ k=i:=λz=>hjk (hj.trans z.symm)
   simp only[hk,yep]at z2;exact d k a hk z2 z1
  .simp only[hj,yep]at z1
   by_cases hk:k=i
   .simp only[hk,yeo]at z2;exact d j a hj z1 z2
   .simp only[hk,yep]at z2;exact S.dis j k a hjk z1 z2
def DG(K:k6)(b:T->AA->Option AA):TG:=λv σ H Q=>∃F τ R t τ',StR K F H σ τ R/\Rp K F H t v R0/\b t τ=some τ'/\∀σ' R',StR K F H σ' τ' R'->(∀i a,R' i a->R i a)->Q σ' H
def F9(K:k6)(b:List T->AA->Option AA):ES:=λvs σ H Q=>∃F τ R ts τ',StR K F H σ τ R/\A6 K F ts vs/\b ts τ=some τ'/\∀σ' R',StR K F H σ' τ' R'->(∀i a,R' i a->R i a)->Q σ' H
def AD(i:Nat):T->AA->Option AA:=λt τ=>if i<τ.length then some (τ.set i (some t)) else none
def Ac:List T->AA->Option AA
 |[],τ=>some τ
 |_::_,_=>none
def AK(b:T->AA->Option AA)(bs:List T->AA->Option AA):List T->AA->Option AA
 |t::ts,τ=>(match b t τ with
  |some τ'=>bs ts τ'
  |none=>none)
 |[],_=>none
def Aa(n:Nat)(bs:List T->AA->Option AA):T->AA->Option AA
 |.nd _ .tup l,τ=>if l.length=n then bs l τ else none
 |.nd _ .rt l,τ=>if l.length=n then bs l τ else none
 |.nd _ .lst l,τ=>if l.length=n then bs l τ else none
 |_,_=>none
theorem zle{X:Cx}{es:List Expr}{pos:Pos}{k:Nat}{t:ES}{n:Nat}(hc:X.calm=true)(h:Cr X es t)(hn:(assignEach es X.env).length=n)(hst:(assignEach es X.env).findIdx? (·.1)=none):PG X (.Tuple es k pos) (λv σ H Q=>Nn X.K n t v σ H Q\/∃a xs,v=.ref a/\AS X.K H a xs/\xs.length=n/\t xs σ H Q):=by
 intro pins s σ H v u Q I r hw
 rcases hw with hw|⟨a,xs,e1,hq,hl,hw⟩
 .exact zld hc h hn hst pins s σ H v u Q I r hw
 .subst e1;cases r;obtain⟨its,rv,⟨o,m,ho,hcl,_,hd⟩,hz⟩:=I.list hq;rw[assign_Tuple];refine yed (yef ?_);unfold unpack;rw[hst,hn,show n=its.toArray.size by simp[<- hl,rv.length]]
  refine yed (yee (PySem.W.kun_itemsOf (I.ok.hd hc) ⟨o,ho,hcl,m,hd⟩ λh' hx=>?_))
  have I1:Inv X pins σ H { s with heap:=h' }:=I.kept (t':=s.toks) λb o e=>hx b o (yaq (yad e)) e
  exact h pins _ σ H xs _ Q I1 (by simpa using rv) hw
section
variable {X:Cx}{e:Expr}{es:List Expr}{pos:Pos}{b:T->AA->Option AA}{bs:List T->AA->Option AA}
theorem PG.weak{t t':TG}(h:PG X e t)(w:∀v σ H Q,t' v σ H Q->t v σ H Q):PG X e t':=λpins s σ H v u Q I r q=>h pins s σ H v u Q I r (w v σ H Q q)
theorem Cr.weak{t t':ES}(h:Cr X es t)(w:∀v σ H Q,t' v σ H Q->t v σ H Q):Cr X es t':=λpins s σ H v u Q I r q=>h pins s σ H v u Q I r (w v σ H Q q)
theorem g_nm{i:Nat}{x:Str}(hN:X.N.Nodup)(hi:X.N[i]?=some x)(hx:FR X.env.scope x)(hf:X.fn x=true\/X.env.scope.names.lookup x=some .local):PG X (.Name x pos) (DG X.K (AD i)):=by
 refine PG.weak (zhw hN hi hx hf) λv σ H Q h=>?_
 obtain⟨F,τ,R,t,τ',S,r,e,q⟩:=h;unfold AD at e;split at e
 .cases e;rename_i hl;refine q _ _ (S.set r (λ_ _ _ _ z=>z.elim) hl) λj a z=>?_
  by_cases hj:j=i
  .simp only[hj,yeo]at z;exact z.elim
  .simpa[hj] using z
 .cases e
theorem g_nil:Cr X [] (F9 X.K Ac):=Cr.weak zhv λv σ H Q h=>by
 obtain⟨F,τ,R,ts,τ',S,r,e,q⟩:=h;cases ts with
 |nil=>cases e;exact⟨r.inv0,q σ R S λ_ _ z=>z⟩
 |cons _ _=>cases e
theorem zmy(h1:PG X e (DG X.K b))(h2:Cr X es (F9 X.K bs))(hs:(assignEach (e::es) X.env).map (·.2)=assign e X.env::(assignEach es X.env).map (·.2)):Cr X (e::es) (F9 X.K (AK b bs)):=by
 refine Cr.weak (zfv h1 h2 hs) λv σ H Q h=>?_
 obtain⟨F,τ,R,ts,τ',S,r,e,q⟩:=h;cases ts with
 |nil=>cases e
 |cons t ts =>
  obtain⟨x,xs,rfl,r1,rs⟩:=r.inv;unfold AK at e;simp only at e;cases hb:b t τ with
  |none=>rw[hb]at e;cases e
  |some τ1 =>
   rw[hb]at e;exact⟨x,xs,rfl,F,τ,R,t,τ1,S,r1.any,hb,λσ1 R1 S1 w1=>⟨F,τ1,R1,ts,τ',S1,rs,e,λσ2 R2 S2 w2=>q σ2 R2 S2 λi a z=>w1 i a (w2 i a z)⟩⟩
theorem g_tup{k n:Nat}(hc:X.calm=true)(h:Cr X es (F9 X.K bs))(hn:(assignEach es X.env).length=n)(hst:(assignEach es X.env).findIdx? (·.1)=none):PG X (.Tuple es k pos) (DG X.K (Aa n bs)):=by
 refine PG.weak (zle hc h hn hst) λv σ H Q h=>?_
 obtain⟨F,τ,R,t,τ',S,r,e,q⟩:=h
 have key:∀{o:Bool} {kd:Kd} {l:List T},t=.nd o kd l->(kd=.tup\/kd=.rt\/kd=.lst)->(if l.length=n then bs l τ else none)=some τ'->(Nn X.K n (F9 X.K bs) v σ H Q\/∃a xs,v=.ref a/\AS X.K H a xs/\xs.length=n/\F9 X.K bs xs σ H Q):=by
  intro o kd l et hk e';subst et;split at e'
  .rename_i hl;obtain⟨p,xs,rfl,_,nn,kid⟩:=Cp (r.any (H':=F));have hx:xs.length=n:=by rw[<- kid.1];exact hl
   rcases hk with rfl|rfl|rfl
   .exact .inl ⟨p,xs,rfl,B7.of (S.fh _ _ nn),hx,F,τ,R,l,τ',S,kid,e',q⟩
   .exact .inl ⟨p,xs,rfl,Et S.fh nn,hx,F,τ,R,l,τ',S,kid,e',q⟩
   .exact .inr ⟨p,xs,rfl,AS.of (S.fh _ _ nn),hx,F,τ,R,l,τ',S,kid,e',q⟩
  .cases e'
 unfold Aa at e;split at e
 .exact key rfl (.inl rfl) e
 .exact key rfl (.inr (.inl rfl)) e
 .exact key rfl (.inr (.inr rfl)) e
 .cases e
end
noncomputable def BK(b:T->AA->Option AA)(mt me:AA->Option Rs):List T->AA->Option (List T)
 |[],_=>some []
 |t::ts,τ=>(match b t τ with
  |some τ1=>(match mt τ1 with
   |some (.v (.bl true) _)=>(match me τ1 with
    |some (.v v false)=>(match BK b mt me ts τ1 with
     |some l=>some (v::l)
     |none=>none)
    |_=>none)
   |some (.v (.bl false) _)=>BK b mt me ts τ1
   |_=>none)
  |none=>none)
noncomputable def E6(b:T->AA->Option AA)(mt me:AA->Option Rs):List T->AA->Option Str
 |[],_=>none
 |t::ts,τ=>(match b t τ with
  |some τ1=>(match mt τ1 with
   |some (.v (.bl true) _)=>(match me τ1 with
    |some (.v _ false)=>E6 b mt me ts τ1
    |some (.x c)=>some c
    |_=>none)
   |some (.v (.bl false) _)=>E6 b mt me ts τ1
   |some (.x c)=>some c
   |_=>none)
  |none=>none)
noncomputable def Gh(τ:AA)(j:Nat):Option T:=match τ[j]? with
 |some (some t)=>if t.sh then some t else none
 |_=>none
def blk(n:Nat)(caps:List Nat)(τ:AA):AA:=List.replicate n none++caps.map (Gh τ)
noncomputable def KL(σ:L2.St)(j:Nat):Option V:=match σ[j]? with
 |some (some v)=>some v
 |_=>none
def Dc(n:Nat)(caps:List Nat)(σ:L2.St):L2.St:=List.replicate n none++caps.map (KL σ)
def BP(n:Nat)(caps:List Nat)(mi:AA->Option RsL)(b:T->AA->Option AA)(mt me:AA->Option Rs):AA->Option Rs:=λτ=>match mi τ with
 |some (.v ts _)=>if ts.length<=BE then (match BK b mt me ts (blk n caps τ) with
  |some l=>some (.v (.own l) false)
  |none=>(match E6 b mt me ts (blk n caps τ) with
   |some c=>some (.x c)
   |none=>none)) else none
 |some (.x c)=>some (.x c)
 |none=>none
theorem zn8{K:k6}{F H:Hp}{σ:L2.St}{τ:AA}{R:Nat->Rg}(S:StR K F H σ τ R)(n:Nat)(caps:List Nat):StR K F H (Dc n caps σ) (blk n caps τ) (λ_=>R0):=by
 refine⟨S.fh,by simp[Dc,blk],λi t e=>?_,λ_ _ z=>z.elim,λ_ _ _ _ z=>z.elim⟩
 unfold blk at e;unfold Dc
 by_cases hi:i<n
 .rw[yax (by simpa using hi),yd3,if_pos hi]at e
  cases e
 .rw[yaz (by simp;omega),ya4]at e ⊢
  simp only[ybz]at e ⊢;cases hc:caps[i - n]? with
  |none=>rw[hc]at e;cases e
  |some j =>
   rw[hc]at e;simp only[yc0]at e ⊢;have e':Gh τ j=some t:=yar e;unfold Gh at e';split at e'
   .rename_i t' ht;split at e'
    .cases e';rename_i hs;obtain⟨x,ex,r⟩:=S.rep j _ ht;refine⟨x,?_,r.move hs (.refl _)⟩;unfold KL;rw[ex]
    .cases e'
   .cases e'
theorem Q8{l:List T}{Rr:Nat->Rg}{B:Rg}{a:Addr}(h:tot (λj=>if j=l.length then B else Rr j) a):tot Rr a\/B a:=by
 obtain⟨j,z⟩:=h
 by_cases hj:j=l.length
 .simp only[hj,yeo]at z;exact .inr z
 .simp only[hj,yep]at z;exact .inl ⟨j,z⟩
section
variable {X:Cx}{E:L2.St->XK}{ca:Str->Value}{σ:L2.St}{H:Hp}{K:k6}{n:Nat}{caps:List Nat}{mi:AA->Option RsL}{b:T->AA->Option AA}{mt me:AA->Option Rs}
theorem ze9{t:T}{us l2:List T}{τ1:AA}(h:BK b mt me (t::us) τ1=some l2):∃τ2,b t τ1=some τ2/\((∃bt,mt τ2=some (.v (.bl false) bt)/\BK b mt me us τ2=some l2)\/∃bt w l3,mt τ2=some (.v (.bl true) bt)/\me τ2=some (.v w false)/\BK b mt me us τ2=some l3/\l2=w::l3):=by
 unfold BK at h;split at h
 .rename_i τ2 hb;refine⟨τ2,hb,?_⟩;split at h
  .rename_i bt ht;split at h
   .rename_i w hw;split at h
    .rename_i l3 h3;cases h;exact .inr ⟨bt,w,l3,ht,hw,h3,rfl⟩
    .cases h
   .cases h
  .rename_i bt ht;exact .inl ⟨bt,ht,h⟩
  .cases h
 .cases h
theorem zg8{t:T}{us:List T}{c:Str}{τ1:AA}(h:E6 b mt me (t::us) τ1=some c):∃τ2,b t τ1=some τ2/\((∃bt,mt τ2=some (.v (.bl false) bt)/\E6 b mt me us τ2=some c)\/(∃bt,mt τ2=some (.v (.bl true) bt)/\((∃w,me τ2=some (.v w false)/\E6 b mt me us τ2=some c)\/me τ2=some (.x c)))\/mt τ2=some (.x c)):=by
 unfold E6 at h;split at h
 .rename_i τ2 hb;refine⟨τ2,hb,?_⟩;split at h
  .rename_i bt ht;split at h
   .rename_i w hw;exact .inr (.inl ⟨bt,ht,.inl ⟨w,hw,h⟩⟩)
   .rename_i c' hw;cases h;exact .inr (.inl ⟨bt,ht,.inr hw⟩)
   .cases h
  .rename_i bt ht;exact .inl ⟨bt,ht,h⟩
  .rename_i c' ht;cases h;exact .inr (.inr ht)
  .cases h
 .cases h
theorem QO{Q:VK}(h:tM K E ca (BP n caps mi b mt me) σ H Q):Io (Dc n caps) (tI K E ca mi) (DG K b) (Ak K (λ_=>E σ) ca mt) (tM K (λ_=>E σ) ca me) σ H Q:=by
 obtain⟨F,τ,R,S,q⟩:=h;refine⟨F,τ,R,S,?_⟩;unfold BP at q;cases hi:mi τ with
 |none=>simp only[hi]at q
 |some r =>
  simp only[hi]at q;cases r with
  |x c=>exact q
  |v ts bb =>
   intro F1 H1 J e1 its
   by_cases hz':¬ ts.length<=BE
   .simp only[hz',yep]at q
   have hz:ts.length<=BE:=Decidable.not_not.mp hz';simp only[hz,yeo]at q
   obtain⟨G,g1,g0,gs⟩:∃G:List T->AA->List T->Prop,(∀t us τ1 l,G (t::us) τ1 l->∃τ2,b t τ1=some τ2/\((∃bt,mt τ2=some (.v (.bl false) bt)/\G us τ2 l)\/(∃bt,mt τ2=some (.v (.bl true) bt)/\((∃w,me τ2=some (.v w false)/\G us τ2 (l++[w]))\/∃c,me τ2=some (.x c)/\∀F' H',Ext F H F' H' R0->E σ (ca c) none H'))\/∃c,mt τ2=some (.x c)/\∀F' H',Ext F H F' H' R0->E σ (ca c) none H')) /\
     (∀τ1 l,G [] τ1 l->∀F' H' x B,Ext F H F' H' B->Rp K F' H' (.own l) x B->Q x H')/\G ts (blk n caps τ) []:=by
    cases hg:BK b mt me ts (blk n caps τ) with
    |some res =>
     simp only[hg]at q;refine⟨λus τ1 l=>∃l2,BK b mt me us τ1=some l2/\l++l2=res,λt us τ1 l z=>?_,λτ1 l z=>?_,res,hg,rfl⟩
     .obtain⟨l2,z,e⟩:=z;obtain⟨τ2,y,w|⟨bt,w,l3,y1,y2,y3,rfl⟩⟩:=ze9 z
      .obtain⟨bt,w1,w2⟩:=w;exact⟨τ2,y,.inl ⟨bt,w1,l2,w2,e⟩⟩
      .exact⟨τ2,y,.inr (.inl ⟨bt,y1,.inl ⟨w,y2,l3,y3,by simpa using e⟩⟩)⟩
     .obtain⟨l2,z,e⟩:=z;cases z;rw[yaw]at e;subst e;exact q
    |none =>
     simp only[hg]at q;cases hx:E6 b mt me ts (blk n caps τ) with
     |none=>simp only[hx]at q
     |some c =>
      simp only[hx]at q;refine⟨λus τ1 l=>E6 b mt me us τ1=some c,λt us τ1 l z=>?_,λτ1 l z=>(by cases z),hx⟩
      obtain⟨τ2,y,w|⟨bt,y1,⟨w,y2,y3⟩|y2⟩|w⟩:=zg8 z
      .exact⟨τ2,y,.inl w⟩
      .exact⟨τ2,y,.inr (.inl ⟨bt,y1,.inl ⟨w,y2,y3⟩⟩)⟩
      .exact⟨τ2,y,.inr (.inl ⟨bt,y1,.inr ⟨c,y2,q⟩⟩)⟩
      .exact⟨τ2,y,.inr (.inr ⟨c,w,q⟩)⟩
   have S1:=S.ext e1;refine⟨λi ys st H'=>∃(F':Hp) (τ':AA) (l:List T) (Rr:Nat->Rg),Ext F1 H1 F' H' (tot Rr)/\RpO K F' H' l ys Rr/\StR K F' H' st τ' (λ_=>R0)/\i<=ts.length/\G (ts.drop i) τ' l/\l.length<=i,ts.length,by rw[<- DP];exact hz,?_,?_⟩
   .exact⟨F1,blk n caps τ,[],λ_=>R0,(Ext.refl S1.fh).mono λa ⟨_,z⟩=>z.elim,.nil,zn8 S1 n caps,yba _,gs,ya8 _⟩
   .rintro i ys st H' ⟨F',τ',l,Rr,e2,ro,S2,hle,hgo,hll⟩;have hly:=ro.len;refine⟨by omega,hle,?_⟩
    obtain⟨i1,i2⟩:=its i F' H' e2.ff e2.fh
    by_cases hlt:i<ts.length
    .refine .inr ⟨hlt,?_⟩;obtain⟨go,yld⟩:=i1 _ (ya0 hlt);refine⟨go,λx H'' y=>?_⟩
     obtain⟨F'',e3,rx⟩:=yld x H'' y;have S3:=S2.ext e3;rw[ycc hlt]at hgo;obtain⟨τ1,hb,hgo⟩:=g1 _ _ _ _ hgo;refine⟨F'',τ',_,ts[i],τ1,S3,rx,hb,λst1 R1 S4 hR1=>?_⟩
     have R1e:R1=λ_=>R0:=funext λj=>funext λa=>propext ⟨λz=>hR1 j a z,λz=>z.elim⟩
     subst R1e;refine⟨F'',τ1,_,S4,?_⟩;have eX:∀{c:Str},(∀F' H',Ext F H F' H' R0->E σ (ca c) none H')->∀F' H',Ext F'' H'' F' H' R0->E σ (ca c) none H':=λz F' H' e=>z F' H' (((e1.trans0 e2).trans (e3.trans0 e)).mono λ_ z=>z.elim)
     rcases hgo with ⟨bt,ht,hgo⟩|⟨bt,ht,hgo⟩|⟨c,ht,hX⟩
     .rw[ht];intro F4 H4 e4;exact Jk ⟨F4,τ1,l,Rr,(e2.trans ((e3.trans0 e4).mono λ_ z=>z)).mono λa z=>.inl z,(ro.ext e3).ext e4,S4.ext e4,hlt,hgo,by omega⟩
     .rw[ht];intro F4 H4 e4;have S5:=S4.ext e4;have e24:=e2.trans ((e3.trans0 e4).mono λ_ z=>z)
      refine Jj ⟨F4,τ1,_,S5,?_⟩
      rcases hgo with ⟨ve,he,hgo⟩|⟨c,he,hX⟩
      .rw[he];intro F5 H5 y B e5 ry;have ry':Rp K F5 H5 ve y B:=ry;have ro4:=(ro.ext e3).ext e4;have ro5:=ro4.ext e5;refine⟨F5,τ1,l++[ve],_,(e24.trans e5).mono ?_,ro5.snoc ry' (λj a z1 z2=>ro4.apart e5 z2 j z1),S5.ext e5,hlt,hgo,by simp;omega⟩
       intro a z
       rcases Q8 z with z|z
       .exact .inl (.inl z)
       .exact .inr z
      .rw[he];exact λF' H' e=>eX hX F' H' (e4.trans0 e)
     .rw[ht];exact eX hX
    .have hi':i=ts.length:=by omega
     subst hi';refine .inl ⟨i2 rfl,λp hp=>?_⟩
     rw[List.drop_length]at hgo;obtain⟨rl,e3⟩:=ro.list e2.fh hp;refine g0 _ _ hgo F' _ _ _ (((e1.trans0 e2).trans e3).mono ?_) rl;rintro a (z|⟨j,z⟩)
     .exact .inr z
     .exact .inl ⟨j,z⟩
structure BlkOk(X:Cx)(scope:Scope)(N':List Str)(n:Nat)(caps:List Nat):Prop where
 kind:scope.kind=.function
 names:∀y∈scope.names,y.2=.local->scope.names.lookup y.1=some .local
 len:N'.length=n+caps.length
 cap:∀(k j:Nat),caps[k]?=some j->∃y,X.N[j]?=some y/\N'[n+k]?=some y/\scope.names.lookup y=some .free/\(y,NameKind.cell)∉scope.names
 free:∀y∈scope.names,y.2=.free->scope.names.lookup y.1=some .free/\(X.env.scope.names.lookup y.1=some .cell\/X.env.scope.names.lookup y.1=some .free)
theorem NQ{env:Env}(y:Str):∀(names:List (Str×NameKind)),(names.map λ(n,k)=>if (k == NameKind.free && env.scope.kind == .function && env.kindOf n == some .cell) then (n,NameKind.cell) else (n,k)).lookup y =
  (names.lookup y).map λk=>if (k == NameKind.free && env.scope.kind == .function && env.kindOf y == some .cell) then .cell else k
 |[]=>rfl
 |(n,k)::r=>by
  rw[yae];cases hy:y == n with
  |true =>
   have e:y=n:=eq_of_beq hy;subst e
   by_cases hc:(k == NameKind.free && env.scope.kind == .function && env.kindOf y == some .cell)=true
   .simp only[hc,yeo,yay,yex,yc0]
   .simp only[hc,yay,yex,yc0];simp
  |false =>
   by_cases hc:(k == .free && env.scope.kind == .function && env.kindOf n == some .cell)=true
   .simp only[hc,yeo,yay,hy];exact NQ y r
   .simp only[hc,yay,hy];simp only[yc6,yep,yay,hy];exact NQ y r
theorem MS(scope:Scope)(env:Env)(y:Str):(relabel scope env).names.lookup y=(scope.names.lookup y).map λk=>if (k == NameKind.free && env.scope.kind == .function && env.kindOf y == some .cell) then .cell else k:=NQ y scope.names
theorem NR{y:Str}{k:NameKind}:∀{names:List (Str×NameKind)},names.lookup y=some k->(y,k)∈names:=λh=>ybx h
theorem VI{scope:Scope}{N':List Str}(B:BlkOk X scope N' n caps){pins:List (Addr×Obj)}{s:Shared}(I:Inv X pins σ H s) :
  ∃cl,closureFor scope X.env=pure cl/\(∀y c,cl.lookup y=some c->X.env.cells.lookup y=some c)/\(∀y,(relabel scope X.env).names.lookup y=some .cell\/(relabel scope X.env).names.lookup y=some .free->(y,NameKind.cell)∈scope.names\/∃c,cl.lookup y=some c) /\
   (∀(σ:L2.St) (i:Nat) (y:Str) (v:V),N'[i]?=some y->(Dc n caps σ)[i]?=some (some v)->(y,NameKind.cell)∉scope.names) /\
   (∀σ:L2.St,σ.length=X.N.length->(Dc n caps σ).length=N'.length) /\
   (∀(σ:L2.St) (i:Nat) (y:Str) (v:V),N'[i]?=some y->(Dc n caps σ)[i]?=some (some v)->((relabel scope X.env).names.lookup y=some .cell\/(relabel scope X.env).names.lookup y=some .free)/\∃j:Nat,X.N[j]?=some y/\σ[j]?=some (some v)/\C7 X.env.scope y/\X.env.kindOf y≠some .local):=by
 obtain⟨cl,h1,h2,h3⟩:=zcs scope X.env λy hy hf=>I.ok.has y.1 (B.free y hy hf).2
 have KS:∀(σ:L2.St) (i:Nat) (y:Str) (v:V),N'[i]?=some y->(Dc n caps σ)[i]?=some (some v)->∃j:Nat,X.N[j]?=some y/\σ[j]?=some (some v)/\scope.names.lookup y=some .free/\(y,NameKind.cell)∉scope.names:=by
  intro σ i y v e1 e2;unfold Dc at e2
  by_cases hi:i<n
  .rw[yax (by simpa using hi),yd3,if_pos hi]at e2
   cases e2
  .rw[yaz (by simp;omega),ya4]at e2
   simp only[ybz]at e2;cases hc:caps[i - n]? with
   |none=>rw[hc]at e2;cases e2
   |some j =>
    rw[hc]at e2;simp only[yc0]at e2;have e':KL σ j=some v:=yar e2;obtain⟨y',g1,g2,g3,g4⟩:=B.cap (i - n) j hc;have en:n+(i - n)=i:=by omega
    rw[en,e1]at g2;cases g2
    have sv:σ[j]?=some (some v):=by
     unfold KL at e';split at e'
     .rename_i v' hv;cases e';exact hv
     .cases e'
    exact⟨j,g1,sv,g3,g4⟩
 refine⟨cl,h1,h2,λy hy=>?_,λσ i y v e1 e2=>?_,λσ hσ=>by simp[Dc,B.len],λσ i y v e1 e2=>?_⟩
 .cases hk:scope.names.lookup y with
  |none =>
   rw[MS,hk]at hy
   rcases hy with hy|hy<;>cases hy
  |some k =>
   by_cases hf:k=.free
   .subst hf;exact .inr (h3 _ (NR hk) rfl)
   .rw[MS,hk]at hy;simp only[yc0]at hy;have hf':(k == NameKind.free)=false:=beq_eq_false_iff_ne.mpr hf;simp only[hf',ydp,yc6,yep]at hy
    rcases hy with hy|hy
    .cases hy;exact .inl (NR hk)
    .cases hy;exact absurd rfl hf
 .exact(KS σ i y v e1 e2).choose_spec.2.2.2
 .obtain⟨j,g1,sv,g3,g4⟩:=KS σ i y v e1 e2;have fr:=B.free _ (NR g3) rfl;refine⟨?_,j,g1,sv,?_,?_⟩
  .rw[MS,g3];simp only[yc0]
   by_cases hc2:(NameKind.free == NameKind.free && X.env.scope.kind == .function && X.env.kindOf y == some .cell)=true
   .exact .inl (by rw[if_pos hc2])
   .exact .inr (by rw[if_neg hc2])
  .rcases fr.2 with z|z
   .exact .inr (.inl z)
   .exact .inr (.inr z)
  .intro z;have z':X.env.scope.names.lookup y=some .local:=z
   rcases fr.2 with w|w
   .rw[z']at w;cases w
   .rw[z']at w;cases w
theorem r_lcV{elt iter tg:Expr}{ifs:List Expr}{scope:Scope}{pos:Pos}{N':List Str}(B:BlkOk X scope N' n caps){cq:Cx->Prop}(hc:∀pins σ H s cl C ex xb,Inv X pins σ H s->cq (Ae X scope cl N' C s H ex xb))(hi:PJ cq X tg iter (tI X.K E ca mi))
  (hps:BM X E) (hst:GK X) (hg:∀cl C s₀ H₀ ex xb E',BM (Ae X scope cl N' C s₀ H₀ ex xb) E'->PG (Ae X scope cl N' C s₀ H₀ ex xb) tg (DG X.K b)) (ht:∀cl C s₀ H₀ ex xb E',BM (Ae X scope cl N' C s₀ H₀ ex xb) E'->FQ (Ae X scope cl N' C s₀ H₀ ex xb) ifs (Ak X.K E' ca mt)) (he:∀cl C s₀ H₀ ex xb E',BM (Ae X scope cl N' C s₀ H₀ ex xb) E'->PE (Ae X scope cl N' C s₀ H₀ ex xb) elt (tM X.K E' ca me))
  (hs:∀x,foldedSetIterable iter X.env x=pure x):PE X (.ListComp elt [⟨tg,iter,ifs,0⟩] scope pos) (tM X.K E ca (BP n caps mi b mt me)):=by
 intro pins s σ H Q I h;obtain⟨cl,h1,h2,h3,h4,h5,h6⟩:=VI B I;exact zmg (Dc n caps) h1 B.kind B.names h2 h3 h4 h5 h6 hc hi hps hst (λcl C s₀ H₀ ex xb=>hg cl C s₀ H₀ ex xb _) (λcl C s₀ H₀ ex xb=>ht cl C s₀ H₀ ex xb _) (λcl C s₀ H₀ ex xb=>he cl C s₀ H₀ ex xb _) hs I (QO h)
theorem r_lcS{elt iter tg:Expr}{ifs:List Expr}{scope:Scope}{pos pos2 pos':Pos}{N':List Str}(B:BlkOk X scope N' n caps)(hc:X.calm=true)(hi:PI X tg iter (tI X.K E ca mi))
  (hps:BM X E) (hst:GK X) (hg:∀cl C s₀ H₀ ex xb E',BM (Ae X scope cl N' C s₀ H₀ ex xb) E'->PG (Ae X scope cl N' C s₀ H₀ ex xb) tg (DG X.K b)) (ht:∀cl C s₀ H₀ ex xb E',BM (Ae X scope cl N' C s₀ H₀ ex xb) E'->FQ (Ae X scope cl N' C s₀ H₀ ex xb) ifs (Ak X.K E' ca mt)) (he:∀cl C s₀ H₀ ex xb E',BM (Ae X scope cl N' C s₀ H₀ ex xb) E'->PE (Ae X scope cl N' C s₀ H₀ ex xb) elt (tM X.K E' ca me))
  (hs:∀x,foldedSetIterable iter X.env x=pure x) {i:Nat} {x:Str} (hN:X.N.Nodup) (hix:X.N[i]?=some x) (hx:X.env.scope.names.lookup x=some .local)
  (hsw:swapsWith (.ListComp elt [⟨tg,iter,ifs,0⟩] scope pos) (some (.Name x pos')) pos2.line X.env=pure true):PS X (.Assign [.Name x pos'] (.ListComp elt [⟨tg,iter,ifs,0⟩] scope pos) pos2) (λD σ H=>tM X.K E ca (BP n caps mi b mt me) σ H λv H1=>D.nx (σ.set i (some v)) H1):=by
 intro pins s σ H D I h;obtain⟨cl,h1,h2,h3,h4,h5,h6⟩:=VI B I;exact zmh (Dc n caps) h1 B.kind B.names h2 h3 h4 h5 h6 hc hi hps hst (λcl C s₀ H₀ ex xb=>hg cl C s₀ H₀ ex xb _) (λcl C s₀ H₀ ex xb=>ht cl C s₀ H₀ ex xb _) (λcl C s₀ H₀ ex xb=>he cl C s₀ H₀ ex xb _) hs hN hix hx hsw I (QO h)
end
def prT(ks:List Int)(l:List T):List T:=List.zipWith (λk t=>T.tup [.int k,t]) ks l
theorem zga{ks:List Int}{xs:List V}(h:ks.length=xs.length):(DQ ks xs).map (·.2)=xs:=by
 induction ks generalizing xs with
 |nil=>cases xs with
  |nil=>rfl
  |cons x r=>simp at h
 |cons k ks ih=>cases xs with
  |nil=>simp at h
  |cons x r =>
   have:=ih (xs:=r) (by simpa using h)
   unfold DQ at this ⊢;rw[List.zipWith_cons_cons,yae,this]
theorem TN{ks:List Int}{xs:List V}(h:ks.length=xs.length):(DQ ks xs).length=xs.length:=by
 rw[<- ya1 (f:=(·.2)),zga h]
theorem Ui{K:k6}{F H:Hp}{ks:List Int}{l:List T}{x:V}{B:Rg}(h:Rp K F H (.dic ks l) x B):∃p ob xs,x=.ref p/\F p=some (.frz ob (.dK (DQ ks xs)))/\ks.length=xs.length/\A6 K F (BD l) xs:=by
 have h':Rp K F H (T.dic ks l).share x R0:=h.share (AQ.refl F) λa u z q=>by
  cases h with
  |dic h e ek c=>exact z.elim
 rw[T.share]at h'
 clear h
 cases h' with
 |dic hp e ek c=>exact⟨_,_,_,rfl,hp,ek,e,λi t x h1 h2=>(c i t x h1 h2).any⟩
section
variable {X:Cx}{E:L2.St->XK}{ca:Str->Value}{m mk mv:AA->Option Rs}{o k v:Expr}{pos p p2 ap cp:Pos}{K:k6}{elts:List Expr}{kk:Nat}{tpos:Pos}
end
inductive Out where
 |nx (τ:AA)|rt (t:T)|bk (τ:AA)|ct (τ:AA)|xc (c:Str) (τ:AA)
structure Stp(F H:Hp)(O:Rg)(F' H':Hp)(O':Rg):Prop where
 ff:AQ F F'
 fh:AQ F' H'
 kp:∀b u,¬ O b->H b=some u->H' b=some u
 nw:∀b,O' b->O b\/H b=none
 nf:∀b u,F' b=some u->F b=some u\/O b\/H b=none
section
variable {F H F1 H1 F2 H2:Hp}{O O1 O2 B:Rg}{R:Nat->Rg}
theorem Stp.refl(s:AQ F H):Stp F H O F H O:=⟨.refl _,s,λ_ _ _ e=>e,λ_ z=>.inl z,λ_ _ e=>.inl e⟩
theorem Stp.trans(a:Stp F H O F1 H1 O1)(b:Stp F1 H1 O1 F2 H2 O2):Stp F H O F2 H2 O2 where
 ff:=a.ff.trans b.ff
 fh:=b.fh
 kp:=λx u n e=>b.kp x u (λz=>(a.nw x z).elim n λw=>by rw[e]at w;cases w) (a.kp x u n e)
 nw:=λx z=>(b.nw x z).elim (a.nw x) λw=>by
  by_cases hO:O x
  .exact .inl hO
  .cases e:H x with
   |none=>exact .inr rfl
   |some u=>rw[a.kp x u hO e]at w;cases w
 nf:=λx u e=>(b.nf x u e).elim (a.nf x u) λz=>.inr (z.elim (a.nw x) λw=>by
  by_cases hO:O x
  .exact .inl hO
  .cases e':H x with
   |none=>exact .inr rfl
   |some u'=>rw[a.kp x u' hO e']at w;cases w)
theorem Stp.mono(a:Stp F H O F1 H1 O1)(h:∀x,O2 x->O1 x):Stp F H O F1 H1 O2:=⟨a.ff,a.fh,a.kp,λx z=>a.nw x (h x z),a.nf⟩
theorem Ext.stp(e:Ext F H F1 H1 B):Stp F H O F1 H1 (λx=>O x\/B x):=⟨e.ff,e.fh,λb u _ q=>e.hh b u q,λb z=>z.elim .inl λz=>.inr (e.nb b z),λb u q=>(e.nf b u q).elim .inl λz=>.inr (.inr z)⟩
theorem Ext.stp0(e:Ext F H F1 H1 B):Stp F H O F1 H1 O:=e.stp.mono λ_ z=>.inl z
end
section
def Wr(K:k6)(mu:Bool)(F H:Hp)(t:T)(x:V)(B:Rg):Prop:=match mu with
 |false=>Rp K F H t x B
 |true=>∃v q l,t=.own [v,.nd true (.pin q) l]/\v.flat=true/\Rp K F H v x R0/\Rp K F H (.nd true (.pin q) l) (.ref q) B
def tS(K:k6)(E:L2.St->XK)(ca:Str->Value)(mu:Bool)(m:AA->Option Out):TS:=λD σ H=>∃F τ R,StR K F H σ τ R/\match m τ with
 |some (.nx τ')=>∀F' H' σ' R',Stp F H (tot R) F' H' (tot R')->StR K F' H' σ' τ' R'->D.nx σ' H'
 |some (.bk τ')=>∀F' H' σ' R',Stp F H (tot R) F' H' (tot R')->StR K F' H' σ' τ' R'->D.bk σ' H'
 |some (.ct τ')=>∀F' H' σ' R',Stp F H (tot R) F' H' (tot R')->StR K F' H' σ' τ' R'->D.ct σ' H'
 |some (.rt t)=>∀F' H' x B,Stp F H (tot R) F' H' B->Wr K mu F' H' t x B->D.rt x H'
 |some (.xc c τ')=>∀F' H' σ' R',Stp F H (tot R) F' H' (tot R')->StR K F' H' σ' τ' R'->E σ' (ca c) none H'
 |none=>False
end
def AG(m n:AA->Option Out):AA->Option Out:=λτ=>match m τ with
 |some (.nx τ')=>n τ'
 |r=>r
def Ap:AA->Option Out:=λτ=>some (.nx τ)
def JN:AA->Option Out:=λ_=>none
def MI:AA->Option Out:=λτ=>some (.bk τ)
def MH:AA->Option Out:=λτ=>some (.ct τ)
def Eu(m:AA->Option Rs):AA->Option Out:=λτ=>match m τ with
 |some (.v _ _)=>some (.nx τ)
 |some (.x c)=>some (.xc c τ)
 |none=>none
def A8(m:AA->Option Rs):AA->Option Out:=λτ=>match m τ with
 |some (.v t _)=>some (.rt t)
 |some (.x c)=>some (.xc c τ)
 |none=>none
def MG:AA->Option Out:=λ_=>some (.rt .non)
noncomputable def Ad(m:AA->Option Rs)(b:T->AA->Option AA):AA->Option Out:=λτ=>match m τ with
 |some (.v t false)=>(match b t.share τ with
  |some τ'=>some (.nx τ')
  |none=>none)
 |some (.v _ true)=>none
 |some (.x c)=>some (.xc c τ)
 |none=>none
noncomputable def CI(i:Nat)(m:AA->Option Rs):AA->Option Out:=λτ=>match m τ with
 |some (.v t false)=>if i<τ.length then some (.nx (τ.set i (some t))) else none
 |some (.v _ true)=>none
 |some (.x c)=>some (.xc c τ)
 |none=>none
noncomputable def DH(i:Nat):AA->Option Out:=λτ=>match τ[i]? with
 |some (some t)=>some (.nx (τ.set i (some t.share)))
 |_=>some (.nx τ)
def Ar(c:AA->Option Rs)(a b:AA->Option Out):AA->Option Out:=λτ=>match c τ with
 |some (.v (.bl true) _)=>a τ
 |some (.v (.bl false) _)=>b τ
 |some (.x c)=>some (.xc c τ)
 |_=>none
noncomputable def B8(b:T->AA->Option AA)(body:AA->Option Out):List T->AA->Option Out
 |[],τ=>some (.nx τ)
 |t::ts,τ=>(match b t τ with
  |some τ1=>(match body τ1 with
   |some (.nx τ2)=>B8 b body ts τ2
   |some (.ct τ2)=>B8 b body ts τ2
   |some (.bk τ2)=>some (.nx τ2)
   |r=>r)
  |none=>none)
def BX(mi:AA->Option RsL)(b:T->AA->Option AA)(body:AA->Option Out):AA->Option Out:=λτ=>match mi τ with
 |some (.v ts _)=>B8 b body ts τ
 |some (.x c)=>some (.xc c τ)
 |none=>none
section
variable {mu:Bool}{X:Cx}{E:L2.St->XK}{ca:Str->Value}{σ:L2.St}{H:Hp}{K:k6}{m mk mc:AA->Option Rs}{ms mi:AA->Option RsL}{b:T->AA->Option AA}{u w:AA->Option Out}{D:Ends}{e c tg iter:Expr}{st:Stmt}{As body sa sb:List Stmt}{pos pos':Pos}
theorem PS.weak{t t':TS}(h:PS X st t)(w:∀D σ H,t' D σ H->t D σ H):PS X st t':=λpins s σ H D I q=>h pins s σ H D I (w D σ H q)
theorem BC.weak{t t':TS}(h:BC X As t)(w:∀D σ H,t' D σ H->t D σ H):BC X As t':=λpins s σ H D I q=>h pins s σ H D I (w D σ H q)
theorem zk3(h:tS K E ca mu (AG u w) D σ H):QH (tS K E ca mu u) (tS K E ca mu w) D σ H:=by
 obtain⟨F,τ,R,S,q⟩:=h;refine⟨F,τ,R,S,?_⟩;unfold AG at q;cases hm:u τ with
 |none=>simp only[hm]at q
 |some o =>
  simp only[hm]at q;cases o with
  |nx τ' =>
   intro F1 H1 σ1 R1 s1 S1;refine⟨F1,τ',R1,S1,?_⟩;simp only at q;cases hw:w τ' with
   |none=>simp only[hw]at q
   |some o =>
    simp only[hw]at q;cases o with
    |nx _=>exact λF' H' σ' R' s S=>q F' H' σ' R' (s1.trans s) S
    |bk _=>exact λF' H' σ' R' s S=>q F' H' σ' R' (s1.trans s) S
    |ct _=>exact λF' H' σ' R' s S=>q F' H' σ' R' (s1.trans s) S
    |rt _=>exact λF' H' x B s r=>q F' H' x B (s1.trans s) r
    |xc _ _=>exact λF' H' σ' R' s S=>q F' H' σ' R' (s1.trans s) S
  |rt _=>exact q
  |bk _=>exact q
  |ct _=>exact q
  |xc _ _=>exact q
theorem s_nil:BC X [] (tS X.K E ca mu Ap):=BC.weak zho λD σ H h=>by
 obtain⟨F,τ,R,S,q⟩:=h;exact q F H σ R (Stp.refl S.fh) S
theorem Qh(h1:PS X st (tS X.K E ca mu u))(h2:BC X As (tS X.K E ca mu w)):BC X (st::As) (tS X.K E ca mu (AG u w)):=BC.weak (zfo h1 h2) λD σ H h=>zk3 h
theorem Qe(h1:PS X st (tS X.K E ca mu u)):BC X [st] (tS X.K E ca mu u):=zhn h1
theorem Qf:PS X st (tS X.K E ca mu JN):=λpins s σ H D I h=>by
 obtain⟨_,_,_,_,q⟩:=h;exact q.elim
theorem zkl:PS X (.Pass pos) (tS X.K E ca mu Ap):=PS.weak zhq λD σ H h=>by
 obtain⟨F,τ,R,S,q⟩:=h;exact q F H σ R (Stp.refl S.fh) S
theorem zhc:PS X (.Break pos) (tS X.K E ca mu MI):=PS.weak zfq λD σ H h=>by
 obtain⟨F,τ,R,S,q⟩:=h;exact q F H σ R (Stp.refl S.fh) S
theorem zd6:PS X (.Continue pos) (tS X.K E ca mu MH):=PS.weak zck λD σ H h=>by
 obtain⟨F,τ,R,S,q⟩:=h;exact q F H σ R (Stp.refl S.fh) S
theorem zk5{i:Nat}(h:tS K E ca mu (AG (DH i) w) D σ H):tS K E ca mu w D σ H:=by
 obtain⟨F,τ,R,S,q⟩:=h;unfold AG DH at q;cases ht:τ[i]? with
 |none =>
  rw[ht]at q;exact⟨F,τ,R,S,q⟩
 |some ot =>
  rw[ht]at q;cases ot with
  |none=>exact⟨F,τ,R,S,q⟩
  |some t =>
   simp only at q;obtain⟨x,ex,r⟩:=S.rep i t ht;have hi:i<τ.length:=(ya5.mp ht).1;have n:∀a,R i a->F a=none:=λa z=>(r.dom z).1
   have S0:StR K (frz F H (R i)) H σ (τ.set i (some t.share)) (λj=>if j=i then R0 else R j):=by
    refine⟨Gb S.fh,by simpa using S.len,λj t' e=>?_,λj a z=>?_,λj k a hjk z1 z2=>?_⟩
    .by_cases hj:j=i
     .subst hj;rw[yam hi]at e;cases e;exact⟨x,ex,by simpa using r.share (DY n) λa u z q=>by rw[Ea z];exact q⟩
     .rw[yan (yb1 hj)]at e;obtain⟨y,e1,r1⟩:=S.rep j t' e;refine⟨y,e1,?_⟩;simp only[hj,yep]
      exact r1.frame (DY n) λa z=>⟨rfl,by
       rw[Du (λz'=>S.dis j i a hj z z')]
       exact(r1.dom z).1⟩
    .by_cases hj:j=i
     .simp only[hj,yeo]at z;exact z.elim
     .simp only[hj,yep]at z;obtain⟨t',e⟩:=S.out j a z;exact⟨t',by rw[yan (yb1 hj)];exact e⟩
    .by_cases hj:j=i
     .simp only[hj,yeo]at z1;exact z1.elim
     .by_cases hk:k=i
      .simp only[hk,yeo]at z2;exact z2.elim
      .simp only[hj,yep]at z1;simp only[hk,yep]at z2;exact S.dis j k a hjk z1 z2
   have st0:Stp F H (tot R) (frz F H (R i)) H (tot λj=>if j=i then R0 else R j):=by
    refine⟨DY n,Gb S.fh,λ_ _ _ e=>e,λb ⟨j,z⟩=>?_,λb u e=>?_⟩
    .by_cases hj:j=i
     .simp only[hj,yeo]at z;exact z.elim
     .simp only[hj,yep]at z;exact .inl ⟨j,z⟩
    .by_cases hb:R i b
     .exact .inr (.inl ⟨i,hb⟩)
     .rw[Du hb]at e;exact .inl e
   refine⟨_,_,_,S0,?_⟩;cases hw:w (τ.set i (some t.share)) with
   |none=>simp only[hw]at q
   |some o =>
    simp only[hw]at q;cases o with
    |nx _=>exact λF' H' σ' R' s S=>q F' H' σ' R' (st0.trans s) S
    |bk _=>exact λF' H' σ' R' s S=>q F' H' σ' R' (st0.trans s) S
    |ct _=>exact λF' H' σ' R' s S=>q F' H' σ' R' (st0.trans s) S
    |rt _=>exact λF' H' x B s r=>q F' H' x B (st0.trans s) r
    |xc _ _=>exact λF' H' σ' R' s S=>q F' H' σ' R' (st0.trans s) S
theorem s_frz{i:Nat}(h:BC X As (tS X.K E ca mu w)):BC X As (tS X.K E ca mu (AG (DH i) w)):=BC.weak h λD σ H h=>zk5 h
theorem s_exp(he:PE X e (tM X.K E ca m))(hs:swapsWith e none pos.line X.env=pure false):PS X (.Expr e pos) (tS X.K E ca mu (Eu m)):=by
 refine PS.weak (JS he hs) λD σ H h=>?_
 obtain⟨F,τ,R,S,q⟩:=h;refine⟨F,τ,R,S,?_⟩;unfold Eu at q;cases hm:m τ with
 |none=>simp only[hm]at q
 |some r =>
  simp only[hm]at q;cases r with
  |x c=>exact λF' H' e=>q F' H' σ R e.stp0 (S.ext e)
  |v t bb=>exact λF' H' x B e g=>q F' H' σ R e.stp0 (S.ext e)
theorem s_ret(he:PE X e (tM X.K E ca m)):PS X (.Return (some e) pos) (tS X.K E ca false (A8 m)):=by
 refine PS.weak (zl5 he) λD σ H h=>?_
 obtain⟨F,τ,R,S,q⟩:=h;refine⟨F,τ,R,S,?_⟩;unfold A8 at q;cases hm:m τ with
 |none=>simp only[hm]at q
 |some r =>
  simp only[hm]at q;cases r with
  |x c=>exact λF' H' e=>q F' H' σ R e.stp0 (S.ext e)
  |v t bb =>
   intro F' H' x B e g;cases bb with
   |false=>exact q F' H' x B (e.stp.mono λ_ z=>.inr z) g
   |true =>
    obtain⟨_,A,hA,r⟩:=g;exact q F' H' x A (e.stp.mono λa z=>.inl (hA a z)) r
theorem zkk:PS X (.Return none pos) (tS X.K E ca false MG):=PS.weak zhp λD σ H h=>by
 obtain⟨F,τ,R,S,q⟩:=h;exact q F H .non R0 ((Stp.refl S.fh).mono λ_ z=>z.elim) .non
theorem s_if(hc:PT X c (Ak X.K E ca mc))(ha:BC X sa (tS X.K E ca mu u))(hb:BC X sb (tS X.K E ca mu w)):PS X (.If c sa sb pos) (tS X.K E ca mu (Ar mc u w)):=by
 refine PS.weak (ps_if hc ha hb) λD σ H h=>?_
 obtain⟨F,τ,R,S,q⟩:=h;refine⟨F,τ,R,S,?_⟩;unfold Ar at q;cases hm:mc τ with
 |none=>simp only[hm]at q
 |some r =>
  simp only[hm]at q;cases r with
  |x c=>exact λF' H' e=>q F' H' σ R e.stp0 (S.ext e)
  |v t bb =>
   cases t with
   |bl k =>
    intro F1 H1 e1;have S1:=S.ext e1
    have key:∀{mm:AA->Option Out},(match mm τ with
      |some (.nx τ')=>∀F' H' σ' R',Stp F H (tot R) F' H' (tot R')->StR X.K F' H' σ' τ' R'->D.nx σ' H'
      |some (.bk τ')=>∀F' H' σ' R',Stp F H (tot R) F' H' (tot R')->StR X.K F' H' σ' τ' R'->D.bk σ' H'
      |some (.ct τ')=>∀F' H' σ' R',Stp F H (tot R) F' H' (tot R')->StR X.K F' H' σ' τ' R'->D.ct σ' H'
      |some (.rt t)=>∀F' H' x B,Stp F H (tot R) F' H' B->Wr X.K mu F' H' t x B->D.rt x H'
      |some (.xc c τ')=>∀F' H' σ' R',Stp F H (tot R) F' H' (tot R')->StR X.K F' H' σ' τ' R'->E σ' (ca c) none H'
      |none=>False)->tS X.K E ca mu mm D σ H1:=λ{mm} q=>by
     refine⟨F1,τ,R,S1,?_⟩;cases hr:mm τ with
     |none=>simp only[hr]at q
     |some o =>
      simp only[hr]at q;cases o with
      |nx _=>exact λF' H' σ' R' s S=>q F' H' σ' R' (e1.stp0.trans s) S
      |bk _=>exact λF' H' σ' R' s S=>q F' H' σ' R' (e1.stp0.trans s) S
      |ct _=>exact λF' H' σ' R' s S=>q F' H' σ' R' (e1.stp0.trans s) S
      |rt _=>exact λF' H' x B s r=>q F' H' x B (e1.stp0.trans s) r
      |xc _ _=>exact λF' H' σ' R' s S=>q F' H' σ' R' (e1.stp0.trans s) S
    cases k with
    |true=>exact Jj (key q)
    |false=>exact Jk (key q)
   |_=>exact q.elim
theorem LN{g:TG}(hg:∀v σ H Q,DG K b v σ H Q->g v σ H Q)(h:tS K E ca mu (Ad m b) D σ H):Ip (tM K E ca m) g D σ H:=by
 obtain⟨F,τ,R,S,q⟩:=h;refine⟨F,τ,R,S,?_⟩;unfold Ad at q;cases hm:m τ with
 |none=>simp only[hm]at q
 |some r =>
  simp only[hm]at q;cases r with
  |x c=>exact λF' H' e=>q F' H' σ R e.stp0 (S.ext e)
  |v t bb =>
   cases bb with
   |true=>exact q.elim
   |false =>
    intro F1 H1 x B e1 g1;obtain⟨F2,e2,_,r2⟩:=Cs.frz (b:=false) S e1 g1;simp only at q;cases hb:b t.share τ with
    |none=>simp only[hb]at q
    |some τ' =>
     simp only[hb]at q;refine hg _ _ _ _ ⟨F2,τ,R,t.share,τ',S.ext e2,(show Rp K F2 F2 t.share x R0 from r2).any,hb,λσ' R' S' hR=>?_⟩
     exact q F2 H1 σ' R' (e2.stp0.mono λa ⟨i,z⟩=>⟨i,hR i a z⟩) S'
theorem UR{i:Nat}{v:V}{Q:L2.St->Hp->Prop}(h:DG K (AD i) v σ H Q):Hq i v σ H Q:=by
 obtain⟨F,τ,R,t,τ',S,r,e,q⟩:=h;unfold AD at e;split at e
 .cases e;rename_i hl;refine q _ _ (S.set r (λ_ _ _ _ z=>z.elim) hl) λj a z=>?_
  by_cases hj:j=i
  .simp only[hj,yeo]at z;exact z.elim
  .simpa[hj] using z
 .cases e
theorem zki{i:Nat}{x:Str}(hN:X.N.Nodup)(hi:X.N[i]?=some x)(hx:FR X.env.scope x)(he:PE X e (tM X.K E ca m))(hs:swapsWith e (some (.Name x pos')) pos.line X.env=pure false)(hf:X.fn x=true\/X.env.scope.names.lookup x=some .local) :
  PS X (.Assign [.Name x pos'] e pos) (tS X.K E ca mu (Ad m (AD i))):=PS.weak (RH hN hi hx he hs hf) λD σ H h=>LN (λ_ _ _ _ z=>UR z) h
theorem zkj(he:PE X e (tM X.K E ca m))(hg:PG X tg (DG X.K b))(hs:swapsWithSole [tg] e pos.line X.env=pure false)(hw:swappedStores [tg] e X.env=pure none)(h1:(assignEach [tg] X.env).map (·.2)=[assign tg X.env]) :
  PS X (.Assign [tg] e pos) (tS X.K E ca mu (Ad m b)):=PS.weak (MW he hg hs hw h1) λD σ H h=>LN (λ_ _ _ _ z=>z) h
theorem QI{i:Nat}(h:tS K E ca mu (CI i m) D σ H):Ip (tM K E ca m) (Hq i) D σ H:=by
 obtain⟨F,τ,R,S,q⟩:=h;refine⟨F,τ,R,S,?_⟩;unfold CI at q;cases hm:m τ with
 |none=>simp only[hm]at q
 |some r =>
  simp only[hm]at q;cases r with
  |x c=>exact λF' H' e=>q F' H' σ R e.stp0 (S.ext e)
  |v t bb =>
   cases bb with
   |true=>exact q.elim
   |false =>
    intro F1 H1 x B e1 g1;have g1':Rp K F1 H1 t x B:=g1;have S1:=S.ext e1
    by_cases hl:i<τ.length
    .simp only[hl,yeo]at q;refine q F1 H1 _ _ (e1.stp.mono ?_) (S1.set g1' (λj a _ z1 z2=>S.apart e1 z2 j z1) hl)
     rintro a ⟨j,z⟩
     by_cases hj:j=i
     .simp only[hj,yeo]at z;exact .inr z
     .simp only[hj,yep]at z;exact .inl ⟨j,z⟩
    .simp only[hl,yep]at q
theorem zkm{i:Nat}{x:Str}(hN:X.N.Nodup)(hi:X.N[i]?=some x)(hx:FR X.env.scope x)(he:PE X e (tM X.K E ca m))(hs:swapsWith e (some (.Name x pos')) pos.line X.env=pure false)(hf:X.fn x=true\/X.env.scope.names.lookup x=some .local) :
  PS X (.Assign [.Name x pos'] e pos) (tS X.K E ca mu (CI i m)):=PS.weak (RH hN hi hx he hs hf) λD σ H h=>QI h
theorem s_for(hp:PassesOwn (model X.prog X.w) X.A X.env X.xe)(hc:X.calm=true)(hi:PI X tg iter (tI X.K E ca mi))(hg:PG X tg (DG X.K b))(hb:BC X body (tS X.K E ca mu u))(hs:∀x,foldedSetIterable iter X.env x=pure x) :
  PS X (.For tg iter body [] pos) (tS X.K E ca mu (BX mi b u)):=by
 refine PS.weak (zl6 hp hc hi hg hb hs) λD σ H h=>?_
 obtain⟨F,τ,R,S,q⟩:=h;refine⟨F,τ,R,S,?_⟩;unfold BX at q;cases hm:mi τ with
 |none=>simp only[hm]at q
 |some r =>
  simp only[hm]at q;cases r with
  |x c=>exact λF' H' e=>q F' H' σ R e.stp0 (S.ext e)
  |v ts bb =>
   intro F1 H1 J e1 its;simp only at q;have S1:=S.ext e1;cases hg:B8 b u ts τ with
   |none=>simp only[hg]at q
   |some out =>
    simp only[hg]at q;refine⟨λi mm σ' H'=>mm=ts.length - i/\i<=ts.length/\∃F' τ' R',Stp F H (tot R) F' H' (tot R')/\AQ F1 F'/\StR X.K F' H' σ' τ' R'/\B8 b u (ts.drop i) τ'=some out,⟨ts.length,by simp,yba _,F1,τ,R,e1.stp0,.refl _,S1,by simpa using hg⟩,?_⟩
    rintro i mm σ' H' ⟨rfl,hle,F',τ',R',st,sf,S',hgo⟩;obtain⟨i1,i2⟩:=its i F' H' sf S'.fh
    by_cases hlt:i<ts.length
    .refine .inr ⟨(i1 _ (ya0 hlt)).1,λσ2 H2=>i+1<=ts.length/\∃F2 τ2 R2,Stp F H (tot R) F2 H2 (tot R2)/\AQ F1 F2/\StR X.K F2 H2 σ2 τ2 R2/\B8 b u (ts.drop (i+1)) τ2=some out,λσ2 H2 n2=>⟨ts.length - (i+1),by omega,rfl,n2⟩,λx H'' y=>?_⟩
     obtain⟨F'',e3,rx⟩:=(i1 _ (ya0 hlt)).2 x H'' y;have S3:=S'.ext e3;rw[ycc hlt]at hgo;unfold B8 at hgo;cases hb2:b ts[i] τ' with
     |none=>simp only[hb2]at hgo;cases hgo
     |some τ1 =>
      simp only[hb2]at hgo;refine⟨F'',τ',R',ts[i],τ1,S3,rx,hb2,λσ3 R3 S4 hR3=>?_⟩
      have st3:Stp F H (tot R) F'' H'' (tot R3):=(st.trans e3.stp0).mono λa ⟨j,z⟩=>⟨j,hR3 j a z⟩
      refine⟨F'',τ1,R3,S4,?_⟩;cases hu:u τ1 with
      |none=>simp only[hu]at hgo;cases hgo
      |some o =>
       simp only[hu]at hgo;cases o with
       |nx τ2=>exact λF4 H4 σ4 R4 s4 S5=>⟨hlt,F4,τ2,R4,st3.trans s4,(sf.trans e3.ff).trans s4.ff,S5,hgo⟩
       |ct τ2=>exact λF4 H4 σ4 R4 s4 S5=>⟨hlt,F4,τ2,R4,st3.trans s4,(sf.trans e3.ff).trans s4.ff,S5,hgo⟩
       |bk τ2 =>
        cases hgo;exact λF4 H4 σ4 R4 s4 S5=>q F4 H4 σ4 R4 (st3.trans s4) S5
       |rt v =>
        cases hgo;exact λF4 H4 x B s4 r=>q F4 H4 x B (st3.trans s4) r
       |xc cc τ2 =>
        cases hgo;exact λF4 H4 σ4 R4 s4 S5=>q F4 H4 σ4 R4 (st3.trans s4) S5
    .have hi':i=ts.length:=by omega
     subst hi';refine .inl ⟨i2 rfl,?_⟩;rw[List.drop_length]at hgo;unfold B8 at hgo;cases hgo;exact q F' H' σ' R' st S'
end
section
variable {K:k6}{F H:Hp}{l:List T}{xs:List V}{Rr:Nat->Rg}{p:Addr}{o:HO}
theorem Rp.own_inv{x:V}{A:Rg}{k:Kd}(h:Rp K F H (.nd true k l) x A):∃p xs Rr,x=.ref p/\A=(λa=>a=p\/∃j,Rr j a)/\F p=none/\H p=some (.lst xs)/\RpO K F H l xs Rr/\(∀j,¬ Rr j p)/\Gv k p:=by
 cases h with
 |own hk R f h e c d dp o=>exact⟨_,_,R,rfl,rfl,f,h,⟨e,c,d,o⟩,dp,hk⟩
theorem HZ{k:Kd}(hk:Gv k p)(r:RpO K F H l xs Rr)(f:F p=none)(h:H p=some (.lst xs))(dp:∀j,¬ Rr j p):Rp K F H (.nd true k l) (.ref p) (λa=>a=p\/∃j,Rr j a):=.own hk Rr f h r.len r.rep r.dis dp r.out
theorem RpO.upd(r:RpO K F H l xs Rr)(dp:∀j,¬ Rr j p):RpO K F (L2.upd H p o) l xs Rr:=⟨r.len,λi t x h1 h2=>(r.rep i t x h1 h2).frame (.refl _) λa z=>⟨Aj (λe=>dp i (e▸z)),(r.dom z).1⟩,r.dis,r.out⟩
theorem Rp.upd{t:T}{x:V}{A:Rg}(r:Rp K F H t x A)(dp:¬ A p):Rp K F (L2.upd H p o) t x A:=r.frame (.refl _) λa z=>⟨Aj (λe=>dp (e▸z)),(r.dom z).1⟩
theorem RpO.set(r:RpO K F H l xs Rr){j0:Nat}{t:T}{y:V}{B:Rg}(hj:j0<l.length)(rt:Rp K F H t y B)(d:∀j a,j≠j0->Rr j a->¬ B a):RpO K F H (l.set j0 t) (xs.set j0 y) (λj=>if j=j0 then B else Rr j):=by
 have hl:=r.len;refine⟨by simp[hl],λi t' x' h1 h2=>?_,λi k a hik z1 z2=>?_,λi a z=>?_⟩
 .by_cases hi:i=j0
  .subst hi;rw[yam hj]at h1;rw[yam (by omega)]at h2
   cases h1;cases h2
   simpa using rt
  .rw[yan (yb1 hi)]at h1 h2
   simpa[hi] using r.rep i t' x' h1 h2
 .by_cases hi:i=j0
  .simp only[hi,yeo]at z1;have hk:¬ k=j0:=λz=>hik (hi.trans z.symm)
   simp only[hk,yep]at z2;exact d k a hk z2 z1
  .simp only[hi,yep]at z1
   by_cases hk:k=j0
   .simp only[hk,yeo]at z2;exact d i a hi z1 z2
   .simp only[hk,yep]at z2;exact r.dis i k a hik z1 z2
 .by_cases hi:i=j0
  .simp[hi];omega
  .simp only[hi,yep]at z
   simpa using r.out i a z
variable {σ:L2.St}{τ:AA}{R:Nat->Rg}
theorem StR.upd(S:StR K F H σ τ R){i:Nat}{t t':T}{x:V}{A' B:Rg}(ht:τ[i]?=some (some t))(hx:σ[i]?=some (some x))(hp:R i p)(r':Rp K F (L2.upd H p o) t' x A')(hA:∀a,A' a->R i a\/B a)(hB:∀j a,R j a->¬ B a) :
  StR K F (L2.upd H p o) σ (τ.set i (some t')) (λj=>if j=i then A' else R j)/\Stp F H (λa=>Pu.tot R a\/B a) F (L2.upd H p o) (Pu.tot λj=>if j=i then A' else R j):=by
 have fp:F p=none:=(S.dom hp).1;have hi:i<τ.length:=(ya5.mp ht).1
 have fh':AQ F (L2.upd H p o):=λb u e=>by
  rw[Aj (λz=>by rw[z,fp]at e;cases e)]
  exact S.fh b u e
 refine⟨⟨fh',by simpa using S.len,λj t1 e=>?_,λj a z=>?_,λj k a hjk z1 z2=>?_⟩,⟨.refl _,fh',λb u n e=>?_,λb ⟨j,z⟩=>?_,λb u e=>.inl e⟩⟩
 .by_cases hj:j=i
  .subst hj;rw[yam hi]at e;cases e;exact⟨x,hx,by simpa using r'⟩
  .rw[yan (yb1 hj)]at e;obtain⟨y,e1,r1⟩:=S.rep j t1 e;exact⟨y,e1,by simpa[hj] using r1.upd (o:=o) (λz=>S.dis j i p hj z hp)⟩
 .by_cases hj:j=i
  .subst hj;exact⟨t',yam hi⟩
  .simp only[hj,yep]at z;obtain⟨t1,e⟩:=S.out j a z;exact⟨t1,by rw[yan (yb1 hj)];exact e⟩
 .by_cases hj:j=i
  .simp only[hj,yeo]at z1;have hk:¬ k=i:=λz=>hjk (hj.trans z.symm)
   simp only[hk,yep]at z2
   rcases hA a z1 with w|w
   .exact S.dis i k a (yb1 hk) w z2
   .exact hB k a z2 w
  .simp only[hj,yep]at z1
   by_cases hk:k=i
   .simp only[hk,yeo]at z2
    rcases hA a z2 with w|w
    .exact S.dis i j a (yb1 hj) w z1
    .exact hB j a z1 w
   .simp only[hk,yep]at z2;exact S.dis j k a hjk z1 z2
 .rw[Aj (λz=>n (.inl (by rw[z];exact⟨i,hp⟩)))]
  exact e
 .by_cases hj:j=i
  .simp only[hj,yeo]at z
   rcases hA b z with w|w
   .exact .inl (.inl ⟨i,w⟩)
   .exact .inl (.inr w)
  .simp only[hj,yep]at z;exact .inl (.inl ⟨j,z⟩)
end
def DV(τ:AA)(i:Nat):Option (Kd×List T):=match τ[i]? with
 |some (some (.nd true k l))=>some (k,l)
 |_=>none
theorem JX{τ:AA}{i:Nat}{k:Kd}{l:List T}(h:DV τ i=some (k,l)):τ[i]?=some (some (.nd true k l)):=by
 unfold DV at h;split at h
 .rename_i k' l' e;cases h;exact e
 .cases h
def Df(i:Nat)(m:AA->Option Rs):AA->Option Out:=λτ=>match DV τ i with
 |some (kd,l)=>(match m τ with
  |some (.v t false)=>if l.length<BE then some (.nx (τ.set i (some (.nd true kd (l++[t]))))) else none
  |some (.v _ true)=>none
  |some (.x c)=>some (.xc c τ)
  |none=>none)
 |none=>none
def HW(i:Nat):AA->Option Out:=λτ=>match DV τ i with
 |some (kd,_)=>some (.nx (τ.set i (some (.nd true kd []))))
 |none=>none
def EB(i:Nat)(m:AA->Option Rs):AA->Option Out:=λτ=>match DV τ i with
 |some (kd,l)=>(match m τ with
  |some (.v (.nd _ .lst r) false)=>if l.length+r.length<=BE then some (.nx (τ.set i (some (.nd true kd (l++BD r))))) else none
  |some (.v _ _)=>none
  |some (.x c)=>some (.xc c τ)
  |none=>none)
 |none=>none
def HU(i:Nat)(mk m:AA->Option Rs):AA->Option Out:=λτ=>match m τ with
 |some (.v t false)=>(match DV τ i with
  |some (kd,l)=>(match mk τ with
   |some (.v (.int k) _)=>(match CU l.length k with
    |some j=>some (.nx (τ.set i (some (.nd true kd (l.set j t)))))
    |none=>none)
   |some (.v _ _)=>none
   |some (.x c)=>some (.xc c τ)
   |none=>none)
  |none=>none)
 |some (.v _ true)=>none
 |some (.x c)=>some (.xc c τ)
 |none=>none
def zlp:Option T->Option (List T)
 |some (.nd true .lst l)=>some l
 |_=>none
section
variable {mu:Bool}{X:Cx}{E:L2.St->XK}{ca:Str->Value}{σ:L2.St}{H:Hp}{K:k6}{m mk mn:AA->Option Rs}{D:Ends}{e k n:Expr}{pos apos cpos p1 pos2 pos3:Pos}{i:Nat}{x:Str}
theorem zj6{F:Hp}{R:Nat->Rg}{j:Int}{b:Bool}{y:V}{B:Rg}(g:Cs K F H R (.int j) b y B):y=.int j:=by
 cases b with
 |true=>obtain⟨_,A,_,r⟩:=g;exact r.int_inv
 |false=>exact(show Rp K F H _ _ _ from g).int_inv
theorem Q7{l:List T}{Rr:Nat->Rg}{B:Rg}{a:Addr}(h:∃j,(λj=>if j=l.length then B else Rr j) j a):(∃j,Rr j a)\/B a:=Q8 (l:=l) h
theorem zh9{j0:Nat}{Rr:Nat->Rg}{B:Rg}{a:Addr}(h:∃j,(λj=>if j=j0 then B else Rr j) j a):(∃j,Rr j a)\/B a:=by
 obtain⟨j,z⟩:=h
 by_cases hj:j=j0
 .simp only[hj,yeo]at z;exact .inr z
 .simp only[hj,yep]at z;exact .inl ⟨j,z⟩
theorem s_app(hN:X.N[i]?=some x)(hv:C7 X.env.scope x)(hd:(x == ("__debug__":Str))=false)(hcd:(x == ("__classdict__":Str))=false)(he:PE X e (tM X.K E ca m))(hs:starEach [e] X.env=[(false,eval e X.env)])(hline:(apos.endLine == cpos.line)=true) :
  PS X (.Expr (.Call (.Attribute (.Name x p1) "append" apos) [e] [] cpos) pos) (tS X.K E ca mu (Df i m)):=by
 refine PS.weak (JS (JV yd4 PySem.F.slot_list_append PySem.F.type_list_append ze5 (FA hN hv hd hcd) (DU he EI hs) rfl (by rw[hs];rfl) hline hs rfl) rfl) λD σ H h=>?_
 obtain⟨F,τ,R,S,q⟩:=h;unfold Df at q;cases ho:DV τ i with
 |none=>simp only[ho]at q
 |some kl =>
  obtain⟨kd,l⟩:=kl;simp only[ho]at q;have ht:=JX ho;obtain⟨y,ey,ry⟩:=S.rep i _ ht;obtain⟨p,xs,Rr,rfl,hA,fp,hp,ro,dp,hOw⟩:=ry.own_inv;refine⟨_,ey,.inl ⟨rfl,xs,AS.of hp⟩,F,τ,R,S,?_⟩;cases hm:m τ with
  |none=>simp only[hm]at q
  |some r =>
   simp only[hm]at q;cases r with
   |x c=>exact λF' H' e=>q F' H' σ R e.stp0 (S.ext e)
   |v t bb =>
    cases bb with
    |true=>exact q.elim
    |false =>
     intro F1 H1 y B e1 g1;have g1':Rp X.K F1 H1 t y B:=g1
     by_cases hz:l.length<BE
     .simp only[hz,yeo]at q;have S1:=S.ext e1;have ro1:=ro.ext e1;have hp1:=e1.hh _ _ hp;have pB:¬ B p:=λz=>by rw[e1.nb p z]at hp;cases hp
      have fp1:F1 p=none:=(ry.ext e1 |>.dom (by rw[hA];exact .inl rfl)).1
      refine⟨p,xs,y,rfl,rfl,hp1,by rw[<- ro.len,<- DP];exact hz,?_⟩
      have ro2:RpO X.K F1 (upd H1 p (.lst (xs++[y]))) (l++[t]) (xs++[y]) _:=(ro1.upd dp).snoc (g1'.upd pB) λj a z1 z2=>ro.apart e1 z2 j z1
      have dp2:∀j,¬ (if j=l.length then B else Rr j) p:=λj z=>by
       by_cases hj:j=l.length
       .simp only[hj,yeo]at z;exact pB z
       .simp only[hj,yep]at z;exact dp j z
      have r2:=HZ hOw ro2 fp1 Br dp2
      obtain⟨S3,st3⟩:=S1.upd ht ey (by rw[hA];exact .inl rfl) r2 (B:=B) (λa z=>by
       rw[hA]
       rcases z with z|z
       .exact .inl (.inl z)
       .rcases Q7 z with w|w
        .exact .inl (.inr w)
        .exact .inr w) (λj a z1 z2=>S.apart e1 z2 j z1)
      exact q F1 _ σ _ (e1.stp.trans st3) S3
     .simp only[hz,yep]at q
theorem s_clr{cpos apos:Pos}(hN:X.N[i]?=some x)(hv:C7 X.env.scope x)(hd:(x == ("__debug__":Str))=false)(hcd:(x == ("__classdict__":Str))=false)(hline:(apos.endLine == cpos.line)=true) :
  PS X (.Expr (.Call (.Attribute (.Name x p1) "clear" apos) [] [] cpos) pos) (tS X.K E ca mu (HW i)):=by
 refine PS.weak (JS (zln yd4 PySem.F.slot_list_clear PySem.F.type_list_clear zg6 (FA hN hv hd hcd) rfl hline) rfl) λD σ H h=>?_
 obtain⟨F,τ,R,S,q⟩:=h;unfold HW at q;cases ho:DV τ i with
 |none=>simp only[ho]at q
 |some kl =>
  obtain⟨kd,l⟩:=kl;simp only[ho]at q;have ht:=JX ho;obtain⟨y,ey,ry⟩:=S.rep i _ ht;obtain⟨p,xs,Rr,rfl,hA,fp,hp,ro,dp,hOw⟩:=ry.own_inv;refine⟨_,ey,.inl ⟨rfl,xs,AS.of hp⟩,p,xs,rfl,rfl,hp,?_⟩;have r2:=HZ hOw (RpO.nil (K:=X.K) (F:=F) (H:=upd H p (.lst []))) fp Br (λ_ z=>z)
  obtain⟨S3,st3⟩:=S.upd ht ey (by rw[hA];exact .inl rfl) r2 (B:=R0) (λa z=>by
   rw[hA]
   rcases z with z|⟨_,z⟩
   .exact .inl (.inl z)
   .exact z.elim) (λ_ _ _ z=>z.elim)
  have eO:(λa=>tot R a\/R0 a)=tot R:=funext λa=>propext ⟨λz=>z.elim id λz=>z.elim,.inl⟩
  rw[eO]at st3;exact q F _ σ _ st3 S3
theorem s_ext(hN:X.N[i]?=some x)(hv:C7 X.env.scope x)(hd:(x == ("__debug__":Str))=false)(hcd:(x == ("__classdict__":Str))=false)(he:PE X e (tM X.K E ca m))(hs:starEach [e] X.env=[(false,eval e X.env)])(hline:(apos.endLine == cpos.line)=true) :
  PS X (.Expr (.Call (.Attribute (.Name x p1) "extend" apos) [e] [] cpos) pos) (tS X.K E ca mu (EB i m)):=by
 refine PS.weak (JS (JV yd4 PySem.F.slot_list_extend PySem.F.type_list_extend ze4 (FA hN hv hd hcd) (DU he EI hs) rfl (by rw[hs];rfl) hline hs rfl) rfl) λD σ H h=>?_
 obtain⟨F,τ,R,S,q⟩:=h;unfold EB at q;cases ho:DV τ i with
 |none=>simp only[ho]at q
 |some kl =>
  obtain⟨kd,l⟩:=kl;simp only[ho]at q;have ht:=JX ho;obtain⟨y,ey,ry⟩:=S.rep i _ ht;obtain⟨p,xs,Rr,rfl,hA,fp,hp,ro,dp,hOw⟩:=ry.own_inv;refine⟨_,ey,.inl ⟨rfl,xs,AS.of hp⟩,F,τ,R,S,?_⟩;cases hm:m τ with
  |none=>simp only[hm]at q
  |some r =>
   simp only[hm]at q;cases r with
   |x c=>exact λF' H' e=>q F' H' σ R e.stp0 (S.ext e)
   |v t bb =>
    cases t with
    |nd o kd2 r =>
     cases kd2 with
     |lst =>
      cases bb with
      |true=>exact q.elim
      |false =>
       intro F1 H1 y B e1 g1;obtain⟨F2,e2,_,r2⟩:=Cs.frz (b:=false) S e1 g1;have r2':Rp X.K F2 F2 (T.nd o .lst r).share y R0:=r2;rw[T.share]at r2';obtain⟨p2,ys,rfl,_,nn,kid⟩:=Cp r2'
       by_cases hz:l.length+r.length<=BE
       .simp only[hz,yeo]at q;have S1:=S.ext e2;have ro1:=ro.ext e2;have hp1:=e2.hh _ _ hp;have fp1:F2 p=none:=(ry.ext e2 |>.dom (by rw[hA];exact .inl rfl)).1
        have hn2:F2 p2=some (.lst ys):=nn;have lr:r.length=ys.length:=by have:=kid.1;rw[Cu,ya1]at this;exact this
        refine⟨p,p2,xs,ys,rfl,rfl,hp1,e2.fh _ _ hn2,by rw[<- ro.len,<- lr,<- DP];exact hz,?_⟩
        have app:∀(l2:List T) (ys2:List V),A6 X.K F2 l2 ys2->∀(l:List T) (xs:List V) (H0:Hp),RpO X.K F2 H0 l xs Rr->RpO X.K F2 H0 (l++l2) (xs++ys2) Rr:=by
         intro l2
         induction l2 with
         |nil=>intro ys2 hk l xs H0 hro;rw[hk.inv0,yaw,yaw];exact hro
         |cons t l2 ih =>
          intro ys2 hk l xs H0 hro;obtain⟨y,ys',rfl,r1,rs1⟩:=hk.inv;have h2:=hro.snoc (r1.any (H':=H0)) (λ_ _ _ z=>z)
          have e3:(λj=>if j=l.length then R0 else Rr j)=Rr:=funext λj=>by
           by_cases hj:j=l.length
           .simp only[hj,yeo];exact funext λa=>propext ⟨λz=>z.elim,λz=>absurd (hro.out _ a z) (yb5 _)⟩
           .simp only[hj,yep]
          rw[e3]at h2;have h3:=ih ys' rs1 (l++[t]) (xs++[y]) H0 h2
          simpa using h3
        have ro2:=app _ _ kid l xs _ (ro1.upd (o:=.lst (xs++ys)) dp);have r3:=HZ hOw ro2 fp1 Br dp;obtain⟨S3,st3⟩:=S1.upd ht ey (by rw[hA];exact .inl rfl) r3 (B:=R0) (λa z=>.inl (by rw[hA];exact z)) (λj a z1 z2=>z2)
        exact q F2 _ σ _ ((e2.stp (O:=tot R)).trans st3) S3
       .simp only[hz,yep]at q
     |_=>exact q.elim
    |_=>exact q.elim
theorem s_sto(hN:X.N[i]?=some x)(hv:C7 X.env.scope x)(hd:(x == ("__debug__":Str))=false)(hcd:(x == ("__classdict__":Str))=false)(he:PE X e (tM X.K E ca m))(hk:PE X k (tM X.K E ca mk))(hs:swapsWithSole [.Subscript (.Name x p1) k pos2] e pos.line X.env=pure false)(hw:swappedStores [.Subscript (.Name x p1) k pos2] e X.env=pure none)
  (ha : ∀ v, assign (.Subscript (.Name x p1) k pos2) X.env v = (do
   let ov <- holding [v] (eval (.Name x p1) X.env);let iv <- holding [v,ov] (eval k X.env)
   standAt pos2
   holding [v,ov,iv] (setItem ov iv v)
   release [v,ov,iv] [])) :
  PS X (.Assign [.Subscript (.Name x p1) k pos2] e pos) (tS X.K E ca mu (HU i mk m)):=by
 refine PS.weak (MW he (RO (FA hN hv hd hcd) hk zf9 ha) hs hw rfl) λD σ H h=>?_
 obtain⟨F,τ,R,S,q⟩:=h;refine⟨F,τ,R,S,?_⟩;unfold HU at q;cases hm:m τ with
 |none=>simp only[hm]at q
 |some r =>
  simp only[hm]at q;cases r with
  |x c=>exact λF' H' e=>q F' H' σ R e.stp0 (S.ext e)
  |v t bb =>
   cases bb with
   |true=>exact q.elim
   |false =>
    intro F1 H1 y B e1 g1;have g1':Rp X.K F1 H1 t y B:=g1;simp only at q;cases ho:DV τ i with
    |none=>simp only[ho]at q
    |some kl =>
     obtain⟨kd,l⟩:=kl;simp only[ho]at q;have S1:=S.ext e1;have ht:=JX ho;obtain⟨y2,ey,ry⟩:=S1.rep i _ ht;refine⟨y2,ey,F1,τ,R,S1,?_⟩;cases hkk:mk τ with
     |none=>simp only[hkk]at q
     |some r =>
      simp only[hkk]at q;cases r with
      |x c=>exact λF' H' e=>q F' H' σ R ((e1.stp0).trans e.stp0) (S1.ext e)
      |v tk bk =>
       cases tk with
       |int kk =>
        simp only at q;cases hj:CU l.length kk with
        |none=>simp only[hj]at q
        |some j =>
         simp only[hj]at q;intro F2 H2 z C e2 g2;have hz:=zj6 g2;subst hz;have S2:=S1.ext e2;have ry2:=ry.ext e2;obtain⟨p,xs,Rr,rfl,hA,fp,hp,ro,dp,hOw⟩:=ry2.own_inv;have hjl:=(N0 hj).2.1;have g2':=g1'.ext e2
         have pB:¬ B p:=λz=>by
          have:R i p:=by rw[hA];exact .inl rfl
          exact S.apart e1 z i this
         refine⟨p,xs,kk,j,rfl,rfl,hp,by rw[<- ro.len];exact hj,?_⟩
         have ro2:RpO X.K F2 (upd H2 p (.lst (xs.set j y))) (l.set j t) (xs.set j y) _:=(ro.upd dp).set hjl (g2'.upd pB) λj' a _ z1 z2=>S.apart e1 z2 i (by rw[hA];exact .inr ⟨j',z1⟩)
         have dp2:∀j',¬ (if j'=j then B else Rr j') p:=λj' z=>by
          by_cases hj':j'=j
          .simp only[hj',yeo]at z;exact pB z
          .simp only[hj',yep]at z;exact dp j' z
         have r3:=HZ hOw ro2 fp Br dp2
         obtain⟨S3,st3⟩:=S2.upd ht ey (by rw[hA];exact .inl rfl) r3 (B:=B) (λa z=>by
          rw[hA]
          rcases z with z|z
          .exact .inl (.inl z)
          .rcases zh9 z with w|w
           .exact .inl (.inr w)
           .exact .inr w) (λj a z1 z2=>S.apart e1 z2 j z1)
         exact q F2 _ σ _ ((e1.stp.trans e2.stp0).trans st3) S3
       |_=>exact q.elim
end
section
variable {X:Cx}{E:L2.St->XK}{ca:Str->Value}{σ:L2.St}{H F:Hp}{K:k6}{m mk:AA->Option Rs}{ms:AA->Option RsL}{D:Ends}{e:Expr}{es:List Expr}{pos apos cpos p1 p2:Pos}{i j:Nat}{x y:Str}{τ:AA}{R:Nat->Rg}{mu:Bool}
theorem Rp.kind{k k':Kd}{l:List T}{p:Addr}{A:Rg}(h:Rp K F H (.nd true k l) (.ref p) A)(o:Gv k' p):Rp K F H (.nd true k' l) (.ref p) A:=by
 obtain⟨p',xs,Rr,e,rfl,fp,hp,ro,dp,_⟩:=h.own_inv;cases e;exact HZ o ro fp hp dp
def Qp(t:T)(τ:AA):Option Out:=match τ[(0:Nat)]? with
 |some (some (.nd true (.pin q) l))=>some (.rt (.own [t,.nd true (.pin q) l]))
 |_=>none
inductive Mo where
 |ok (v:T) (τ:AA)|exc (c:Str) (τ:AA)
def gAll(g:List T->Option Ru)(l ts:List T)(r:T×List T):Prop:=∀p,g (.nd true (.pin p) l::ts)=some (.ok (.own [r.1,.nd true (.pin p) r.2]))
open Classical in
def gMu(g:List T->Option Ru)(l ts:List T):Option (T×List T):=if h:∃r,gAll g l ts r then some h.choose else none
def mMut(i:Nat)(g:List T->Option Ru)(ms:AA->Option RsL):AA->Option Mo:=λτ=>match DV τ i with
 |some (kd,l)=>(match ms τ with
  |some (.v ts false)=>(match gMu g l ts with
   |some (v,l')=>if v.flat then some (.ok v (τ.set i (some (.nd true kd l')))) else none
   |none=>none)
  |some (.v _ true)=>none
  |some (.x c)=>some (.exc c τ)
  |none=>none)
 |none=>none
def HN(K:k6)(ca:Str->Value)(g:List T->Option Ru):Sp:=λvs H Q E=>∃F p l ts A vs',AQ F H/\vs=.ref p::vs'/\Rp K F H (.nd true (.pin p) l) (.ref p) A/\A6 K F ts vs'/\match g (.nd true (.pin p) l::ts) with
 |some (.ok t)=>∀F' H' x B,Stp F H A F' H' B->Wr K true F' H' t x B->Q x H'
 |some (.exc c)=>∀F' H',Stp F H A F' H' R0->E (ca c) none H'
 |none=>False
variable {mm:AA->Option Mo}
end
abbrev R5(A:Around):Around:={ A with handled:=none }
structure FnS(P:Program)(w:World)(K:k6)(mg:Str->Option Value)(base:Heap)(k:Nat)(f:Addr)(fd:FuncData)(p:Str)(sp:Sp):Prop where
 run:∀(A:Around) (outer:List Env) (s:Shared) (H:Hp) (args:Args) (a:Addr) (Q:VK),A.handled=some (.ref a)->(∃C,IK H a C)->Room k (R5 A)->Env0 P w K mg base A outer s H->BindsTo s fd args [(p,.ref a)]->sp [.ref a] H Q E0 ->
  codeAny (model P w) A (.call (.ref f) args) (CR Dz outer P w H s Q E0) s
structure DefS(P:Program)(w:World)(K:k6)(mg:Str->Option Value)(base:Heap)(k:Nat)(x p:Str)(sp:Sp) where
 f:Addr
 fd:FuncData
 ok:FnS P w K mg base k f fd p sp
 m:mg x=some (.ref f)
 kp:PySem.W.keepIn K (.ref f)=true
 b:CY K fd [p] []
section
variable {X:Cx}{pins:List (Addr×Obj)}{σ:L2.St}{H:Hp}{s:Shared}{a:Addr}{kvs:List (Key×V)}
end
section
variable {X:Cx}
def tDicO:TE:=λ_ H Q=>∀p,H p=none->Q (.ref p) (upd H p (.dK []))
theorem zhx{pos:Pos}:PE X (.Dict [] [] pos) tDicO:=λpins s σ H Q I h=>by
 refine wpAny_Dict_empty ⟨.ref s.heap.objs.size,_,I.laid (a:=s.heap.objs.size) (o:=.dK []) (t':=s.toks) (λ_ _ q=>yab _ q) (ya8 _) (zgh s.heap I.big),rfl,h _ (I.hok.fresh (ya8 _))⟩
end
section
variable {X:Cx}{E:L2.St->XK}{ca:Str->Value}{m mk mv:AA->Option Rs}{e k:Expr}{pos p1 pos2:Pos}{mu:Bool}
end
section
variable {X:Cx}{E:L2.St->XK}{ca:Str->Value}{m mk:AA->Option Rs}{e k:Expr}{pos p1 pos2:Pos}{mu:Bool}{i:Nat}{x:Str}
end
theorem Uw{t:T}(h:d0 t=true):t=.dic [] []:=by
 unfold d0 at h;split at h
 .rfl
 .cases h
theorem VS:∀{l l':List T},GD l l'=true->l.length=l'.length/\∀(i:Nat) (a b:T),l[i]?=some a->l'[i]?=some b->(Bq a=true/\Bq b=true/\min a.data.depth b.data.depth<=60/\PyData.eqv a.data b.data=true)\/(a=.dic [] []/\b=.dic [] [])\/HR a b=true
 |[],[],_=>⟨rfl,λi a b h=>by simp at h⟩
 |a::r,b::q,h=>by
  unfold GD at h;rw[ya3,ybk,ya3,ya3,ya3,ybk,ya3,yev]at h;obtain⟨h1,h5⟩:=h;obtain⟨e,k⟩:=VS h5;refine⟨by simp[e],λi a' b' x y=>?_⟩
  cases i with
  |zero =>
   simp at x y;subst x y;exact h1.elim (λz=>.inl ⟨z.1.1.1,z.1.1.2,z.1.2,z.2⟩) λz=>.inr (z.elim (λz=>.inl ⟨Uw z.1,Uw z.2⟩) .inr)
  |succ i=>exact k i a' b' (by simpa using x) (by simpa using y)
 |[],_::_,h=>by cases h
 |_::_,[],h=>by cases h
theorem Uh{P P':Program}{w w':World}{h:Heap}{a:Addr}(d:Heap.DictOf (CB P w) h a []):Heap.DictOf (CB P' w') h a []:=by
 obtain⟨o,es,ep,h1,h2,h3,h4,h5,h6⟩:=d;have e:es.toList=[]:=yc1.mp h5.length;have e':es=#[]:=Array.toList_eq_nil_iff.mp e;subst e';exact⟨o,#[],ep,h1,h2,h3,by intro i h;simp at h,.nil,.nil⟩
theorem TJ{K:k6}{F H:Hp}{p:Addr}{l:List T}{x:V}{A:Rg}(h:Rp K F H (.obj (.lab p) l) x A):x=.ref p:=by
 cases h with
 |obj n e c=>rw[n.1]
theorem zfd{a b:T}(h:HR a b=true):∃p l l',a=.obj (.lab p) l/\b=.obj (.lab p) l':=by
 unfold HR at h;split at h
 .rw[eq_of_beq h];exact⟨_,_,_,rfl,rfl⟩
 .cases h
theorem zi9{X:Cx}(hu:X.A.units+64<cLine):A2 X (compareOp .NotEq) (BY X.K M5):=by
 intro pins s σ H x y v u Q I rx ry h;obtain⟨F,t1,t2,r,fh,r1,r2,e,q⟩:=h;unfold M5 at e;split at e
 .split at e
  .rename_i hc;cases e;obtain⟨p,xs,rfl,rfl,n1,k1⟩:=Cp r1;obtain⟨p',ys,rfl,rfl,n2,k2⟩:=Cp r2;cases rx;cases ry;obtain⟨its,rv,pl,_⟩:=I.list (AS.of (fh _ _ n1));obtain⟨its',rv',pl',_⟩:=I.list (AS.of (fh _ _ n2));obtain⟨al1,al2⟩:=VS hc;have len:its.length=its'.length:=by rw[<- rv.length,<- rv'.length,<- k1.1,<- k2.1,al1]
   have key:=SeqAt.RcNeAt.lists (A:=X.A) (s:=s) (e:=λ_=>true) pl.isList pl'.isList (by rw[yah,yah];exact len) (by omega) λj h1 h2=>by
    rw[yah]at h1 h2;rw[List.getElem_toArray,List.getElem_toArray];have hx:j<xs.length:=by rw[rv.length];exact h1
    have hy:j<ys.length:=by rw[rv'.length];exact h2
    obtain⟨u1,g1,w1⟩:=rv.get (ya0 hx);obtain⟨u2,g2,w2⟩:=rv'.get (ya0 hy);rw[ya0 h1]at g1;rw[ya0 h2]at g2;cases g1;cases g2;have c1:=k1.2 j _ _ (ya0 (by rw[k1.1];exact hx)) (ya0 hx)
    have c2:=k2.2 j _ _ (ya0 (by rw[k2.1];exact hy)) (ya0 hy)
    rcases al2 j _ _ (ya0 (by rw[k1.1];exact hx)) (ya0 (by rw[k2.1];exact hy)) with ⟨f1,f2,f3,f4⟩|⟨z1,z2⟩|z3
    .unfold Bq at f1 f2;rw[ya3]at f1 f2;obtain⟨a1,q1⟩:=ED I fh c1.any f1.1 w1;obtain⟨a2,q2⟩:=ED I fh c2.any f2.1 w2;show SeqAt.EqAt _ s _ _ true;rw[<- f4];refine SeqAt.eqAt_reads _ _ _ s _ _ _ _ q1 q2 f1.2 f2.2 ?_;show X.A.units+1+_<cLine
     omega
    .rw[z1]at c1;rw[z2]at c2;obtain⟨b1,ob,vs,e1,hp,ek,_⟩:=Ui c1;obtain⟨b2,ob',vs',e2,hp',ek',_⟩:=Ui c2;rw[e1]at w1;rw[e2]at w2;have w1':its[j]=.ref b1:=w1;have w2':its'[j]=.ref b2:=w2;rw[w1',w2'];obtain⟨z,hd,ks,rel,dd⟩:=KC I.hok (.inr ⟨ob,fh _ _ hp⟩);obtain⟨z',hd',ks',rel',dd'⟩:=KC I.hok (.inr ⟨ob',fh _ _ hp'⟩);have l1:ks.length=0:=by rw[<- NS rel,TN ek,<- ek];rfl
     have l2:ks'.length=0:=by rw[<- NS rel',TN ek',<- ek'];rfl
     have m1:ks=[]:=yc1.mp l1;have m2:ks'=[]:=yc1.mp l2
     by_cases hb:b1=b2
     .subst hb;exact SeqAt.EqAt.same _
     .refine SeqAt.EqAt.of_refs hb λprog w E Q' hq=>?_
      subst m1 m2;exact PySem.W.keq_eq (r:=true) hd hd' (Uh dd) (Uh dd') (by show X.A.units+1<cLine;omega) (λ_=>.nil) hq
    .obtain⟨p0,l1,l2,e1,e2⟩:=zfd z3;rw[e1]at c1;rw[e2]at c2;have w1':its[j]=.ref p0:=by rw[TJ c1]at w1;exact w1
     have w2':its'[j]=.ref p0:=by rw[TJ c2]at w2;exact w2
     rw[w1',w2'];exact SeqAt.EqAt.same _
   refine key _ _ _ _ ?_;rw[show(!(List.range its.toArray.size).all λ_=>true)=false by simp]
   exact⟨.bl false,H,I,rfl,q.bl fh⟩
  .cases e
 .cases e
theorem zlx{X:Cx}(hu:X.A.units+64<cLine):A2 X (compareOp .NotEq) (BY X.K Ba):=by
 intro pins s σ H x y v u Q I rx ry h;obtain⟨F,t1,t2,r,fh,r1,r2,e,q⟩:=h;unfold Ba at e;split at e
 .cases e;rename_i hc;unfold Dv Bq at hc;rw[ya3,ya3,ya3,ya3,yev]at hc;obtain⟨a1,q1⟩:=ED I fh (r1.any) hc.1.1.1 rx;obtain⟨a2,q2⟩:=ED I fh (r2.any) hc.1.2.1 ry;exact SeqAt.compareNe_reads q1 q2 hc.1.1.2 hc.1.2.2 (Uj hu hc.2) ⟨.bl _,H,I,rfl,q.bl fh⟩
 .exact zi9 hu pins s σ H x y v u Q I rx ry ⟨F,t1,t2,_,fh,r1,r2,e,q⟩
def unl1:T->T
 |.obj k l=>(match k,l with
  |.lab _,[t]=>t
  |k,l=>.obj k l)
 |t=>t
def GR:T->T
 |.nd o k l=>.nd o k (l.map unl1)
 |t=>unl1 t
theorem Rp.unl1{K:k6}{F H:Hp}{t:T}{x:V}{A:Rg}(h:Rp K F H t x A):Rp K F H (Pu.unl1 t) x A:=by
 unfold Pu.unl1;split
 .split
  .cases h with
   |obj n e c =>
    obtain⟨rfl,rfl⟩:=n;exact c 0 _ _ rfl rfl
  .exact h
 .exact h
theorem Rp.unl{K:k6}{F H:Hp}{t:T}{x:V}{A:Rg}(h:Rp K F H t x A):Rp K F H (GR t) x A:=by
 unfold GR;split
 .cases h with
  |shr n e c =>
   refine .shr n (by rw[ya1];exact e) λi t x h1 h2=>?_
   rw[ya4]at h1;obtain⟨t0,e0,rfl⟩:=ya2.mp h1;exact(c i t0 x e0 h2).unl1
  |own hk R f h e c d dp o =>
   refine .own hk R f h (by rw[ya1];exact e) (λi t x h1 h2=>?_) d dp λi a z=>by rw[ya1];exact o i a z
   rw[ya4]at h1;obtain⟨t0,e0,rfl⟩:=ya2.mp h1;exact(c i t0 x e0 h2).unl1
 .exact h.unl1
mutual
def T.deep:T->Bool
 |.nd o _ l=>o && KD l
 |.dic _ _=>false
 |.pdc _ _=>false
 |.odc _ _=>false
 |.obj _ _=>false
 |.oob _ _ _ _=>false
 |.osd _ _=>false
 |.non=>true
 |.bl _=>true
 |.int _=>true
 |.str _=>true
def KD:List T->Bool
 |[]=>true
 |t::r=>t.deep && KD r
end
theorem Uk:∀{l:List T},KD l=true->∀{i:Nat} {t:T},l[i]?=some t->t.deep=true
 |[],_,i,t,e=>by simp at e
 |a::r,h,i,t,e=>by
  rw[KD,ya3]at h;cases i with
  |zero =>
   simp at e;subst e;exact h.1
  |succ i=>exact Uk h.2 (by simpa using e)
theorem Rp.deep{K:k6}{F F' H:Hp}{t:T}{x:V}{A:Rg}(h:Rp K F H t x A)(d:t.deep=true)(k:∀a,F a=none->F' a=none):Rp K F' H t x A:=by
 induction h with
 |non=>exact .non
 |bl b=>exact .bl b
 |int i=>exact .int i
 |str y=>exact .str y
 |shr h e c ih=>cases d
 |dic h e ek c ih=>cases d
 |pdc h e ek c ih=>cases d
 |odc f h e ek c ih=>cases d
 |obj h e c ih=>cases d
 |oob R f h e c d2 dp o ih=>cases d
 |osd f h e ek c ih=>cases d
 |own hk R f h e c ds dp o ih =>
  rw[T.deep,Bool.true_and]at d;exact .own hk R (k _ f) h e (λi t x h1 h2=>ih i t x h1 h2 (Uk d h1)) ds dp o
def J7(C:Addr):T->Bool
 |.obj k _=>(match k with
  |.ins D _=>D == C
  |.lab _=>true
  |_=>false)
 |.nd _ k _=>(match k with
  |.rl=>true
  |.rt=>true
  |_=>false)
 |_=>false
def Ta(C:Addr):List T->Bool
 |a::_=>!J7 C a
 |[]=>true
mutual
def T.noC(C:Addr):T->Bool
 |.nd _ _ l=>Ta C l && Cv C l
 |.dic _ l=>Cv C l
 |.pdc _ l=>Cv C l
 |.odc _ l=>Cv C l
 |.obj _ l=>Cv C l
 |.oob _ _ _ l=>Cv C l
 |.osd _ l=>Cv C l
 |.non=>true
 |.bl _=>true
 |.int _=>true
 |.str _=>true
def Cv(C:Addr):List T->Bool
 |[]=>true
 |t::r=>t.noC C && Cv C r
end
theorem E3{C:Addr}:∀{l:List T},Cv C l=true->∀{i:Nat} {t:T},l[i]?=some t->t.noC C=true
 |[],_,i,t,e=>by simp at e
 |a::r,h,i,t,e=>by
  rw[Cv,ya3]at h;cases i with
  |zero =>
   simp at e;subst e;exact h.1
  |succ i=>exact E3 h.2 (by simpa using e)
theorem zma{K:k6}{F H:Hp}{t:T}{q C dx:Addr}{fs:List (Str×V)}{A:Rg}(h:Rp K F H t (.ref q) A)(hq:F q=some (.ins C dx fs)):J7 C t=true:=by
 cases h with
 |@shr k p xs l n e c =>
  cases k with
  |lst=>exact absurd (hq.symm.trans n) (by simp)
  |tup=>exact absurd (hq.symm.trans n) (by simp)
  |pin _=>exact absurd (hq.symm.trans n) (by simp)
  |rl=>rfl
  |rt=>rfl
 |dic n e ek c=>exact absurd (hq.symm.trans n) (by simp)
 |pdc n e ek c=>exact absurd (hq.symm.trans n) (by simp)
 |odc f h e ek c=>rw[hq]at f;cases f
 |@obj k p xs l n e c =>
  cases k with
  |ins D gs =>
   obtain⟨d,n⟩:=n;have:=hq.symm.trans n;simp only[yd7,HO.ins.injEq]at this;show(D == C)=true;rw[this.1];exact yex _
  |exn D =>
   obtain⟨ob,n,_⟩:=n;exact absurd (hq.symm.trans n) (by simp)
  |sdc ks=>exact absurd (hq.symm.trans n.2) (by simp)
  |lab r=>rfl
 |oob R f h e c d dp o=>rw[hq]at f;cases f
 |osd f h e ek c=>rw[hq]at f;cases f
 |own hk R f h e c d dp o=>rw[hq]at f;cases f
def GC(t v:T):Bool:=match t with
 |.nd true .lst (a::l)=>(match Pu.unl1 a with
  |.obj (.ins C _) _=>A5 (a::l) && v.noC C
  |_=>false)
 |_=>false
theorem zjr{t v:T}(h:GC t v=true):∃a l,t=.nd true .lst (a::l)/\∃C fs kids,Pu.unl1 a=.obj (.ins C fs) kids/\A5 (a::l)=true/\v.noC C=true:=by
 unfold GC at h;split at h
 .split at h
  .rename_i C fs kids ha;rw[ya3]at h;exact⟨_,_,rfl,C,fs,kids,ha,h.1,h.2⟩
  .cases h
 .cases h
def Fu(i:Nat)(m:AA->Option Rs):AA->Option Rs:=λτ=>match τ[i]? with
 |some (some t)=>(match m (τ.set i (some t.share)) with
  |some (.v v false)=>if (v.deep || GC t v)=true then some (.v v false) else none
  |some (.v _ true)=>none
  |some (.x c)=>some (.x c)
  |none=>none)
 |_=>none
theorem StR.frz{K:k6}{F H:Hp}{σ:L2.St}{τ:AA}{R:Nat->Rg}{i:Nat}{t:T}(S:StR K F H σ τ R)(ht:τ[i]?=some (some t)):StR K (Pu.frz F H (R i)) H σ (τ.set i (some t.share)) (λj=>if j=i then R0 else R j):=by
 obtain⟨x,ex,r⟩:=S.rep i t ht;have hi:i<τ.length:=(ya5.mp ht).1;have n:∀a,R i a->F a=none:=λa z=>(r.dom z).1
 refine⟨Gb S.fh,by simpa using S.len,λj t' e=>?_,λj a z=>?_,λj k a hjk z1 z2=>?_⟩
 .by_cases hj:j=i
  .subst hj;rw[yam hi]at e;cases e;exact⟨x,ex,by simpa using r.share (DY n) λa u z q=>by rw[Ea z];exact q⟩
  .rw[yan (yb1 hj)]at e;obtain⟨y,e1,r1⟩:=S.rep j t' e;refine⟨y,e1,?_⟩;simp only[hj,yep]
   exact r1.frame (DY n) λa z=>⟨rfl,by
    rw[Du (λz'=>S.dis j i a hj z z')]
    exact(r1.dom z).1⟩
 .by_cases hj:j=i
  .simp only[hj,yeo]at z;exact z.elim
  .simp only[hj,yep]at z;obtain⟨t',e⟩:=S.out j a z;exact⟨t',by rw[yan (yb1 hj)];exact e⟩
 .by_cases hj:j=i
  .simp only[hj,yeo]at z1;exact z1.elim
  .by_cases hk:k=i
   .simp only[hk,yeo]at z2;exact z2.elim
   .simp only[hj,yep]at z1;simp only[hk,yep]at z2;exact S.dis j k a hjk z1 z2
open Classical in
def C8(A:Rg)(F:Hp):Hp:=λa=>if A a then none else F a
theorem Px{A:Rg}{F:Hp}{a:Addr}(h:¬ A a):C8 A F a=F a:=by unfold C8;rw[if_neg h]
theorem Ib{A:Rg}{F:Hp}{a:Addr}(h:F a=none):C8 A F a=none:=by unfold C8;split;rfl;exact h
theorem Rp.noC{K:k6}{F H:Hp}{t:T}{x:V}{B A:Rg}{p q C dx:Addr}{xs:List V}{fs:List (Str×V)}(hA:∀a,A a->a=p)(hp:F p=some (.lst xs))(hx:xs[0]?=some (.ref q))(hq:F q=some (.ins C dx fs))(h:Rp K F H t x B)(n:t.noC C=true):Rp K (C8 A F) H t x B:=by
 have nl:∀{a:Addr} {u:HO},F a=some u->(∀ys,u≠.lst ys)->C8 A F a=some u:=λ{a u} e hu=>by
  rw[Px (λz=>?_),e]
  rw[hA a z,hp]at e;exact hu xs (yar e).symm
 induction h with
 |non=>exact .non
 |bl b=>exact .bl b
 |int i=>exact .int i
 |str y=>exact .str y
 |@shr k p' xs' l h e c ih =>
  rw[T.noC,ya3]at n
  have hl:F p'=some (.lst xs')->C8 A F p'=some (.lst xs'):=λe1=>by
   rw[Px (λz=>?_),e1]
   rw[hA p' z,hp]at e1;cases e1;cases l with
   |nil =>
    rw[yb4]at e;rw[yb6 (by omega)]at hx
    cases hx
   |cons a r =>
    have:=zma (c 0 a _ rfl hx) hq;rw[Ta,this]at n;exact absurd n.1 (by decide)
  have hn:Dy K (C8 A F) k p' xs':=by
   cases k with
   |lst=>exact hl h
   |pin _=>exact hl h
   |tup=>exact nl h (by simp)
   |rl =>
    rcases h with (h|⟨o,h⟩)|h
    .exact .inl (.inl (hl h))
    .exact .inl (.inr ⟨o,nl h (by simp)⟩)
    .exact .inr h
   |rt =>
    rcases h with (h|⟨o,h⟩)|h
    .exact .inl (.inl (nl h (by simp)))
    .exact .inl (.inr ⟨o,nl h (by simp)⟩)
    .exact .inr h
  exact .shr hn e λi t x h1 h2=>ih i t x h1 h2 (E3 n.2 h1)
 |dic h e ek c ih=>exact .dic (nl h (by simp)) e ek λi t x h1 h2=>ih i t x h1 h2 (E3 n h1)
 |pdc h e ek c ih=>exact .pdc (nl h (by simp)) e ek λi t x h1 h2=>ih i t x h1 h2 (E3 n h1)
 |odc f h e ek c ih=>exact .odc (Ib f) h e ek λi t x h1 h2=>ih i t x h1 h2 (E3 n h1)
 |@obj k p' xs' l h e c ih =>
  have hn:Gw (C8 A F) k p' xs':=by
   cases k with
   |ins D gs=>exact h.elim λd e=>⟨d,nl e (by simp)⟩
   |exn D =>
    obtain⟨ob,e2,h3⟩:=h;exact⟨ob,nl e2 (by simp),h3⟩
   |sdc ks=>exact⟨h.1,nl h.2 (by simp)⟩
   |lab r=>exact h
  exact .obj hn e λi t x h1 h2=>ih i t x h1 h2 (E3 n h1)
 |oob R f h e c d dp o ih=>exact .oob R (Ib f) h e (λi t x h1 h2=>ih i t x h1 h2 (E3 n h1)) d dp o
 |osd f h e ek c ih=>exact .osd (Ib f) h e ek λi t x h1 h2=>ih i t x h1 h2 (E3 n h1)
 |own hk R f h e c d dp o ih =>
  rw[T.noC,ya3]at n;exact .own hk R (Ib f) h e (λi t x h1 h2=>ih i t x h1 h2 (E3 n.2 h1)) d dp o
theorem KP{K:k6}{F H F' H':Hp}{σ:L2.St}{τ:AA}{R:Nat->Rg}{i:Nat}{B:Rg}(S:StR K F H σ τ R)(e:Ext (Pu.frz F H (R i)) H F' H' B):Ext F H (C8 (R i) F') H' B:=by
 have n:∀a,R i a->F a=none:=λa z=>(S.dom z).1
 refine⟨e.hh,λb u z=>?_,λb u z=>?_,e.nb,λb u z=>?_⟩
 .have nb:¬ R i b:=λw=>by rw[n b w]at z;cases z
  unfold C8;rw[if_neg nb];exact e.ff b u (by rw[Du nb];exact z)
 .unfold C8 at z
  by_cases w:R i b
  .rw[if_pos w]at z;cases z
  .rw[if_neg w]at z;exact e.fh b u z
 .unfold C8 at z
  by_cases w:R i b
  .rw[if_pos w]at z;cases z
  .rw[if_neg w]at z
   rcases e.nf b u z with z|z
   .rw[Du w]at z;exact .inl z
   .exact .inr z
theorem zj4{K:k6}{F H:Hp}{C:Addr}{fs:List Str}{l:List T}{x:V}{A:Rg}(h:Rp K F H (.obj (.ins C fs) l) x A):∃q dx ys,x=.ref q/\F q=some (.ins C dx (fs.zip ys)):=by
 cases h with
 |obj n e c =>
  obtain⟨dx,n⟩:=n;exact⟨_,dx,_,rfl,n⟩
theorem zgi{K:k6}{F' H':Hp}{R:Nat->Rg}{i:Nat}{B:Rg}{v:T}{x:V}(g:Rp K F' H' v x B)(dv:v.deep=true):Rp K (C8 (R i) F') H' v x B:=g.deep dv λa z=>by
 unfold C8;split
 .rfl
 .exact z
theorem zjl{K:k6}{F H F' H':Hp}{σ:L2.St}{τ:AA}{R:Nat->Rg}{i:Nat}{B:Rg}{t v:T}{x:V}(S:StR K F H σ τ R)(ht:τ[i]?=some (some t))(e:Ext (Pu.frz F H (R i)) H F' H' B)(g:Rp K F' H' v x B)(dv:(v.deep || GC t v)=true):Rp K (C8 (R i) F') H' v x B:=by
 rcases(ybk _ _).mp dv with dv|dv
 .exact zgi g dv
 .obtain⟨a,l,rfl,C,fs,kids,ha,dv1,dv2⟩:=zjr dv;obtain⟨y,ey,r⟩:=S.rep i _ ht;have n:∀a,R i a->F a=none:=λa z=>(S.dom z).1
  generalize hR:R i=A at *;cases r with
  |@own k p xs l' hk Rr f h el c d dp o =>
   have hA:∀b,(b=p\/∃j,Rr j b)->b=p:=λb z=>by
    rcases z with z|⟨j,z⟩
    .exact z
    .have hj:=o j b z;have hs:=L5 dv1 (ya0 hj);have hx:j<xs.length:=by omega
     have:=(c j _ _ (ya0 hj) (ya0 hx)).r0 hs;rw[this]at z;exact z.elim
   have hx0:0<xs.length:=by rw[<- el];exact Nat.succ_pos _
   have ra:=(c 0 a _ rfl (ya0 hx0)).unl1;rw[ha]at ra;obtain⟨q,dx,ys,eq,hF⟩:=zj4 ra;have fp:F' p=some (.lst xs):=e.ff _ _ (by rw[Ea (.inl rfl)];exact h)
   have fq:F' q=some (.ins C dx (fs.zip ys)):=e.ff _ _ (DY n _ _ hF);exact Rp.noC hA fp (by rw[ya0 hx0,eq]) fq g dv2
theorem zka{K:k6}{E:L2.St->XK}{ca:Str->Value}{i:Nat}{m:AA->Option Rs}{σ:L2.St}{H:Hp}{Q:VK}(h:tM K E ca (Fu i m) σ H Q):tM K E ca m σ H Q:=by
 obtain⟨F,τ,R,S,q⟩:=h;unfold Fu at q;cases ht:τ[i]? with
 |none=>rw[ht]at q;exact q.elim
 |some ot =>
  rw[ht]at q;cases ot with
  |none=>exact q.elim
  |some t =>
  simp only at q;refine⟨_,_,_,S.frz ht,?_⟩;cases hm:m (τ.set i (some t.share)) with
  |none=>rw[hm]at q;exact q.elim
  |some rs =>
   rw[hm]at q;cases rs with
   |x c=>exact λF' H' e=>q _ H' (KP S e)
   |v v b =>
    cases b with
    |true=>exact q.elim
    |false =>
     simp only at q
     by_cases dv:(v.deep || GC t v)=true
     .rw[if_pos dv]at q;intro F' H' x B e g;exact q _ H' x B (KP S e) (zjl S ht e g dv)
     .rw[if_neg dv]at q;exact q.elim
theorem zgz{K:k6}{E:L2.St->XK}{ca:Str->Value}{i:Nat}{m:AA->Option Rs}{σ:L2.St}{H:Hp}{Q:Bool->Hp->Prop}(h:Ak K E ca (Fu i m) σ H Q):Ak K E ca m σ H Q:=by
 obtain⟨F,τ,R,S,q⟩:=h;unfold Fu at q;cases ht:τ[i]? with
 |none=>rw[ht]at q;exact q.elim
 |some ot =>
  rw[ht]at q;cases ot with
  |none=>exact q.elim
  |some t =>
  simp only at q;refine⟨_,_,_,S.frz ht,?_⟩;cases hm:m (τ.set i (some t.share)) with
  |none=>rw[hm]at q;exact q.elim
  |some rs =>
   rw[hm]at q;cases rs with
   |x c=>exact λF' H' e=>q _ H' (KP S e)
   |v v b =>
    cases b with
    |true=>exact q.elim
    |false =>
     cases v with
     |bl c=>exact λF' H' e=>q _ H' (KP S e)
     |_ =>
      simp only at q;split at q
      .rename_i hh;split at hh
       .cases hh
       .cases hh
      .rename_i hh;split at hh
       .exact q
       .cases hh
      .rename_i hh;split at hh
       .cases hh
       .cases hh
      .exact q
def PN(l:List Nat)(m:AA->Option Rs):AA->Option Rs:=l.foldr Fu m
theorem QU{K:k6}{E:L2.St->XK}{ca:Str->Value}{m:AA->Option Rs}{σ:L2.St}{H:Hp}{Q:VK}:∀l:List Nat,tM K E ca (PN l m) σ H Q->tM K E ca m σ H Q
 |[],h=>h
 |i::r,h=>QU r (zka h)
theorem QW{K:k6}{E:L2.St->XK}{ca:Str->Value}{m:AA->Option Rs}{σ:L2.St}{H:Hp}{Q:Bool->Hp->Prop}:∀l:List Nat,Ak K E ca (PN l m) σ H Q->Ak K E ca m σ H Q
 |[],h=>h
 |i::r,h=>QW r (zgz h)
section
variable {X:Cx}{E:L2.St->XK}{ca:Str->Value}{σ:L2.St}{H:Hp}{K:k6}{u w:AA->Option Out}{D:Ends}
end
def Fx:T->Bool
 |.obj k _=>(match k with
  |.lab _=>true
  |_=>false)
 |_=>false
def pin1(p:Addr)(t:T):T:=if t.flat || Fx t then t else .obj (.lab p) [t]
def GZ(ps:Nat->Addr):T->T
 |.nd o k l=>.nd o k (l.mapIdx λi t=>pin1 (ps i) t)
 |t=>pin1 (ps 0) t
open Classical in
def Fe(i:Nat)(w:AA->Option Out):AA->Option Out:=λτ=>match τ[i]? with
 |some (some t)=>if t.sh=true then (if h:∃r,∀ps,w (τ.set i (some (GZ ps t)))=some r then some (Classical.choose h) else none) else none
 |_=>none
theorem zl9{i:Nat}{w:AA->Option Out}{τ:AA}{t:T}{r:Out}(ht:τ[i]?=some (some t))(hs:t.sh=true)(h:∀ps,w (τ.set i (some (GZ ps t)))=some r):Fe i w τ=some r:=by
 unfold Fe;have hx:∃r,∀ps,w (τ.set i (some (GZ ps t)))=some r:=⟨r,h⟩;simp only[ht];rw[if_pos hs,dif_pos hx,<- Classical.choose_spec hx λ_=>0]
 exact h λ_=>0
def GV(i:Nat):AA->Option Out:=λτ=>match τ[i]? with
 |some (some t)=>some (.nx (τ.set i (some (GR t))))
 |_=>none
section
variable {K:k6}{F H:Hp}{t:T}{x:V}{A:Rg}
theorem Rp.refOf(h:Rp K F H t x A)(n:t.flat=false):∃p,x=.ref p:=by
 cases h with
 |non=>cases n
 |bl b=>cases n
 |int i=>cases n
 |str y=>cases n
 |_=>exact⟨_,rfl⟩
theorem Rp.pin1(h:Rp K F H t x A)(s:t.sh=true){p:Addr}(hp:∀q,x=.ref q->q=p):Rp K F H (Pu.pin1 p t) x A:=by
 unfold Pu.pin1;split
 .exact h
 .rename_i hn;rw[ybk,not_or]at hn;obtain⟨q,rfl⟩:=h.refOf (by simpa using hn.1)
  have e:=hp q rfl;subst e;have e:=h.r0 s;subst e
  exact .obj (k:=.lab q) (xs:=[.ref q]) ⟨rfl,rfl⟩ rfl λi t' x' h1 h2=>by
   cases i with
   |zero =>
    cases h1;cases h2;exact h
   |succ i=>simp at h1
def MY:Option V->Addr
 |some (.ref q)=>q
 |_=>0
theorem Rp.pin(h:Rp K F H t x A)(s:t.sh=true):∃ps,Rp K F H (GZ ps t) x A:=by
 unfold GZ;split
 .rename_i o k l;cases h with
  |@shr _ p xs _ n e c =>
   refine⟨λi=>MY xs[i]?,.shr n (by rw[List.length_mapIdx];exact e) λi t x h1 h2=>?_⟩
   rw[ydj]at h1;obtain⟨t0,e0,rfl⟩:=ya2.mp h1;rw[T.sh,ya3]at s;exact(c i t0 x e0 h2).pin1 (L5 s.2 e0) λq hq=>by show q=MY xs[i]?;rw[h2,hq];rfl
  |own hk R f h e c d dp o =>
   rw[T.sh]at s;cases s
 .exact⟨λ_=>MY (some x),h.pin1 s λq hq=>by rw[hq];rfl⟩
theorem StR.chg{σ:L2.St}{τ:AA}{R:Nat->Rg}{i:Nat}{t':T}(S:StR K F H σ τ R)(ht:τ[i]?=some (some t))(h:∃x,σ[i]?=some (some x)/\Rp K F H t' x (R i)):StR K F H σ (τ.set i (some t')) R:=by
 have hi:i<τ.length:=(ya5.mp ht).1;refine⟨S.fh,by simpa using S.len,λj u e=>?_,λj a z=>?_,S.dis⟩
 .by_cases hj:j=i
  .subst hj;rw[yam hi]at e;cases e;exact h
  .rw[yan (yb1 hj)]at e;exact S.rep j u e
 .by_cases hj:j=i
  .subst hj;exact⟨t',yam hi⟩
  .obtain⟨u,e⟩:=S.out j a z;exact⟨u,by rw[yan (yb1 hj)];exact e⟩
end
section
variable {X:Cx}{K:k6}{E:L2.St->XK}{ca:Str->Value}{mu:Bool}{i:Nat}{w:AA->Option Out}{D:Ends}{σ:L2.St}{H:Hp}{As:List Stmt}
theorem zk4(h:tS K E ca mu (Fe i w) D σ H):tS K E ca mu w D σ H:=by
 obtain⟨F,τ,R,S,q⟩:=h;unfold Fe at q;cases ht:τ[i]? with
 |none=>rw[ht]at q;exact q.elim
 |some ot =>
  rw[ht]at q;cases ot with
  |none=>exact q.elim
  |some t =>
   simp only at q
   by_cases hs:t.sh=true
   .rw[if_pos hs]at q
    by_cases hx:∃r,∀ps,w (τ.set i (some (GZ ps t)))=some r
    .rw[dif_pos hx]at q;obtain⟨x,ex,r⟩:=S.rep i t ht;obtain⟨ps,rp⟩:=r.pin hs;refine⟨F,_,R,S.chg ht ⟨x,ex,rp⟩,?_⟩;rw[Classical.choose_spec hx ps];exact q
    .rw[dif_neg hx]at q;exact q.elim
   .rw[if_neg hs]at q;exact q.elim
theorem zk2(h:tS K E ca mu (AG (GV i) w) D σ H):tS K E ca mu w D σ H:=by
 obtain⟨F,τ,R,S,q⟩:=h;unfold AG GV at q;cases ht:τ[i]? with
 |none=>rw[ht]at q;exact q.elim
 |some ot =>
  rw[ht]at q;cases ot with
  |none=>exact q.elim
  |some t =>
   obtain⟨x,ex,r⟩:=S.rep i t ht;exact⟨F,_,R,S.chg ht ⟨x,ex,r.unl⟩,q⟩
theorem s_pin(h:BC X As (tS X.K E ca mu w)):BC X As (tS X.K E ca mu (Fe i w)):=BC.weak h λD σ H h=>zk4 h
theorem s_unl(h:BC X As (tS X.K E ca mu w)):BC X As (tS X.K E ca mu (AG (GV i) w)):=BC.weak h λD σ H h=>zk2 h
end
def gU(g:List T->Option Ru):List T->Option Ru:=λts=>g (ts.map GR)
theorem spP_U{K:k6}{ca:Str->Value}{g:List T->Option Ru}{vs:List V}{H:Hp}{Q:VK}{E:XK}(h:BG K ca (gU g) vs H Q E):BG K ca g vs H Q E:=by
 obtain⟨F,ts,fh,rs,q⟩:=h;refine⟨F,ts.map GR,fh,⟨by rw[ya1];exact rs.1,λi t x h1 h2=>?_⟩,q⟩
 rw[ya4]at h1;obtain⟨t0,e0,rfl⟩:=ya2.mp h1;exact(rs.2 i t0 x e0 h2).unl
def dfU{P:Program}{w:World}{K:k6}{mg:Str->Option Value}{base:Heap}{ca:Str->Value}{k:Nat}{x:Str}{ps:List Str}{g:List T->Option Ru}(D:DefX P w K mg base k x ps (BG K ca g)):DefX P w K mg base k x ps (BG K ca (gU g)):=⟨D.f,D.fd,D.ok.imp λ_ _ _ _ h=>spP_U h,D.m,D.kp,D.b⟩
theorem Sr{fs:List Str}{xs:List V}{f:Str}:∀{j:Nat} {x:V},fs.findIdx? (· == f)=some j->xs[j]?=some x->(fs.zip xs).lookup f=some x:=by
 induction fs generalizing xs with
 |nil=>intro j x h;simp at h
 |cons g r ih =>
  intro j x h hx;rw[ydt]at h;cases xs with
  |nil=>simp at hx
  |cons y ys =>
   rw[ycl,yay]
   by_cases hg:g=f
   .subst hg;simp only[yex,yeo,yd7]at h;subst h;simp at hx;rw[yex,hx]
   .have h1:(g == f)=false:=beq_eq_false_iff_ne.mpr hg;have h2:(f == g)=false:=beq_eq_false_iff_ne.mpr (yb1 hg);rw[h1]at h;simp only[yc6,yep,ya2]at h;obtain⟨j',h3,rfl⟩:=h;rw[h2];exact ih h3 (by simpa using hx)
theorem zal{fs:List Str}{xs:List V}{f:Str}(h:fs.contains f=false):(fs.zip xs).lookup f=none:=by
 induction fs generalizing xs with
 |nil=>rfl
 |cons g r ih =>
  cases xs with
  |nil=>rfl
  |cons y ys =>
   rw[List.contains_cons,ybu]at h;rw[ycl,yay,h.1];exact ih h.2
theorem Rp.obj_inv{K:k6}{F H:Hp}{k:Ob}{l:List T}{x:V}{A:Rg}(h:Rp K F H (.obj k l) x A):∃p xs,x=.ref p/\A=R0/\Gw F k p xs/\l.length=xs.length/\∀(i:Nat) (t:T) (x:V),l[i]?=some t->xs[i]?=some x->Rp K F H t x R0:=by
 cases h with
 |obj h e c=>exact⟨_,_,rfl,rfl,h,e,c⟩
noncomputable def CM(C:Addr)(fs:List Str):T->Option (List T)
 |.obj (.ins C' fs') l=>if C'=C/\fs'=fs then some l else none
 |_=>none
theorem T7{C:Addr}{fs:List Str}{t:T}{l:List T}(h:CM C fs t=some l):t=.obj (.ins C fs) l:=by
 unfold CM at h;split at h
 .split at h
  .rename_i hc;cases h;rw[hc.1,hc.2]
  .cases h
 .cases h
def Bd(C:Addr)(fs:List Str)(j:Nat)(m:AA->Option Rs):AA->Option Rs:=λτ=>match m τ with
 |some (.v t b)=>(match CM C fs t with
  |some l=>(match l[j]? with
   |some u=>some (.v u (b && !u.sh))
   |none=>none)
  |none=>none)
 |some (.x c)=>some (.x c)
 |none=>none
def Bt(C:Addr)(fs:List Str)(g:List T->Option Ru)(m:AA->Option Rs)(ms:AA->Option RsL):AA->Option Rs:=λτ=>match m τ with
 |some (.v t _)=>(match CM C fs t with
  |some _=>(match ms τ with
   |some (.v ts b)=>(match g (t.share::ts) with
    |some (.ok v)=>Ay b v
    |some (.exc c)=>some (.x c)
    |none=>none)
   |some (.x c)=>some (.x c)
   |none=>none)
  |none=>none)
 |some (.x c)=>some (.x c)
 |none=>none
def Bu(m n:AA->Option Rs):AA->Option Rs:=λτ=>match m τ with
 |some r=>some r
 |none=>n τ
section
variable {X:Cx}{E:L2.St->XK}{ca:Str->Value}{m n:AA->Option Rs}{ms:AA->Option RsL}{e o:Expr}{es:List Expr}{pos p apos:Pos}{C:Addr}{fs:List Str}{f:Str}{j:Nat}
theorem JQ(h1:PE X e (tM X.K E ca m))(h2:PE X e (tM X.K E ca n)):PE X e (tM X.K E ca (Bu m n)):=λpins s σ H Q I h=>by
 obtain⟨F,τ,R,S,q⟩:=h;unfold Bu at q;cases hm:m τ with
 |none =>
  rw[hm]at q;exact h2 pins s σ H Q I ⟨F,τ,R,S,q⟩
 |some r =>
  rw[hm]at q;exact h1 pins s σ H Q I ⟨F,τ,R,S,by rw[hm];exact q⟩
theorem Jp{K:k6}{F H:Hp}{R:Nat->Rg}{k:Ob}{l:List T}{b:Bool}{x:V}{B:Rg}(g:Cs K F H R (.obj k l) b x B):Rp K F H (.obj k l) x R0/\B=R0:=by
 cases b with
 |true =>
  obtain⟨hB,A,_,r⟩:=g;obtain⟨p,xs,rfl,hA,_⟩:=r.obj_inv;exact⟨hA▸r,hB⟩
 |false =>
  have r:Rp K F H (.obj k l) x B:=g;obtain⟨p,xs,rfl,hA,_⟩:=r.obj_inv;exact⟨hA▸r,hA⟩
theorem r_fld(c:Cls X.K C)(hn:Bi X.K C f)(hj:fs.findIdx? (· == f)=some j)(ho:PE X o (tM X.K E ca m))(hb:attributeBase o f X.env (eval o X.env)=eval o X.env):PE X (.Attribute o f pos) (tM X.K E ca (Bd C fs j m)):=by
 refine PE.weak (RS ho hb) λσ H Q h=>?_
 obtain⟨F,τ,R,S,q⟩:=h;refine⟨F,τ,R,S,?_⟩;unfold Bd at q;cases hm:m τ with
 |none=>simp only[hm]at q
 |some r =>
  simp only[hm]at q;cases r with
  |x c=>exact q
  |v t b =>
   intro F1 H1 x B e1 g1;cases hi:CM C fs t with
   |none=>simp only[hi]at q
   |some l =>
    simp only[hi]at q;have ht:=T7 hi;subst ht;cases hu:l[j]? with
    |none=>simp only[hu]at q
    |some u =>
     simp only[hu]at q;obtain⟨r1,hB⟩:=Jp g1;subst hB;obtain⟨a,xs,rfl,_,⟨dx,hF⟩,el,cc⟩:=r1.obj_inv;have hjl:=(ya5.mp hu).1;have hx:xs[j]?=some xs[j]:=ya0 (by omega)
     have hc:=cc j u _ hu hx;refine⟨a,_,dx,_,xs[j],rfl,e1.fh _ _ hF,c,hn,Sr hj hx,?_⟩;refine q F1 H1 _ R0 e1 ?_;cases b with
     |false=>exact hc
     |true =>
      cases hs:u.sh with
      |true=>exact hc
      |false=>exact⟨rfl,R0,λ_ z=>z.elim,hc⟩
structure MetX(P:Program)(w:World)(K:k6)(mg:Str->Option Value)(base:Heap)(C:Addr)(m:Str)(k:Nat)(ps:List Str)(sp:Sp) where
 f:Addr
 fd:FuncData
 c:Cls K C
 me:Meth K C m f
 ok:FnOk P w K mg base (Bb P w) k f fd ps sp
 b:CY K fd ps []
def LO(C:Addr)(m:Str)(sp:Sp)(E:L2.St->XK)(ta:TE)(t:TA):TE:=λσ H Q=>ta σ H λx H1=>∃a dx fs,x=.ref a/\H1 a=some (.ins C dx fs)/\fs.lookup m=none /\
 t σ H1 λvs H2=>sp (x::vs) H2 Q (E σ)
theorem pmx{k j:Nat}{ps:List Str}{sp:Sp}{ta:TE}{t:TA}{pl:Sem Bool}(D:MetX X.prog X.w X.K X.mg X.base C f k ps sp)(hr:Room j X.A)(hx:BM X E)(he:PE X o ta)(ha:PA X (e::es) t)(hk:k<=j)
  (hst:starEach (e::es) X.env=(false,eval e X.env)::starEach es X.env) (hpl:(backTo pos (starEach es X.env)).any (·.1)=false)
  (ht : eval (.Call (.Attribute o f apos) (e :: es) [] pos) X.env = (do
   let ov <- eval o X.env
   standAt apos.atName
   let (f,first) <- holding [ov] (getMethod ov f pl)
   callWith pos f first (backTo pos (starEach (e::es) X.env)) (backToKw pos (keywordEach [] X.env)))):PE X (.Call (.Attribute o f apos) (e::es) [] pos) (LO C f sp E ta t):=by
 intro pins s σ H Q I h;refine PySem.W.methodCall_KW (pl:=pl) (AO (he pins s σ H _ I h) λu s1 ⟨x,H1,I1,rx,a,dx,fs,ex,ea,l,q⟩=>?_) ht
 subst ex;obtain rfl:u=Value.ref a:=rx;refine UQ I1 ea D.c D.me l ?_;refine ycx (first:=[.ref a]) (h₀:=X.base) I.ok.mod.kin D.me.kp (AO (ha pos pins s1 σ H1 _ I1 q) λus s2 ⟨vs,H2,I2,r,q2⟩=>⟨I2.kIn,?_⟩) hst hpl
 exact MM (us:=.ref a::us) (vs:=.ref a::vs) (dvs:=[]) D.ok (hr.mono hk) D.b .nil hx I2 (.cons rfl r) (by rw[yaw];exact q2)
theorem pmx0{k j:Nat}{ps:List Str}{sp:Sp}{ta:TE}{pl:Sem Bool}(D:MetX X.prog X.w X.K X.mg X.base C f k ps sp)(hr:Room j X.A)(hx:BM X E)(he:PE X o ta)(hk:k<=j)
  (ht : eval (.Call (.Attribute o f apos) [] [] pos) X.env = (do
   let ov <- eval o X.env
   standAt apos.atName
   let (f,first) <- holding [ov] (getMethod ov f pl)
   callWith pos f first (backTo pos (starEach [] X.env)) (backToKw pos (keywordEach [] X.env)))):PE X (.Call (.Attribute o f apos) [] [] pos) (LO C f sp E ta QL):=by
 intro pins s σ H Q I h;refine PySem.W.methodCall_KW (pl:=pl) (AO (he pins s σ H _ I h) λu s1 ⟨x,H1,I1,rx,a,dx,fs,ex,ea,l,q⟩=>?_) ht
 subst ex;obtain rfl:u=Value.ref a:=rx;refine UQ I1 ea D.c D.me l ?_;exact PySem.W.callWith_K0 (first:=[.ref a]) I1.kIn D.me.kp (MM (us:=[.ref a]) (vs:=[.ref a]) (dvs:=[]) D.ok (hr.mono hk) D.b .nil hx I1 (.cons rfl .nil) q)
theorem QN{g:List T->Option Ru}{σ:L2.St}{H:Hp}{Q:VK}(hf:fs.contains f=false)(h:tM X.K E ca (Bt C fs g m ms) σ H Q):LO C f (BG X.K ca g) E (tM X.K E ca m) (B9 X.K E ca ms) σ H Q:=by
 obtain⟨F,τ,R,S,q⟩:=h;refine⟨F,τ,R,S,?_⟩;unfold Bt at q;cases hm:m τ with
 |none=>simp only[hm]at q
 |some r =>
  simp only[hm]at q;cases r with
  |x c=>exact q
  |v t b =>
   intro F1 H1 x B e1 g1;cases hi:CM C fs t with
   |none=>simp only[hi]at q
   |some l =>
    simp only[hi]at q;have ht:=T7 hi;subst ht;obtain⟨r1,hB⟩:=Jp g1;subst hB;have S1:=S.ext e1;obtain⟨a,xs,rfl,_,⟨dx,hF⟩,el,cc⟩:=r1.obj_inv;refine⟨a,dx,_,rfl,e1.fh _ _ hF,zal hf,F1,τ,R,S1,?_⟩;cases hs:ms τ with
    |none=>simp only[hs]at q
    |some r =>
     simp only[hs]at q;cases r with
     |x c=>exact λF' H' e=>q F' H' (e1.trans0 e)
     |v ts b' =>
      intro F2 H2 vs e2 rs;have S2:=S1.ext e2;simp only at q;have r2:Rp X.K (Gz b' F2 H2 R) H2 (T.obj (.ins C fs) l).share (.ref a) R0:=(r1.ext e2).share (Jo S2) λ_ _ z=>z.elim
      refine⟨Gz b' F2 H2 R,_,Na S2,.cons r2 rs,?_⟩;have e12:=e1.trans0 e2;cases hg:g ((T.obj (.ins C fs) l).share::ts) with
      |none=>simp only[hg]at q
      |some r =>
       simp only[hg]at q;cases r with
       |exc c=>exact λF' H' e3=>q F2 H' (e12.grow e3.hh)
       |ok v =>
        intro F3 H3 z C3 e3 r3;simp only at q;unfold Ay at q;cases b' with
        |false=>exact q F3 H3 z C3 (e12.trans0 e3) r3
        |true =>
         cases hf:v.flat with
         |false=>rw[hf]at q;exact False.elim q
         |true=>rw[hf]at q;exact q F2 H3 z R0 (e12.grow e3.hh) (r3.flat_any hf)
theorem zkv{k j:Nat}{ps:List Str}{g:List T->Option Ru}{pl:Sem Bool}(D:MetX X.prog X.w X.K X.mg X.base C f k ps (BG X.K ca g))(hf:fs.contains f=false)(hr:Room j X.A)(hx:BM X E)(he:PE X o (tM X.K E ca m))(ha:PA X (e::es) (B9 X.K E ca ms))(hk:k<=j)
  (hst:starEach (e::es) X.env=(false,eval e X.env)::starEach es X.env) (hpl:(backTo pos (starEach es X.env)).any (·.1)=false)
  (ht : eval (.Call (.Attribute o f apos) (e :: es) [] pos) X.env = (do
   let ov <- eval o X.env
   standAt apos.atName
   let (f,first) <- holding [ov] (getMethod ov f pl)
   callWith pos f first (backTo pos (starEach (e::es) X.env)) (backToKw pos (keywordEach [] X.env)))):PE X (.Call (.Attribute o f apos) (e::es) [] pos) (tM X.K E ca (Bt C fs g m ms)) :=
 PE.weak (pmx D hr hx he ha hk hst hpl ht) λσ H Q h=>QN hf h
structure NewX(P:Program)(w:World)(K:k6)(mg:Str->Option Value)(base:Heap)(x:Str)(C:Addr)(k:Nat)(ps:List Str)(sp:Sp) where
 f:Addr
 fd:FuncData
 m:mg x=some (.ref C)
 ma:Mk K C f
 ok:FnOk P w K mg base (Bb P w) k f fd ps sp
def zk7(C:Addr)(sp:Sp)(dvs:List V)(E:L2.St->XK)(t:TA):TE:=λσ H Q=>t σ H λvs H1=>∀x dx,H1 x=none->H1 dx=none->dx≠x ->
 sp (.ref x::(vs++dvs)) (upd (upd H1 dx (.own x)) x (.ins C dx [])) (λv H2=>v=.non/\Q (.ref x) H2) (E σ)
theorem pnx{k j:Nat}{x:Str}{ps:List Str}{sp:Sp}{t:TA}{dvs:List V}{ds:List Value}(D:NewX X.prog X.w X.K X.mg X.base x C k ps sp)(hb:CY X.K D.fd ps ds)(hd:AR dvs ds)(hr:Room j X.A)(hx:BM X E)(ha:PA X (e::es) t)(hk:k+1<=j)(hg:Gl X x)(hdb:(x == ("__debug__":Str))=false)
  (he:starEach (e::es) X.env=(false,eval e X.env)::starEach es X.env) (hpl:(backTo pos (starEach es X.env)).any (·.1)=false):PE X (.Call (.Name x p) (e::es) [] pos) (zk7 C sp dvs E t):=by
 intro pins s σ H Q I h;refine yem (Hi I hg D.m ?_ hdb);refine ycx (h₀:=X.base) I.ok.mod.kin D.ma.kp (AO (ha pos pins s σ H _ I h) λus s1 ⟨vs,H1,I1,r,q⟩=>⟨I1.kIn,?_⟩) he hpl
 have hq:=q (s1.heap.objs.size+1) s1.heap.objs.size (I1.hok.fresh (ycd _)) (I1.hok.fresh (ya8 _)) (yaq (ycr _));have I2:=Inv.made (C:=C) I1;have r2:AR (V.ref (s1.heap.objs.size+1)::(vs++dvs)) (Value.ref (s1.heap.objs.size+1)::(us++ds)):=.cons rfl (r.append hd)
 have hl:(Value.ref (s1.heap.objs.size+1)::us++ds).length=ps.length:=by
  have e:=r2.length;rw[D.ok.len _ _ _ _ hq]at e;exact e.symm
 refine yek (zg7 (f:=D.f) I1.kIn D.ma.makes D.ma.init (beq_iff_eq.mp D.ma.fn) (yel (D.ok.run _ X.stack _ _ ⟨Value.ref (s1.heap.objs.size+1)::us,[]⟩ (Value.ref (s1.heap.objs.size+1)::(us++ds)) _ _ (E σ) ((hr.mono hk).make C us [])
  (I2.env0.make C us []) (hb _ (Value.ref (s1.heap.objs.size+1)::us) I2.kIn hl) r2 hq) λr s' hq'=>?_))
 cases r with
 |error v=>exact hx pins σ _ _ v s' I2 hq'
 |ok fl =>
  cases fl with
  |ret u =>
   obtain⟨v,H',I3,rv,ev,q3⟩:=I2.after hq';subst ev;exact⟨rv,⟨V.ref (s1.heap.objs.size+1),H',I3,rfl,q3⟩⟩
  |next=>exact False.elim hq'
  |brk=>exact False.elim hq'
  |cont=>exact False.elim hq'
def Er(K:k6)(ca:Str->Value)(C:Addr)(g:List T->Option Ru):Sp:=λvs H Q E=>∃F p dx ts vs',AQ F H/\vs=.ref p::vs'/\F p=none/\H p=some (.ins C dx [])/\A6 K F ts vs'/\match g ts with
 |some (.ok t)=>∀F' H',Stp F H (λa=>a=p) F' H' R0->Rp K F' H' t (.ref p) R0->Q .non H'
 |some (.exc c)=>∀F' H',Stp F H (λa=>a=p) F' H' R0->E (ca c) none H'
 |none=>False
noncomputable def E5(g:List T->Option Ru)(ds:List T)(ms:AA->Option RsL):AA->Option Rs:=λτ=>match ms τ with
 |some (.v ts false)=>(match g (ts++ds) with
  |some (.ok t)=>some (.v t false)
  |some (.exc c)=>some (.x c)
  |none=>none)
 |some (.v _ true)=>none
 |some (.x c)=>some (.x c)
 |none=>none
theorem r_new{k j:Nat}{x:Str}{ps:List Str}{g:List T->Option Ru}{dvs:List V}{dts:List T}{ds:List Value}(D:NewX X.prog X.w X.K X.mg X.base x C k ps (Er X.K ca C g))(hb:CY X.K D.fd ps ds)(hd:AR dvs ds)(hdt:∀F:Hp,A6 X.K F dts dvs)(hr:Room j X.A)(hx:BM X E)(ha:PA X (e::es) (B9 X.K E ca ms))(hk:k+1<=j)(hg:Gl X x)(hdb:(x == ("__debug__":Str))=false)
  (he:starEach (e::es) X.env=(false,eval e X.env)::starEach es X.env) (hpl:(backTo pos (starEach es X.env)).any (·.1)=false):PE X (.Call (.Name x p) (e::es) [] pos) (tM X.K E ca (E5 g dts ms)):=by
 refine PE.weak (pnx D hb hd hr hx ha hk hg hdb he hpl) λσ H Q h=>?_
 obtain⟨F,τ,R,S,q⟩:=h;refine⟨F,τ,R,S,?_⟩;unfold E5 at q;cases hs:ms τ with
 |none=>simp only[hs]at q
 |some r =>
  simp only[hs]at q;cases r with
  |x c=>exact q
  |v ts b =>
   cases b with
   |true=>exact λF1 H1 xs e1 rs=>q.elim
   |false =>
    intro F1 H1 xs e1 rs a dx ha hdx hne;simp only at q;have rs':A6 X.K F1 ts xs:=rs
    have key:∀F' H',Stp F1 (upd (upd H1 dx (.own a)) a (.ins C dx [])) (λb=>b=a) F' H' R0->Ext F H F' H' R0:=λF' H' st=>by
     refine e1.trans0 ⟨λb u z=>?_,st.ff,st.fh,λ_ z=>z.elim,λb u z=>?_⟩
     .have h1:b≠a:=CA z ha;have h2:b≠dx:=CA z hdx;exact st.kp b u h1 (by rw[Aj h1,Aj h2];exact z)
     .rcases st.nf b u z with w|w|w
      .exact .inl w
      .rw[w];exact .inr ha
      .by_cases h1:b=a
       .rw[h1];exact .inr ha
       .by_cases h2:b=dx
        .rw[h2];exact .inr hdx
        .rw[Aj h1,Aj h2]at w;exact .inr w
    have fh2:AQ F1 (upd (upd H1 dx (.own a)) a (.ins C dx [])):=λb u z=>by
     have z':=e1.fh b u z;rw[Aj (CA z' ha),Aj (CA z' hdx)];exact z'
    refine⟨F1,a,dx,ts++dts,xs++dvs,fh2,rfl,Fk e1.fh ha,Br,JO rs' (hdt F1),?_⟩;cases hg:g (ts++dts) with
    |none=>simp only[hg]at q
    |some r =>
     simp only[hg]at q;cases r with
     |exc c=>exact λF' H' st=>q F' H' (key F' H' st)
     |ok t=>exact λF' H' st r=>⟨rfl,q F' H' _ R0 (key F' H' st) r⟩
end
noncomputable def E2(τ:AA)(i:Nat)(C:Addr)(fs:List Str):Option (Addr×List T):=match τ[i]? with
 |some (some (.oob p C' fs' l))=>if C'=C/\fs'=fs then some (p,l) else none
 |_=>none
theorem M0{τ:AA}{i:Nat}{C:Addr}{fs:List Str}{p:Addr}{l:List T}(h:E2 τ i C fs=some (p,l)):τ[i]?=some (some (.oob p C fs l)):=by
 unfold E2 at h;split at h
 .rename_i q;split at h
  .rename_i hc;cases h;rw[q,hc.1,hc.2]
  .cases h
 .cases h
def DI(C:Addr)(fs:List Str)(j i:Nat)(m:AA->Option Rs):AA->Option Out:=λτ=>match m τ with
 |some (.v t false)=>(match E2 τ i C fs with
  |some (p,l)=>if l.length=j then some (.nx (τ.set i (some (.oob p C fs (l++[t]))))) else none
  |none=>none)
 |some (.v _ true)=>none
 |some (.x c)=>some (.xc c τ)
 |none=>none
def H9:Option T->Option (List Str×List T)
 |some (.osd ks l)=>some (ks,l)
 |_=>none
theorem zd7{o:Option T}{ks:List Str}{l:List T}(h:H9 o=some (ks,l)):o=some (.osd ks l):=by
 unfold H9 at h;split at h
 .cases h;rfl
 .cases h
open Classical in
def HV(C:Addr)(fs:List Str)(j i:Nat)(mk m:AA->Option Rs):AA->Option Out:=λτ=>match m τ with
 |some (.v t false)=>(match E2 τ i C fs with
  |some (p,l)=>(match H9 l[j]? with
   |some (ks,lv)=>(match mk τ with
    |some (.v (.str k) _)=>if k∉ks/\ks.length<100000 then some (.nx (τ.set i (some (.oob p C fs (l.set j (.osd (ks++[k]) (lv++[t.share]))))))) else none
    |some (.v _ _)=>none
    |some (.x c)=>some (.xc c τ)
    |none=>none)
   |none=>none)
  |none=>none)
 |some (.v _ true)=>none
 |some (.x c)=>some (.xc c τ)
 |none=>none
def Jf:AA->Option Rs:=λ_=>some (.v (.osd [] []) false)
theorem RG{f:Str}{y:V}:∀{fs:List Str} {xs:List V},fs[xs.length]?=some f->(fs.take xs.length).contains f=false->CT f y (fs.zip xs)=fs.zip (xs++[y])
 |[],xs,h,_=>by simp at h
 |g::r,[],h,_=>by
  simp at h;subst h;simp[CT]
 |g::r,x::xs,h,hn=>by
  rw[yao,List.take_succ_cons,List.contains_cons,ybu]at hn
  have hg:¬ g=f:=λz=>by
   have:=hn.1;rw[z,yex]at this;cases this
  have ih:=RG (f:=f) (y:=y) (fs:=r) (xs:=xs) (by simpa using h) hn.2
  rw[ycl,List.cons_append,ycl,<- ih];show(if g=f then _ else _)=_
  rw[if_neg hg]
section
variable {K:k6}{F H:Hp}{C:Addr}{fs:List Str}{l:List T}
theorem Rp.oob_inv{p:Addr}{x:V}{A:Rg}(h:Rp K F H (.oob p C fs l) x A):∃dx xs Rr,x=.ref p/\A=(λa=>a=p\/∃j,Rr j a)/\F p=none/\H p=some (.ins C dx (fs.zip xs))/\RpO K F H l xs Rr/\∀j,¬ Rr j p:=by
 cases h with
 |oob R f h e c d dp o=>exact⟨_,_,R,rfl,rfl,f,h,⟨e,c,d,o⟩,dp⟩
theorem RY{p dx:Addr}{xs:List V}{Rr:Nat->Rg}(r:RpO K F H l xs Rr)(f:F p=none)(h:H p=some (.ins C dx (fs.zip xs)))(dp:∀j,¬ Rr j p):Rp K F H (.oob p C fs l) (.ref p) (λa=>a=p\/∃j,Rr j a):=.oob Rr f h r.len r.rep r.dis dp r.out
theorem Rp.osd_inv{ks:List Str}{x:V}{A:Rg}(h:Rp K F H (.osd ks l) x A):∃p xs,x=.ref p/\A=(λa=>a=p)/\F p=none/\H p=some (.dK (Bp ks xs))/\l.length=xs.length/\ks.length=xs.length/\∀(i:Nat) (t:T) (x:V),l[i]?=some t->xs[i]?=some x->Rp K F H t x R0:=by
 cases h with
 |osd f h e ek c=>exact⟨_,_,rfl,rfl,f,h,e,ek,c⟩
end
theorem ziy{ks:List Str}{xs:List V}(h:ks.length=xs.length):(Bp ks xs).length=xs.length:=by
 unfold Bp;rw[List.length_zipWith,h,Nat.min_self]
theorem ziz{ks:List Str}{xs:List V}{kv:Key×V}(h:kv∈Bp ks xs):∃k∈ks,kv.1=Sum.inr k:=by
 induction ks generalizing xs with
 |nil=>cases xs<;>cases h
 |cons a r ih =>
  cases xs with
  |nil=>cases h
  |cons b s =>
   unfold Bp at h;rw[List.zipWith_cons_cons]at h
   rcases yai.mp h with e|e
   .exact⟨a,ya7 ..,by rw[e]⟩
   .obtain⟨k,hk,e⟩:=ih (xs:=s) e;exact⟨k,ya6 _ hk,e⟩
theorem zfm{ks:List Str}{xs:List V}{k:Str}{y:V}(h:ks.length=xs.length)(hk:k∉ks):Cn (Bp ks xs) (Sum.inr k) y=Bp (ks++[k]) (xs++[y]):=by
 unfold Cn;rw[if_neg]
 .unfold Bp;rw[List.zipWith_append h]
  rfl
 .intro c;obtain⟨kv,h1,h2⟩:=List.any_eq_true.mp c;obtain⟨k',h3,h4⟩:=ziz h1;have:=yez h2;rw[h4]at this;cases this;exact hk h3
section
variable {X:Cx}{E:L2.St->XK}{ca:Str->Value}{m mk:AA->Option Rs}{e k:Expr}{pos p1 pos2 pos3:Pos}{mu:Bool}{i j:Nat}{x f:Str}{C:Addr}{fs:List Str}
theorem zky:PE X (.Dict [] [] pos) (tM X.K E ca Jf):=PE.weak zhx λσ H Q h p hp=>by
 obtain⟨F,τ,R,S,q⟩:=h;exact q F (upd H p (.dK [])) (.ref p) _ (Ext.newO S.fh hp) (Rp.osd (ks:=[]) (xs:=[]) (l:=[]) (Fk S.fh hp) Br rfl rfl λi t x h=>by simp at h)
theorem Qg(c:Cls X.K C)(hn:Bi X.K C f)(hj:fs[j]?=some f)(hnf:(fs.take j).contains f=false)(hjl:j<900)(hN:X.N[i]?=some x)(hv:C7 X.env.scope x)(hd:(x == ("__debug__":Str))=false)(hcd:(x == ("__classdict__":Str))=false)(he:PE X e (tM X.K E ca m))
  (hs:swapsWith e (some (.Attribute (.Name x p1) f pos2)) pos.line X.env=pure false):PS X (.Assign [.Attribute (.Name x p1) f pos2] e pos) (tS X.K E ca mu (DI C fs j i m)):=by
 refine PS.weak (zl7 (FA hN hv hd hcd) he hs) λD σ H h=>?_
 obtain⟨F,τ,R,S,q⟩:=h;refine⟨F,τ,R,S,?_⟩;unfold DI at q;cases hm:m τ with
 |none=>simp only[hm]at q
 |some r =>
  simp only[hm]at q;cases r with
  |x c=>exact λF' H' e=>q F' H' σ R e.stp0 (S.ext e)
  |v t bb =>
   cases bb with
   |true=>exact λF1 H1 y B e1 g1=>q.elim
   |false =>
    intro F1 H1 y B e1 g1;have g1':Rp X.K F1 H1 t y B:=g1;simp only at q;cases ho:E2 τ i C fs with
    |none=>simp only[ho]at q
    |some pl =>
     obtain⟨p,l⟩:=pl;simp only[ho]at q
     by_cases hl:l.length=j
     .rw[if_pos hl]at q;have S1:=S.ext e1;have ht:=M0 ho;obtain⟨y2,ey,ry⟩:=S.rep i _ ht;obtain⟨dx,xs,Rr,rfl,hA,fp,hp,ro,dp⟩:=ry.oob_inv;have hxs:xs.length=j:=by rw[<- ro.len];exact hl
      have hp1:=e1.hh _ _ hp;have pB:¬ B p:=λz=>by rw[e1.nb p z]at hp;cases hp
      have fp1:F1 p=none:=(ry.ext e1 |>.dom (by rw[hA];exact .inl rfl)).1
      refine⟨_,ey,p,C,dx,fs.zip xs,rfl,hp1,c,hn,?_,?_⟩
      .rw[List.length_zip]
       omega
      .rw[RG (by rw[hxs];exact hj) (by rw[hxs];exact hnf)]
       have ro1:=ro.ext e1;have ro2:RpO X.K F1 (upd H1 p (.ins C dx (fs.zip (xs++[y])))) (l++[t]) (xs++[y]) _:=(ro1.upd dp).snoc (g1'.upd pB) λj a z1 z2=>ro.apart e1 z2 j z1
       have dp2:∀j,¬ (if j=l.length then B else Rr j) p:=λj z=>by
        by_cases hj:j=l.length
        .simp only[hj,yeo]at z;exact pB z
        .simp only[hj,yep]at z;exact dp j z
       have r2:=RY (C:=C) (fs:=fs) ro2 fp1 Br dp2
       obtain⟨S3,st3⟩:=S1.upd ht ey (by rw[hA];exact .inl rfl) r2 (B:=B) (λa z=>by
        rw[hA]
        rcases z with z|z
        .exact .inl (.inl z)
        .rcases Q7 z with w|w
         .exact .inl (.inr w)
         .exact .inr w) (λj a z1 z2=>S.apart e1 z2 j z1)
       exact q F1 _ σ _ (e1.stp.trans st3) S3
     .rw[if_neg hl]at q;exact q.elim
def rSetS:K3:=λo i v H Q=>∃p kvs k,o=.ref p/\i=.str k/\H p=some (.dK kvs)/\kvs.length<sizeLine/\Q (upd H p (.dK (Cn kvs (Sum.inr k) v)))
theorem zfa(hu:X.A.units+1<cLine):P5 X rSetS:=by
 intro pins s σ H o i v ov iv u Q I ro ri rv h;obtain⟨p,kvs,k,rfl,rfl,hp,hl,q⟩:=h;cases ro;exact zeh hu I (HB.k (k:=Sum.inr k) hp hl) (show L2.RelV (kV (Sum.inr k)) iv from ri) rv λs' I'=>⟨_,I',q⟩
theorem Fy{K:k6}{F H:Hp}{R:Nat->Rg}{z:Str}{b:Bool}{y:V}{B:Rg}(g:Cs K F H R (.str z) b y B):y=.str z:=by
 cases b with
 |true=>obtain⟨_,A,_,r⟩:=g;exact r.str_inv
 |false=>exact(show Rp K F H _ _ _ from g).str_inv
theorem s_dpf(hu:X.A.units+1<cLine)(c:Cls X.K C)(hn:Bi X.K C f)(hj:fs.findIdx? (· == f)=some j)(hN:X.N[i]?=some x)(hv:C7 X.env.scope x)(hd:(x == ("__debug__":Str))=false)(hcd:(x == ("__classdict__":Str))=false)(he:PE X e (tM X.K E ca m))(hk:PE X k (tM X.K E ca mk))
  (hs:swapsWithSole [.Subscript (.Attribute (.Name x p1) f pos3) k pos2] e pos.line X.env=pure false) (hw:swappedStores [.Subscript (.Attribute (.Name x p1) f pos3) k pos2] e X.env=pure none)
  (ha : ∀ v, assign (.Subscript (.Attribute (.Name x p1) f pos3) k pos2) X.env v = (do
   let ov <- holding [v] (eval (.Attribute (.Name x p1) f pos3) X.env);let iv <- holding [v,ov] (eval k X.env)
   standAt pos2
   holding [v,ov,iv] (setItem ov iv v)
   release [v,ov,iv] [])) :
  PS X (.Assign [.Subscript (.Attribute (.Name x p1) f pos3) k pos2] e pos) (tS X.K E ca mu (HV C fs j i mk m)):=by
 refine PS.weak (MW he (RO (RS (FA hN hv hd hcd) rfl) hk (zfa hu) ha) hs hw rfl) λD σ H h=>?_
 obtain⟨F,τ,R,S,q⟩:=h;refine⟨F,τ,R,S,?_⟩;unfold HV at q;cases hm:m τ with
 |none=>simp only[hm]at q
 |some r =>
  simp only[hm]at q;cases r with
  |x c=>exact λF' H' e=>q F' H' σ R e.stp0 (S.ext e)
  |v t bb =>
   cases bb with
   |true=>exact λF1 H1 y B e1 g1=>q.elim
   |false =>
    intro F0 H1 y B e0 g0;simp only at q;obtain⟨F1,e1,_,g1⟩:=Cs.frz (b:=false) S e0 g0;have g1':Rp X.K F1 H1 t.share y R0:=(show Rp X.K F1 F1 t.share y R0 from g1).any;cases ho:E2 τ i C fs with
    |none=>simp only[ho]at q
    |some pl =>
     obtain⟨p,l⟩:=pl;simp only[ho]at q;cases hos:H9 l[j]? with
     |none=>simp only[hos]at q
     |some kl =>
      obtain⟨ks,lv⟩:=kl;simp only[hos]at q;have hlj:=zd7 hos;have S1:=S.ext e1;have ht:=M0 ho;obtain⟨y2,ey,ry⟩:=S1.rep i _ ht;obtain⟨dx,xs,Rr,rfl,hA,fp,hp,ro,dp⟩:=ry.oob_inv;have hjl:=(ya5.mp hlj).1;have hjx:j<xs.length:=by rw[<- ro.len];exact hjl
      have hx:xs[j]?=some xs[j]:=ya0 hjx;refine⟨_,ey,p,C,dx,_,xs[j],rfl,hp,c,hn,Sr hj hx,F1,τ,R,S1,?_⟩;cases hkk:mk τ with
      |none=>simp only[hkk]at q
      |some r =>
       simp only[hkk]at q;cases r with
       |x c=>exact λF' H' e=>q F' H' σ R ((e1.stp0).trans e.stp0) (S1.ext e)
       |v tk bk =>
        cases tk with
        |str kk =>
         simp only at q
         by_cases hc:kk∉ks/\ks.length<100000
         .rw[if_pos hc]at q;intro F2 H2 z CC e2 g2;have hz:=Fy g2;subst hz;have e2':Ext F1 H1 F2 H2 R0:=e2.mono λ_ z=>z.elim
          have S2:=S1.ext e2;have ry2:=ry.ext e2;have ro2:=ro.ext e2;have fp2:F2 p=none:=(ry2.dom (by rw[hA];exact .inl rfl)).1
          have hp2:=e2.hh _ _ hp;have rk:=ro2.rep j _ _ hlj hx;obtain⟨pd,ys,exj,hAd,fpd,hpd,el,ek,cc⟩:=rk.osd_inv;have g2':Rp X.K F2 H2 t.share y R0:=g1'.ext e2;have pdj:Rr j pd:=by rw[hAd]
          have pne:pd≠p:=λz=>dp j (z▸pdj)
          refine⟨pd,Bp ks ys,kk,exj,rfl,hpd,?_,?_⟩
          .rw[ziy ek,<- ek,yej];exact yde hc.2 (by decide)
          .rw[zfm ek hc.1]
           have r3:Rp X.K F2 (upd H2 pd (.dK (Bp (ks++[kk]) (ys++[y])))) (.osd (ks++[kk]) (lv++[t.share])) (.ref pd) (λa=>a=pd):=by
            refine .osd fpd Br (by simp[el]) (by simp[ek]) λj t' x' h1 h2=>?_
            rcases Nat.lt_or_ge j lv.length with w|w
            .rw[yax w]at h1;rw[yax (by omega)]at h2
             exact(cc j t' x' h1 h2).any
            .rw[yaz w]at h1;rw[yaz (by omega)]at h2
             have hj:j - lv.length=0:=by
              have:=(ya5.mp h1).1;simp at this
              omega
             have hj2:j - ys.length=0:=by omega
             rw[hj]at h1;rw[hj2]at h2;simp at h1 h2;subst h1 h2;exact g2'.any
           have oth:∀k,k≠j->¬ Rr k pd:=λk hk z=>ro2.dis k j pd hk z pdj
           have ro3:RpO X.K F2 (upd H2 pd (.dK (Bp (ks++[kk]) (ys++[y])))) (l.set j (.osd (ks++[kk]) (lv++[t.share]))) xs Rr:=by
            refine⟨by rw[yc7];exact ro2.len,λk t' x' h1 h2=>?_,ro2.dis,λk a z=>by rw[yc7];exact ro2.out k a z⟩
            by_cases hk:k=j
            .subst hk;rw[yam hjl]at h1;rw[hx]at h2;cases h1;cases h2;rw[exj,hAd];exact r3
            .rw[yan (yb1 hk)]at h1;exact(ro2.rep k t' x' h1 h2).upd (oth k hk)
           have r4:=RY (C:=C) (fs:=fs) (p:=p) (dx:=dx) ro3 fp2 (by rw[Aj (yb1 pne)];exact hp2) dp
           obtain⟨S3,st3⟩:=S2.upd ht ey (p:=pd) (by rw[hA];exact .inr ⟨j,pdj⟩) r4 (B:=R0) (λa z=>.inl (by rw[hA];exact z)) (λj a z1 z2=>z2)
           exact q F2 _ σ _ ((e1.stp.trans e2.stp0).trans st3) S3
         .rw[if_neg hc]at q;exact q.elim
        |_=>exact λF' H' z CC e2 g2=>q.elim
end
section
variable {X:Cx}{E:L2.St->XK}{ca:Str->Value}{ma mb mc:AA->Option Rs}{a b c:Expr}{pos:Pos}{x:Str}{t:T}
theorem r_con{v:V}{u:Value}(hg:Gl X x)(hm:X.mg x=some u)(rv:RelV v u)(hd:(x == ("__debug__":Str))=false)(r:∀F:Hp,Rp X.K F F t v R0):PE X (.Name x pos) (tM X.K E ca (mC t)) :=
 PE.weak (RR hg hm rv hd) λσ H Q h=>by
  obtain⟨F,τ,R,S,q⟩:=h;exact q F H v R0 (Ext.refl S.fh) (r F).any
def Dp(g g':T->T->Option T)(ma mb mc:AA->Option Rs):AA->Option Rs:=λτ=>match ma τ,mb τ with
 |some (.v t _),some (.v u _)=>if t.flat && u.flat then (match g t u with
  |some (.bl true)=>(match mc τ with
   |some (.v w _)=>if w.flat then (match g' u w with
    |some (.bl k)=>some (.v (.bl k) false)
    |_=>none) else none
   |_=>none)
  |some (.bl false)=>some (.v (.bl false) false)
  |_=>none) else none
 |_,_=>none
theorem Ga{K:k6}{F H F' H':Hp}{R:Nat->Rg}{v:T}{b:Bool}{x:V}{B:Rg}(g:Cs K F H R v b x B)(h:v.flat=true):Rp K F' H' v x R0:=by
 cases b with
 |true=>obtain⟨_,A,_,r⟩:=g;exact r.flat_any h
 |false=>exact(show Rp K F H v x B from g).flat_any h
theorem QS{g g':T->T->Option T}{σ:L2.St}{H:Hp}{Q:VK}(h:tM X.K E ca (Dp g g' ma mb mc) σ H Q):LU (BY X.K g) (BY X.K g') (tM X.K E ca ma) (tM X.K E ca mb) (tM X.K E ca mc) σ H Q:=by
 obtain⟨F,τ,R,S,q⟩:=h;refine⟨F,τ,R,S,?_⟩;unfold Dp at q;cases h1:ma τ with
 |none=>simp only[h1]at q
 |some r1 =>
  cases r1 with
  |x c=>simp only[h1]at q
  |v t b1 =>
   cases h2:mb τ with
   |none=>simp only[h1,h2]at q
   |some r2 =>
    cases r2 with
    |x c=>simp only[h1,h2]at q
    |v u b2 =>
     simp only[h1,h2]at q
     by_cases hf:(t.flat && u.flat)=true
     .rw[if_pos hf]at q;rw[ya3]at hf;intro F1 H1 x B1 e1 g1;have S1:=S.ext e1;refine⟨F1,τ,R,S1,?_⟩;rw[h2];intro F2 H2 y B2 e2 g2;have S2:=S1.ext e2;have e12:Ext F H F2 H2 R0:=(e1.trans e2).mono λ_ z=>z.elim
      cases hg:g t u with
      |none=>simp only[hg]at q
      |some k =>
       cases k with
       |bl k =>
        cases k with
        |false =>
         simp only[hg]at q;refine⟨F2,t,u,_,S2.fh,Ga g1 hf.1,Ga g2 hf.2,hg,λF3 H3 z C3 e3 r3=>⟨false,r3.bl_inv,?_⟩⟩
         rw[if_neg ybm];exact q F3 H3 _ R0 (e12.trans0 (e3.mono λ_ z=>z.elim)) (.bl false)
        |true =>
         simp only[hg]at q;refine⟨F2,t,u,_,S2.fh,Ga g1 hf.1,Ga g2 hf.2,hg,λF3 H3 z C3 e3 r3=>⟨true,r3.bl_inv,?_⟩⟩
         rw[if_pos rfl];have S3:=S2.ext e3;refine⟨F3,τ,R,S3,?_⟩;cases h3:mc τ with
         |none=>simp only[h3]at q
         |some r3 =>
          cases r3 with
          |x c=>simp only[h3]at q
          |v w b3 =>
           simp only[h3]at q
           by_cases hw:w.flat=true
           .rw[if_pos hw]at q;intro F4 H4 z4 B4 e4 g4;have S4:=S3.ext e4;cases hg':g' u w with
            |none=>simp only[hg']at q
            |some k =>
             cases k with
             |bl k =>
              simp only[hg']at q;refine⟨F4,u,w,_,S4.fh,Ga g2 hf.2,Ga g4 hw,hg',λF5 H5 z5 C5 e5 r5=>?_⟩
              rw[r5.bl_inv];exact q F5 H5 _ R0 (e12.trans0 (((e3.trans e4).trans e5).mono λ_ z=>z.elim)) (.bl k)
             |_=>simp only[hg']at q
           .rw[if_neg hw]at q;exact q.elim
       |_=>simp only[hg]at q
     .rw[if_neg hf]at q;exact q.elim
theorem r_chn{op op':CmpOp}{g g':T->T->Option T}(ho:A2 X (compareOp op) (BY X.K g))(ho':A2 X (compareOp op') (BY X.K g'))(ha:PE X a (tM X.K E ca ma))(hb:PE X b (tM X.K E ca mb))(hc:PE X c (tM X.K E ca mc))(hm:lastMarks [op,op'] [b,c]=false) :
  PE X (.Compare a [op,op'] [b,c] pos) (tM X.K E ca (Dp g g' ma mb mc)):=PE.weak (zfx ho ho' ha hb hc hm) λσ H Q h=>QS h
theorem zkt{op op':CmpOp}{g g':T->T->Option T}(ho:A2 X (compareOp op) (BY X.K g))(ho':A2 X (compareOp op') (BY X.K g'))(ha:PE X a (tM X.K E ca ma))(hb:PE X b (tM X.K E ca mb))(hc:PE X c (tM X.K E ca mc))(hm:lastMarks [op,op'] [b,c]=false) :
  PT X (.Compare a [op,op'] [b,c] pos) (Ak X.K E ca (Dp g g' ma mb mc)):=PT.weak (zfn ho ho' ha hb hc hm) λσ H Q h=>QS (Im h)
end
def Ko(x:Str):It:=⟨λi _=>i<x.cps.size,λi H y H'=>H'=H/\∃c,x.cps[i]?=some c/\y=.str ⟨#[c]⟩,λi _=>x.cps.size<=i⟩
theorem zf1{P:Program}{w:World}{K:k6}{tg:Expr}(x:Str)(t:Tok)(it:Addr):Turn P w K tg (Ko x) [it] it (λi h=>h.IsStrIter it (strIterType x) x t i) where
 mem:=by simp
 obj:=λi h st b hb=>by
  have e:b=it:=by simpa using hb
  subst e;obtain⟨o,e,c,d⟩:=st;exact⟨o,e,λv z=>by rw[d]at z;cases z⟩
 keep:=λi h h' st k=>by
  obtain⟨o,e,c,d⟩:=st;exact⟨o,k it (by simp) o e,c,d⟩
 item:=by
  intro X hP hw hK hc i pins s σ H E I hf st hg;subst hP hw hK;have hi:i<x.cps.size:=hg;obtain⟨f0,f1,f2,f3,f4,f5⟩:=hf it (by simp)
  have Ay:∀(h':Heap),h'.IsStrIter it (strIterType x) x t (i+1)->Heap.SameBut it s.heap h'->∃u,some (Value.str ⟨#[x.cps[i]]⟩ s.toks)=some u /\
   wpAny (model X.prog X.w) X.A (letOwnedTupleGo tg (.ref it) u) (λ_ s2=>∃y H',Inv X pins σ H' s2/\RelV y u/\(Ko x).yld i H y H'/\s2.heap.IsStrIter it (strIterType x) x t (i+1)/\∀b∈[it],H' b=none) E { s with heap:=h',toks:=s.toks+1 }:=λh' st' sb=>by
   have I1:Inv X pins σ H { s with heap:=h',toks:=s.toks+1 }:=I.turned (t':=s.toks+1) (λb o hb e=>(sb.2 b hb).trans e) f0 f1 f3 f4 f5
   obtain⟨o,e,c,d⟩:=id st';refine⟨_,rfl,Jq (s:={ s with heap:=h',toks:=s.toks+1 }) e c d ?_ ⟨.str ⟨#[x.cps[i]]⟩,H,I1,⟨_,rfl⟩,⟨rfl,_,yb2 hi,rfl⟩,st',λb hb=>(hf b hb).1⟩⟩
   unfold strIterType;split<;>decide
  cases ha:(x.cps.all λx=>decide (x<128)) with
  |true =>
   have e:strIterType x="str_ascii_iterator":=by unfold strIterType;rw[ha];rfl
   rw[e]at st Ay ⊢;exact wpAny_pyNext_ascii_item st (yb2 hi) Ay
  |false =>
   have e:strIterType x="str_iterator":=by unfold strIterType;rw[ha];rfl
   rw[e]at st Ay ⊢;exact wpAny_pyNext_wide_item st (yb2 hi) Ay
 done:=by
  intro X hP hw hK hc i pins s σ H E I hf st hg;subst hP hw hK;have hi:x.cps.size<=i:=hg;obtain⟨f0,f1,f2,f3,f4,f5⟩:=hf it (by simp)
  have n:x.cps[i]?=none:=Array.getElem?_eq_none hi;cases ha:(x.cps.all λx=>decide (x<128)) with
  |true =>
   have e:strIterType x="str_ascii_iterator":=by unfold strIterType;rw[ha];rfl
   rw[e]at st;exact wpAny_pyNext_ascii_end (I.ok.hd hc) st n λh' eb=>⟨rfl,I.turned (t':=s.toks) (λb o hb e=>eb b o hb e) f0 f1 f3 f4 f5⟩
  |false =>
   have e:strIterType x="str_iterator":=by unfold strIterType;rw[ha];rfl
   rw[e]at st;exact wpAny_pyNext_wide_end (I.ok.hd hc) st n λh' eb=>⟨rfl,I.turned (t':=s.toks) (λb o hb e=>eb b o hb e) f0 f1 f3 f4 f5⟩
 self:=λ_ i s Q E st h=>by
  cases ha:(x.cps.all λx=>decide (x<128)) with
  |true =>
   have e:strIterType x="str_ascii_iterator":=by unfold strIterType;rw[ha];rfl
   rw[e]at st;exact wpAny_pyIter_striter_ascii st h
  |false =>
   have e:strIterType x="str_iterator":=by unfold strIterType;rw[ha];rfl
   rw[e]at st;exact wpAny_pyIter_striter_wide st h
def iStrT(tl:TE):TI:=λσ H P=>tl σ H λx H1=>∃y,x=.str y/\P (Ko y) H1
section
variable {X:Cx}{tg l e:Expr}{tl:TE}{E:L2.St->XK}{ca:Str->Value}{m:AA->Option Rs}
theorem zlc(hl:PE X l tl):PI X tg l (iStrT tl):=by
 intro pins s σ H R I h;refine AO (hl pins s σ H _ I h) λv s1 ⟨x,H1,I1,r1,q1⟩=>?_
 obtain⟨y,rfl,q⟩:=q1;obtain⟨t,rfl⟩:=(show ∃t,v=Value.str y t from r1);refine wpAny_pyIter_strU ?_;refine⟨s1.heap.objs.size,[s1.heap.objs.size],_,_,H1,rfl,I1.kept (t':=s1.toks) λb o e=>yab _ e,zf1 y t _,⟨_,yau _ rfl,rfl,rfl⟩,λb hb=>?_,q⟩
 have e:b=s1.heap.objs.size:=by simpa using hb
 subst e;exact I1.fpOk (ya8 _) (I1.hok.fresh (ya8 _))
def Es(x:Str):List T:=x.cps.toList.map λc=>.str ⟨#[c]⟩
theorem zj2{K:k6}{F:Hp}{x:Str}:Ek K (Ko x) F (Es x):=by
 intro i F' H' s1 s2;refine⟨λt ht=>?_,λe=>?_⟩
 .unfold Es at ht;rw[ya4]at ht;obtain⟨c,e1,rfl⟩:=ya2.mp ht;have hi:i<x.cps.size:=by simpa using (ya5.mp e1).1
  refine⟨hi,λy H'' z=>?_⟩
  obtain⟨rfl,c',hc,rfl⟩:=z;rw[ycp,hc]at e1;cases e1;exact⟨F',Ext.refl s2,.str _⟩
 .show x.cps.size<=i;rw[e];simp[Es]
def An(m:AA->Option Rs):AA->Option RsL:=λτ=>match m τ with
 |some (.v (.str x) _)=>some (.v (Es x) false)
 |_=>G9 m τ
theorem zkx(ha:PE X e (tM X.K E ca m)):PI X tg e (tI X.K E ca (An m)):=by
 refine PI.weak (PI.or (Qy ha) (zlc ha)) λσ H P h=>?_
 obtain⟨F,τ,R,S,q⟩:=h
 by_cases hs:∃x b,m τ=some (.v (.str x) b)
 .obtain⟨x,b,hm⟩:=hs;have e:An m τ=some (.v (Es x) false):=by unfold An;rw[hm]
  rw[e]at q;refine .inr ⟨F,τ,R,S,?_⟩;rw[hm];intro F1 H1 y B e1 g1;exact⟨x,Fy g1,q F1 H1 _ (e1.mono λ_ z=>z.elim) zj2⟩
 .have e:An m τ=G9 m τ:=by
   unfold An;split
   .rename_i x b hm;exact absurd ⟨x,b,hm⟩ hs
   .rfl
  rw[e]at q;exact .inl ⟨F,τ,R,S,q⟩
end
open Classical in
def met(val:Nat->Key):Nat->List Key
 |0=>[]
 |i+1=>if val i∈met val i then met val i else met val i++[val i]
open Classical in
theorem Sj(val:Nat->Key):∀i,(met val i).length<=i
 |0=>ya8 0
 |i+1=>by
  have:=Sj val i;unfold met;split
  .omega
  .rw[yac,ybi]
   omega
section
variable {prog:Program}{w:World}{A:Around}{E:Value->Shared->Prop}
open Classical in
theorem Sq{knd:PySem.KeyKind prog w Key}{R:Result->Shared->Prop}{I:Addr}{fp wr:List Addr}{G:Array GenState->Array GenState->Prop}{n:Nat}{P:Nat->Value->Prop}{St:Nat->Shared->Prop}(W:WalksS prog w A.in1 I fp wr G n P St)(S:Addr)(hS:S∉fp)(val:Nat->Key)
  (hP:∀i v,P i v->knd.is (val i) v=true/\v.scannable=true) (hn:n+1<scanBound):∀(k i:Nat) (s:Shared),n - i=k->i<=n->St i s->Heap.SetOf knd s.heap S (λk'=>decide (k'∈met val i)) (met val i).length ->
   (∀s':Shared,Moved (S::wr) G s s'->Heap.SetOf knd s'.heap S (λk'=>decide (k'∈met val n)) (met val n).length->R (Except.ok (Flow.ret Value.none)) s') ->
   codeAny (model prog w) A (Code.builtin "set.update.loop" { pos:=[Value.ref S,Value.ref I] }) R s
 |0,i,s,hk,hi,st,hset,h=>by
  have e:i=n:=by omega
  subst e;refine codeAny_builtin F.entry_set_update_loop ?_;rw[Around.under_plainId yd5];unfold Builtin.«set.update.loop»;refine yed (W.done s _ _ st λs' mv=>?_)
  refine yeg ?_;refine h s' (mv.mono λb hb=>ya6 _ hb) ?_
  obtain⟨o,es,ep,t,h1,h2⟩:=hset;exact⟨o,es,ep,t,mv.heap S o (λz=>hS (W.sub S z)) h1,h2⟩
 |k+1,i,s,hk,hi,st,hset,h=>by
  have hi':i<n:=by omega
  refine codeAny_builtin F.entry_set_update_loop ?_;rw[Around.under_plainId yd5];unfold Builtin.«set.update.loop»;refine yed (W.item i s _ _ hi' st λv s' pv st' mv=>?_)
  obtain⟨hk1,hk2⟩:=hP i v pv
  have hset':Heap.SetOf knd s'.heap S (λk'=>decide (k'∈met val i)) (met val i).length:=by
   obtain⟨o,es,ep,t,h1,h2⟩:=hset;exact⟨o,es,ep,t,mv.heap S o (λz=>hS (W.sub S z)) h1,h2⟩
  refine yed (yee ?_);unfold setAdd;refine yee (yed (knd.pyHash hk1 ?_));have hl:=Sj val i;refine wpAny_setAddHashed_of (s:={ s' with toks:=s'.toks+1 }) hk1 hk2 hset' (by omega) λh' sb hset2=>?_
  refine yeg ⟨plainId_quiet yd5 _,?_⟩;have st2:=W.frame (i+1) s' h' (s'.toks+1) st' (ycd _) λb hb o e=>(sb.2 b (λz=>hS (z▸hb))).trans e
  have mv2:Moved (S::wr) G s { s' with heap:=h',toks:=s'.toks+1 }:=(mv.mono λb hb=>ya6 _ hb).then_heap (ycd _) λb o hb e=>(sb.2 b (λz=>hb (by rw[z];exact ya7 ..))).trans e
  refine Sq W S hS val hP hn k (i+1) _ (by omega) (by omega) st2 ?_ λs'' mv3 hs3=>h s'' (mv2.trans W.gtrans mv3) hs3
  have hS:(λk'=>(decide (k'∈met val i) || decide (k'=val i)))=λk'=>decide (k'∈met val (i+1)):=funext λk'=>by
   conv=>rhs;unfold met
   by_cases hm:val i∈met val i
   .rw[if_pos hm]
    by_cases e:k'=val i
    .rw[e,yer hm];rfl
    .rw[yea e,ydv]
   .rw[if_neg hm,ycm];simp only[ybk,yev,ybb,yaa]
  have hN:(if decide (val i∈met val i)=true then (met val i).length else (met val i).length+1)=(met val (i+1)).length:=by
   conv=>rhs;unfold met
   by_cases hm:val i∈met val i
   .rw[if_pos hm,if_pos (yer hm)]
   .rw[if_neg hm,if_neg (λz=>hm (yez z)),yac,ybi]
  obtain⟨o,es,ep,t,h1,h2,h3,h4,h5,h6,h7,h8⟩:=hset2;refine⟨o,es,ep,t,h1,h2,h3,h4,λk'=>?_,h6,h7,h8.trans hN⟩
  rw[<- h5 k'];have e:=congrFun hS k';show decide (k'∈met val (i+1))=true ↔ _;rw[<- e]
end
open Classical in
theorem zbs{prog:Program}{w:World}{A:Around}{E:Value->Shared->Prop}{s:Shared}{l:Addr}{items:Array Value}{knd:PySem.KeyKind prog w Key}{val:Nat->Key}{Q:Value->Shared->Prop}(hh:A.handled=none)(hl:s.heap.IsList l items)
  (hP:∀(i:Nat) (v:Value),items[i]?=some v->knd.is (val i) v=true/\v.scannable=true) (hb:items.size+1<scanBound)
  (h:∀(h':Heap) (tk:Nat),Heap.SetOf knd h' s.heap.objs.size (λk'=>decide (k'∈met val items.size)) (met val items.size).length->(∀(b:Nat) (o:Obj),b<s.heap.objs.size->s.heap.get? b=some o->h'.get? b=some o)->Q (.ref s.heap.objs.size) { s with heap:=h',toks:=tk }) :
  wpAny (model prog w) A (call (Value.type "set") [Value.ref l]) Q E s:=by
 obtain⟨c,tl,hmro⟩:=yd1.mro;have hmade:=yd1.made;have hsub:=yd1.sub;refine yek (codeAny_of_tree ?_);refine yeg ⟨Code.quiet_builtin _ (by decide +kernel),codeAny_builtin F.entry_type_call ?_⟩
 have hu:=Around.under_plain (A:=A) (weight_type_call_type "set" [Value.ref l] []) rfl;have h1:=yd1.notType;have h2:=yd1.canCreate;have hct:=F.typeCall_set_1 (Value.ref l);show wpAny (model prog w) (A.under (Code.builtin "type.__call__" { pos:=[Value.type "set",Value.ref l] })) _ _ _ s;rw[hu];unfold Builtin.«type.__call__»;refine yf0 (by rw[h1];rfl) (yf0 (by rw[h2];rfl) ?_)
 refine yed (yf1 hct (yed (yf1 hmro (yf0 rfl (yed (yf1 hmade (yed (yeg (yed (yee (yek (yel (code_set_new_1 (E:=λ_ _=>False) (Value.ref l) (Q₁:=λv s'=>∃led:Bool,v=.ref s.heap.objs.size/\s'={ s with heap:=s.heap.push { cls:=.type "set",data:=.set #[] 0 (SetTable.fresh 0 0 led) } }) λled=>⟨led,rfl,rfl⟩) λr s₁ hr=>?_))))))))))))
 cases r with
 |error e=>exact False.elim hr
 |ok fl =>
  cases fl with
  |next=>exact False.elim hr
  |brk=>exact False.elim hr
  |cont=>exact False.elim hr
  |ret v =>
   obtain⟨led,rfl,rfl⟩:=(show ∃led:Bool,v=.ref s.heap.objs.size/\s₁={ s with heap:=s.heap.push { cls:=.type "set",data:=.set #[] 0 (SetTable.fresh 0 0 led) } } from hr)
   have ho:(s.heap.push { cls:=.type "set",data:=.set #[] 0 (SetTable.fresh 0 0 led) }).get? s.heap.objs.size=some { cls:=.type "set",data:=.set #[] 0 (SetTable.fresh 0 0 led) }:=yau _ rfl;have hT:Shared.TypeIs { s with heap:=s.heap.push { cls:=.type "set",data:=.set #[] 0 (SetTable.fresh 0 0 led) } } (.ref s.heap.objs.size) "set":=⟨_,ho,rfl⟩
   have hin:=yd1.init;refine yed (yf2 hT hsub (yf0 rfl (yed (yee ?_))));unfold callSpecial?;refine yed (wpAny_specialOf hT hin.lookup (yee (yed (yf1 (hin.bind _) (yed (yek (yel (R:=wants (λv s'=>v=.none/\∃tk h',s'={ s with heap:=h',toks:=tk }/\Heap.SetOf knd h' s.heap.objs.size (λk'=>decide (k'∈met val items.size)) (met val items.size).length/\∀(b:Nat) (o:Obj),b<s.heap.objs.size->s.heap.get? b=some o->h'.get? b=some o) λ_ _=>False) (codeAny_call_builtin hin.plain F.entry_set_init (check_set_init_1 hT ?_)) λr s₂ hr₂=>?_)))))))
   .unfold Builtin.«set.__init__» noKeywords;refine yed (wpAny_ite_true rfl (yeg ?_));unfold typeNameOfCut shownTypeOf;refine yed (yed (yed (wpAny_typeOf hT (yf0 (by decide +kernel) (yeg ?_)))))
    refine yf1 (rfl:typeNameCut 200 (Value.type "set")=pure _) ?_;refine yed (yf1 (rfl:checkCount _ 0 1 1=pure ()) ?_);refine yed (yeg ?_);unfold setUsed setState;refine yed (yed (yed (wpAny_load ho (yf0 rfl (yeg (yeg (yf0 rfl ?_)))))));obtain⟨ol,hol,hcl,nl,hdl⟩:=id hl;have hol2:(s.heap.push { cls:=.type "set",data:=.set #[] 0 (SetTable.fresh 0 0 led) }).get? l=some ol:=yab _ hol;have hTl:Shared.TypeIs { s with heap:=s.heap.push { cls:=.type "set",data:=.set #[] 0 (SetTable.fresh 0 0 led) } } (.ref l) "list":=⟨_,hol2,hcl⟩
    unfold Builtin.Frozenset.updateFrom Builtin.Frozenset.isAnySet;refine yed (yed (yed (yf2 hTl F.sub_list_set ?_)));have hl2:(s.heap.push { cls:=.type "set",data:=.set #[] 0 (SetTable.fresh 0 0 led) }).IsList l items:=⟨ol,hol2,hcl,nl,hdl⟩;refine yf2 hTl F.sub_list_frozenset (yf0 rfl (yed (wpAny_typeOf hTl (yf0 (by decide +kernel) (yed (yeh hl2 ?_))))))
    have lt:l<s.heap.objs.size:=yad hol;have hsz:(s.heap.push { cls:=.type "set",data:=.set #[] 0 (SetTable.fresh 0 0 led) }).objs.size=s.heap.objs.size+1:=yc4 _ _;generalize hhp:s.heap.push { cls:=.type "set",data:=.set #[] 0 (SetTable.fresh 0 0 led) }=hp at *
    have hS:s.heap.objs.size∉[hp.objs.size,l]:=by
     rw[hsz];intro z
     rcases yai.mp z with e|e
     .exact absurd e (yaq (ycr _))
     .exact absurd (yaa.mp e) (Nat.ne_of_gt lt)
    refine yed (wpAny_runValue ?_);refine Sq (knd:=knd) (A:=A.in1.in1) (Walks.list (A:=A.in1.in1.in1) hh hp.objs.size l (by rw[hsz];exact yaq (yca lt)) items).toS s.heap.objs.size hS val (λi v e=>hP i v e) hb items.size 0 _ (by omega) (yba _) ⟨?_,?_⟩ ?_ λs' mv hs'=>?_
    .exact⟨_,yau _ rfl,rfl,rfl⟩
    .exact⟨ol,yab _ hol2,hcl,nl,hdl⟩
    .letI:BEq Key:=⟨λa b=>decide (a=b)⟩
     haveI:LawfulBEq Key:={ eq_of_beq:=λh=>yez h,rfl:=yer rfl }
     have e0:=(setObjOf_fresh (prog:=prog) (w:=w) (knd:=knd) led).setOf (h:=hp.push { cls:=.type "list_iterator",data:=.fields #[.ref l,.int 0 0] }) (a:=s.heap.objs.size) (yab _ ho) (by decide)
     obtain⟨o,es,ep,t,g1,g2,g3,g4,g5,g6,g7,g8⟩:=e0;refine⟨o,es,ep,t,g1,g2,g3,g4,λk'=>?_,g6,g7,g8⟩
     rw[<- g5 k'];simp[met]
    .refine yeg (yeg ?_)
     have b2:∀(b:Nat) (o:Obj),b<s.heap.objs.size->s.heap.get? b=some o->s'.heap.get? b=some o:=λb o hb e=>by
      refine mv.heap b o (λz=>?_) (yab _ (by rw[<- hhp];exact yab _ e))
      rcases yai.mp z with e|e
      .exact absurd e (yaq hb)
      .have e:=yaa.mp e;rw[hsz]at e;exact absurd e (yaq (yca hb))
     have m1:=mv.gens;have m2:=mv.drawn;have m3:=mv.os;obtain⟨hh',g',d',t',os'⟩:=s';refine⟨rfl,t',hh',?_,hs',b2⟩;simp only at m1 m2 m3;rw[m1,m2,m3]
   .cases r with
    |error e=>exact False.elim hr₂
    |ok fl =>
     cases fl with
     |next=>exact False.elim hr₂
     |brk=>exact False.elim hr₂
     |cont=>exact False.elim hr₂
     |ret v =>
      obtain⟨rfl,tk,h',rfl,hs,hk⟩:=(show v=.none/\∃tk h',s₂={ s with heap:=h',toks:=tk }/\Heap.SetOf knd h' s.heap.objs.size (λk'=>decide (k'∈met val items.size)) (met val items.size).length/\∀(b:Nat) (o:Obj),b<s.heap.objs.size->s.heap.get? b=some o->h'.get? b=some o from hr₂)
      refine yeg (yf0 rfl (yeg ?_));exact h h' tk hs hk
def P1(P:Program)(w:World)(a:Addr)(ks:List Key):HO:=.ext λh=>Heap.SetOf (CB P w) h a (λk=>@decide (k∈ks) (Classical.propDecidable _)) ks.length
section
variable {X:Cx}
theorem zen(hc:X.calm=true):BZ X (.type "set") (λxs H Q=>∃(p:Addr) (ys:List Str),xs=[.ref p]/\AS X.K H p (ys.map V.str)/\ys.length<1000/\∀a,H a=none->Q (.ref a) (upd H a (P1 X.prog X.w a (met (λi=>Sum.inr (ys.getD i Str.empty)) ys.length)))):=by
 intro pins s σ H xs us Q I r h;obtain⟨p,ys,rfl,hq,hz,q⟩:=h;obtain⟨u,rfl,rx⟩:=De r;cases rx;obtain⟨its,r',pl,_⟩:=I.list hq;have hlen:=r'.length;rw[ya1]at hlen;have hsz:its.toArray.size=ys.length:=by rw[yah];exact hlen.symm
 refine zbs (knd:=CB X.prog X.w) (val:=λi=>Sum.inr (ys.getD i Str.empty)) (I.ok.hd hc) pl.isList (λi v e=>?_) (by rw[hsz];exact yaj (Nat.succ_lt_succ hz) (by decide)) λh' tk hs kp=>?_
 .have e':its[i]?=some v:=by simpa using e
  have hi:i<ys.length:=by rw[hlen];exact(ya5.mp e').1
  have hx:(ys.map V.str)[i]?=some (.str ys[i]):=by rw[ya4,ya0 hi];rfl
  obtain⟨u,e2,ru⟩:=r'.get hx;rw[e']at e2;cases e2;obtain⟨t,rfl⟩:=(show ∃t,v=Value.str ys[i] t from ru);refine⟨?_,rfl⟩;show E7 (Sum.inr (ys.getD i Str.empty)) (Value.str ys[i] t)=true;rw[ya9,ya0 hi];show(ys[i] == ys[i])=true;exact yex _
 .rw[hsz]at hs;refine⟨.ref s.heap.objs.size,_,I.laid (a:=s.heap.objs.size) (o:=P1 X.prog X.w s.heap.objs.size (met (λi=>Sum.inr (ys.getD i Str.empty)) ys.length)) (t':=tk) (λb o e=>kp b o (yad e) e) (ya8 _) ⟨?_,?_,?_⟩,rfl,q _ (I.hok.fresh (ya8 _))⟩
  .exact hs
  .obtain⟨o,es,ep,t,g1,_⟩:=hs;exact⟨o,g1⟩
  .intro h1 h2 p1 k;obtain⟨o,es,ep,t,g1,g2⟩:=p1;exact⟨o,es,ep,t,k o g1,g2⟩
theorem zep:BZ X (.builtin "len") (λxs H Q=>∃a ks,xs=[.ref a]/\H a=some (P1 X.prog X.w a ks)/\Q (.int ks.length) H):=by
 intro pins s σ H xs us Q I r h;obtain⟨a,ks,rfl,ha,q⟩:=h;obtain⟨u,rfl,rx⟩:=De r;cases rx;obtain⟨⟨o,es,ep,t,g1,g2,g3,g4,g5,g6,g7,g8⟩,_⟩:=(show _/\_ from I.hok a _ ha)
 have hb:((es.size:Nat):Int)<2 ^ 63:=by
  have:scanBound<=2 ^ 40:=by decide
  have g6':es.size<scanBound:=g6
  omega
 refine call_len_set g1 g2 g3 g7 hb ⟨.int (es.size:Int),H,I.tok _,⟨_,rfl⟩,?_⟩;rw[show es.size=ks.length from g8];exact q
end
def EA:List T->Option (List Str)
 |[]=>some []
 |.str x::r=>(match EA r with
  |some l=>some (x::l)
  |none=>none)
 |_::_=>none
theorem Q4{K:k6}{F:Hp}:∀{l:List T} {ys:List Str} {xs:List V},EA l=some ys->A6 K F l xs->xs=ys.map V.str
 |[],ys,xs,h,r=>by
  cases h;exact r.inv0
 |t::l,ys,xs,h,r=>by
  obtain⟨x,xs',rfl,r1,r2⟩:=r.inv;unfold EA at h;split at h
  .rename_i e;cases e
  .rename_i y r e;cases e;split at h
   .rename_i l' hl;cases h;rw[r1.str_inv,Q4 hl r2]
    rfl
   .cases h
  .cases h
def LI(ys:List Str):Nat:=(met (λi=>Sum.inr (ys.getD i Str.empty)) ys.length).length
def GQ:T->Option T
 |.nd _ .lst l=>(match EA l with
  |some ys=>if ys.length<1000 then some (.int (LI ys)) else none
  |none=>none)
 |_=>none
section
variable {X:Cx}{E:L2.St->XK}{ca:Str->Value}{m:AA->Option Rs}{e:Expr}{pos p p2 p3:Pos}
theorem r_unq(hc:X.calm=true)(hg:Gl X "len")(hm:X.mg "len"=none)(hg2:Gl X "set")(hm2:X.mg "set"=none)(ha:PE X e (tM X.K E ca m))(he:starEach [e] X.env=[(false,eval e X.env)]) :
  PE X (.Call (.Name "len" p) [.Call (.Name "set" p2) [e] [] p3] [] pos) (tM X.K E ca (BQ (g1 GQ) (AE m AF))):=by
 have hset:=RT (pos:=p3) (p:=p2) (zen hc) hg2 hm2 (show bootBuiltins "set"=some (.type "set") from rfl) (DU ha EI he) (by decide) (by decide) he rfl
 refine PE.weak (JU (zep (X:=X)) hg hm PySem.boot_len (DU hset EI rfl) (by decide) (by decide) rfl rfl) λσ H Q h=>?_
 refine(F7 (F8 h)).mono λx H1 h1=>?_
 obtain⟨F,ts,v,fh,rs,e,q⟩:=F6 h1;unfold g1 at e;split at e
 .obtain⟨x1,xs1,e1,r1,rs1⟩:=rs.inv;cases e1;unfold GQ at e;split at e
  .split at e
   .rename_i o l ys hy;split at e
    .rename_i hz;cases e;obtain⟨pp,zs,rfl,_,n,kd⟩:=Cp r1;have hF:F pp=some (.lst zs):=n;refine⟨pp,ys,rfl,AS.of (by rw[<- Q4 hy kd];exact fh _ _ hF),hz,λa ha=>⟨a,_,rfl,Br,?_⟩⟩
     exact q F _ _ R0 ((Ext.newO fh ha).mono λ_ z=>z.elim) (Rp.int _)
    .cases e
   .cases e
  .cases e
 .cases e
end
def DX:T->T->Option T
 |.int i,.int j=>some (.bl (decide (i<=j)))
 |.str x,.str y=>some (.bl (!(@decide (y.cps.toList<x.cps.toList) (Classical.propDecidable _))))
 |_,_=>none
section
variable {X:Cx}{E:L2.St->XK}{ca:Str->Value}{m mk:AA->Option Rs}{o k:Expr}{pos apos cpos:Pos}
theorem zic:A2 X (compareOp .LtE) (BY X.K DX):=by
 intro pins s σ H x y v u Q I rx ry h;obtain⟨F,t1,t2,r,fh,r1,r2,e,q⟩:=h;unfold DX at e;split at e
 .cases e;rw[r1.int_inv]at rx;rw[r2.int_inv]at ry;exact RW pins s σ H _ _ v u Q I rx ry ⟨_,_,rfl,rfl,q.bl fh⟩
 .rename_i a b;cases e;rw[r1.str_inv]at rx;rw[r2.str_inv]at ry;obtain⟨t,rfl⟩:=(show ∃t,v=Value.str a t from rx);obtain⟨t',rfl⟩:=(show ∃t,u=Value.str b t from ry);refine PySem.P.le_str ⟨.bl _,H,I,rfl,?_⟩;have q1:=q.bl fh;rw[show(!decide (b.cps.toList<a.cps.toList))=!(@decide (b.cps.toList<a.cps.toList) (Classical.propDecidable _)) from congrArg _ (by rw[ycm,yev,@decide_eq_true_eq _ (Classical.propDecidable _)])]
  exact q1
 .cases e
end
def FI(ys:List Str)(y:Str):Option Nat:=ys.findIdx? λx=>@decide (x=y) (Classical.propDecidable _)
section
variable {X:Cx}{E:L2.St->XK}{ca:Str->Value}{m mk:AA->Option Rs}{o k:Expr}{pos apos cpos:Pos}
end
def Ih:T->Option T
 |.nd _ .lst l=>some (.tup l)
 |_=>none
theorem zer{X:Cx}:BZ X (.type "tuple") (Cm X.K (g1 Ih)):=by
 intro pins s σ H xs us Q I r h;obtain⟨F,ts,v,fh,rs,e,q⟩:=h;unfold g1 at e;split at e
 .obtain⟨x1,xs1,rfl,r1,rs1⟩:=rs.inv;cases rs1.inv0;unfold Ih at e;split at e
  .cases e;obtain⟨p,ys,rfl,rfl,n1,k1⟩:=Cp r1;have hF:F p=some (.lst ys):=n1;exact zbr pins s σ H _ us Q I r ⟨p,ys,rfl,.inl ⟨AS.of (fh _ _ hF),λl hl=>q.tuple fh k1 hl⟩⟩
  .cases e
 .cases e
section
variable {X:Cx}{E:L2.St->XK}{ca:Str->Value}{mu:Bool}{i:Nat}{x n:Str}{np pos hpos:Pos}{body suite:List Stmt}{b₀:Stmt}{u h:AA->Option Out}{cs:List (Str×Addr)}
theorem StR.put{K:k6}{F H:Hp}{σ:L2.St}{τ:AA}{R:Nat->Rg}{i:Nat}{t:T}{v:V}(S:StR K F H σ τ R)(hi:i<τ.length)(r:Rp K F H t v R0):StR K F H (σ.set i (some v)) (τ.set i (some t)) (λj=>if j=i then R0 else R j):=by
 refine⟨S.fh,by simpa using S.len,λj t' e=>?_,λj a z=>?_,λj k a hjk z1 z2=>?_⟩
 .by_cases hj:j=i
  .subst hj;rw[yam hi]at e;cases e;exact⟨v,yam (by rw[S.len];exact hi),by simpa using r⟩
  .rw[yan (yb1 hj)]at e;obtain⟨y,e1,r1⟩:=S.rep j t' e;exact⟨y,by rw[yan (yb1 hj)];exact e1,by simpa[hj] using r1⟩
 .by_cases hj:j=i
  .simp only[hj,yeo]at z;exact z.elim
  .simp only[hj,yep]at z;obtain⟨t',e⟩:=S.out j a z;exact⟨t',by rw[yan (yb1 hj)];exact e⟩
 .by_cases hj:j=i
  .simp only[hj,yeo]at z1;exact z1.elim
  .by_cases hk:k=i
   .simp only[hk,yeo]at z2;exact z2.elim
   .simp only[hj,yep]at z1;simp only[hk,yep]at z2;exact S.dis j k a hjk z1 z2
end
def isXT(tb:List (Addr×Bool)):T->Option T
 |.obj (.exn C) _=>(match tb.lookup C with
  |some b=>some (.bl b)
  |none=>none)
 |_=>none
section
variable {X:Cx}{E:L2.St->XK}{ca:Str->Value}{m:AA->Option Rs}{e:Expr}{pos p p2:Pos}{c:Str}{v:V}{tb:List (Addr×Bool)}
end
def Kd.isLst:Kd->Bool
 |.lst=>true
 |_=>false
section
variable {X:Cx}{E:L2.St->XK}{ca:Str->Value}{mu:Bool}{i j:Nat}{tg it c:Expr}{ret:List Stmt}{mc:AA->Option Rs}{k:T}{ip pos:Pos}
end
section
variable {X:Cx}{E:L2.St->XK}{ca:Str->Value}{mu:Bool}{i j:Nat}{tg it e:Expr}{m:AA->Option Rs}{t:T}{p1 apos cpos pos bpos:Pos}{x:Str}
end
section
variable {X:Cx}{E:L2.St->XK}{ca:Str->Value}{m mk ma:AA->Option Rs}{o k e a:Expr}{pos apos cpos p p2:Pos}
def rSlS:V->Option Int->Option Int->Hp->VK->Prop:=λx lo hi H Q=>∃z:Str,x=.str z/\z.length<=BE/\Q (.str (Txt.slice z lo hi)) H
theorem zkf:GF X rSlS:=by
 intro pins s σ H x v vl vu lo hi sl Q I rx hs pl pu q;obtain⟨z,rfl,hz,q⟩:=q;obtain⟨t,rfl⟩:=(show ∃t,v=Value.str z t from rx);obtain⟨ob,ho,hc,hd⟩:=hs;rw[DP]at hz;cases pl with
 |none =>
  cases pu with
  |none=>exact⟨"str",_,ycg.lookup,yen _ _ _,yf3 (l:=none) (u:=none) (st:=none) ⟨ob,ho,hc,hd⟩ rfl (yf4 ⟨yaf (ye6 z _ _) hz,λt' k=>⟨.str _,H,I.tok _,⟨_,rfl⟩,q⟩⟩)⟩
  |int j uj=>exact⟨"str",_,ycg.lookup,yen _ _ _,yf3 (l:=none) (u:=some (j,uj)) (st:=none) ⟨ob,ho,hc,hd⟩ rfl (yf4 ⟨yaf (ye6 z _ _) hz,λt' k=>⟨.str _,H,I.tok _,⟨_,rfl⟩,q⟩⟩)⟩
 |int i ui =>
  cases pu with
  |none=>exact⟨"str",_,ycg.lookup,yen _ _ _,yf3 (l:=some (i,ui)) (u:=none) (st:=none) ⟨ob,ho,hc,hd⟩ rfl (yf4 ⟨yaf (ye6 z _ _) hz,λt' k=>⟨.str _,H,I.tok _,⟨_,rfl⟩,q⟩⟩)⟩
  |int j uj=>exact⟨"str",_,ycg.lookup,yen _ _ _,yf3 (l:=some (i,ui)) (u:=some (j,uj)) (st:=none) ⟨ob,ho,hc,hd⟩ rfl (yf4 ⟨yaf (ye6 z _ _) hz,λt' k=>⟨.str _,H,I.tok _,⟨_,rfl⟩,q⟩⟩)⟩
def DN(ma:AA->Option Rs)(ml mh:Option (AA->Option Rs)):AA->Option Rs:=λτ=>match ma τ with
 |some (.v (.str z) _)=>(match Dn ml τ,Dn mh τ with
  |some lo,some hi=>if z.length<=BE then some (.v (.str (Txt.slice z lo hi)) false) else none
  |_,_=>none)
 |_=>none
theorem zfk{lo hi:Option Expr}{ml mh:Option (AA->Option Rs)}(ha:PE X a (tM X.K E ca ma))(hl:PO X lo (FZ X.K ml))(hh:PO X hi (FZ X.K mh)):PE X (.Subscript a (.Slice lo hi none p2) pos) (tM X.K E ca (DN ma ml mh)):=by
 refine PE.weak (RP zkf ha hl hh) λσ H Q h=>?_
 obtain⟨F,τ,R,S,q⟩:=h;refine⟨F,τ,R,S,?_⟩;unfold DN at q;cases hm:ma τ with
 |none=>rw[hm]at q;exact q.elim
 |some r =>
  rw[hm]at q;cases r with
  |x c=>exact q.elim
  |v t bb =>
   cases t with
   |str z =>
    simp only at q;intro F1 H1 x B e1 g1;have hx:=Fy g1;subst hx;have e1':Ext F H F1 H1 R0:=e1.mono λ_ z=>z.elim
    have S1:=S.ext e1';cases h1:Dn ml τ with
    |none=>simp only[h1]at q
    |some lo' =>
     refine⟨F1,τ,R,lo',S1,h1,λF2 H2 e2=>?_⟩
     have S2:=S1.ext e2;cases h2:Dn mh τ with
     |none=>simp only[h1,h2]at q
     |some hi' =>
      simp only[h1,h2]at q;refine⟨F2,τ,R,hi',S2,h2,λF3 H3 e3=>?_⟩
      by_cases hz:z.length<=BE
      .rw[if_pos hz]at q;exact⟨z,rfl,hz,q F3 H3 _ R0 (e1'.trans0 (e2.trans0 e3)) (.str _)⟩
      .rw[if_neg hz]at q;exact q.elim
   |_=>exact q.elim
def rJoin:V->List V->Hp->VK->Prop:=λx vs H Q=>∃(sep:Str) (l:Addr) (ys:List Str),x=.str sep/\vs=[.ref l]/\H l=some (.lst (ys.map V.str))/\(ys.map (·.length)).sum+ys.length * sep.length<=BE/\Q (.str (Txt.join sep ys)) H
theorem Q3:∀{ys:List Str} {its:List Value},AR (ys.map V.str) its->StrsAre its ys
 |[],its,r=>by
  cases r;exact .nil
 |y::ys,its,r=>by
  cases r with
  |cons h t =>
   obtain⟨tk,rfl⟩:=h;exact .cons _ _ (Q3 t)
theorem zil:IJ X "str.join" rJoin:=by
 intro pins s σ H x vs v us Q I rx rv h;obtain⟨sep,l,ys,rfl,rfl,hH,hz,q⟩:=h;obtain⟨t,rfl⟩:=(show ∃t,v=Value.str sep t from rx);obtain⟨u,rfl,ru⟩:=rv.one;cases ru;obtain⟨its,r,pl,_⟩:=I.list (AS.of hH);refine join_list (items:=its.toArray) pl.isList (Q3 r) (by rw[DP]at hz;exact hz) λt' k=>⟨.str _,H,I.tok _,⟨_,rfl⟩,q⟩
def FE(m mk:AA->Option Rs):AA->Option Rs:=λτ=>match m τ with
 |some (.v (.str sep) _)=>(match mk τ with
  |some (.v (.nd _ .lst l) _)=>(match EA l with
   |some ys=>if (ys.map (·.length)).sum+ys.length * sep.length<=BE then some (.v (.str (Txt.join sep ys)) false) else none
   |none=>none)
  |_=>none)
 |_=>none
theorem zmc{K:k6}{F H:Hp}{o:Bool}{l:List T}{x:V}{A:Rg}(s:AQ F H)(h:Rp K F H (.nd o .lst l) x A):∃p xs,x=.ref p/\H p=some (.lst xs)/\l.length=xs.length/\∀(i:Nat) (t:T) (x:V),l[i]?=some t->xs[i]?=some x->∃B,Rp K F H t x B:=by
 cases h with
 |shr h e c=>exact⟨_,_,rfl,s _ _ h,e,λi t x h1 h2=>⟨_,c i t x h1 h2⟩⟩
 |own hk R f h e c d dp o=>exact⟨_,_,rfl,h,e,λi t x h1 h2=>⟨_,c i t x h1 h2⟩⟩
theorem Q1{K:k6}{F H:Hp}:∀{l:List T} {ys:List Str} {xs:List V},EA l=some ys->l.length=xs.length->(∀(i:Nat) (t:T) (x:V),l[i]?=some t->xs[i]?=some x->∃B,Rp K F H t x B)->xs=ys.map V.str
 |[],ys,xs,h,e,_=>by
  cases h;cases xs with
  |nil=>rfl
  |cons _ _=>simp at e
 |t::l,ys,[],h,e,_=>by simp at e
 |t::l,ys,x::xs,h,e,f=>by
  unfold EA at h;split at h
  .cases ‹_::_=[]›
  .rename_i z r hh;cases hh;split at h
   .rename_i l' hl;cases h;obtain⟨B,r0⟩:=f 0 _ x rfl rfl;have ih:xs=l'.map V.str:=Q1 hl (by simpa using e) λi t x h1 h2=>f (i+1) t x (by simpa using h1) (by simpa using h2)
    rw[r0.str_inv,ih]
    rfl
   .cases h
  .cases h
theorem zkw(ho:PE X o (tM X.K E ca m))(hk:PE X k (tM X.K E ca mk))(hbase:attributeBase o "join" X.env (eval o X.env)=eval o X.env)(hs:starEach [k] X.env=[(false,eval k X.env)])(hline:(apos.endLine == cpos.line)=true) :
  PE X (.Call (.Attribute o "join" apos) [k] [] cpos) (tM X.K E ca (FE m mk)):=by
 refine PE.weak (JV PySem.F.plainAttrs_str PySem.F.slot_str_join PySem.F.type_str_join zil ho (DU hk EI hs) hbase (by rw[hs];rfl) hline hs rfl) λσ H Q h=>?_
 obtain⟨F,τ,R,S,q⟩:=h;refine⟨F,τ,R,S,?_⟩;unfold FE at q;cases hm:m τ with
 |none=>rw[hm]at q;exact q.elim
 |some r =>
  rw[hm]at q;cases r with
  |x c=>exact q.elim
  |v t b =>
   cases t with
   |str sep =>
    simp only at q;intro F1 H1 x B e1 g1;have hx:=Fy g1;subst hx;have e1':Ext F H F1 H1 R0:=e1.mono λ_ z=>z.elim
    refine⟨rfl,F1,τ,R,S.ext e1',?_⟩;cases hk2:mk τ with
    |none=>rw[hk2]at q;exact q.elim
    |some r2 =>
     rw[hk2]at q;cases r2 with
     |x c=>exact q.elim
     |v t2 b2 =>
      cases t2 with
      |nd o2 k2 l =>
       cases k2 with
       |lst =>
        simp only at q;intro F2 H2 z B2 e2 g2
        have hr:∃A,Rp X.K F2 H2 (.nd o2 .lst l) z A:=by
         cases b2 with
         |true=>obtain⟨_,A,_,r⟩:=g2;exact⟨A,r⟩
         |false=>exact⟨_,g2⟩
        obtain⟨A,r⟩:=hr;obtain⟨p,xs,rfl,hH,el,kd⟩:=zmc e2.fh r;cases hy:EA l with
        |none=>simp only[hy]at q
        |some ys =>
         simp only[hy]at q;have hxs:=Q1 hy el kd
         by_cases hz:(ys.map (·.length)).sum+ys.length * sep.length<=BE
         .rw[if_pos hz]at q;exact⟨sep,p,ys,rfl,rfl,by rw[<- hxs];exact hH,hz,q F2 H2 _ R0 ((e1'.trans e2).mono λ_ z=>z.elim) (.str _)⟩
         .rw[if_neg hz]at q;exact q.elim
       |_=>exact q.elim
      |_=>exact q.elim
   |_=>exact q.elim
def rIxD:R2:=λx y H Q=>∃a kvs k v,x=.ref a/\y=.str k/\H a=some (.dK kvs)/\Cg kvs (Sum.inr k)=some v/\Q v H
theorem zmt(hu:X.A.units+1<cLine):EV X rIxD:=by
 intro value slice pins s σ H x y v u Q I rx ry h hs;obtain⟨a,kvs,k,w,rfl,rfl,hH,hv,q⟩:=h;cases rx;have g:GL H a (kV (Sum.inr k)) (some w):=hv▸GL.k hH
 have hT:s.TypeIs (.ref a) "dict":=by
  obtain⟨_,_,vs,_,dd⟩:=Ug I.hok hH;exact dd.typeIs
 unfold subscriptTail;refine yed ?_;rw[getitemInPython_of_ne hT.not_modules];refine yed (wpAny_specialOf hT PySem.F.slot_dict_getitem.lookup ?_)
 have Ay:wpAny (model X.prog X.w) X.A (subscripted slice false (.ref a) u) (λr s₃=>wpAny (model X.prog X.w) X.A (letTemporaryGo value (.ref a) r >>= λ_=>pure r) (EP X pins σ Q) X.xe s₃) X.xe s:=by
  rw[hs];exact wpAny_operating (yeb (zei hu I g (show L2.RelV (kV (Sum.inr k)) u from ry) λw' s3 I3 rw'=>(⟨w,H,I3,rw',q⟩:EP X pins σ Q w' s3)) (λr s₃ h₃=>yed (wpAny_letTemporaryGo (yeg h₃))) λ_ _ x=>x)
 first|exact yeg (yed Ay)|exact yed (yeg (yed Ay))|exact yed Ay
def Hg(m mk:AA->Option Rs):AA->Option Rs:=λτ=>match m τ with
 |some (.v (.obj (.sdc ks) l) _)=>(match mk τ with
  |some (.v (.str y) _)=>(match FI ks y with
   |some j=>(match l[j]? with
    |some u=>if u.sh then some (.v u false) else none
    |none=>none)
   |none=>none)
  |_=>none)
 |_=>none
theorem Pp:∀{ks:List Str} {xs:List V} {y:Str} {j:Nat} {v:V},FI ks y=some j->xs[j]?=some v->Cg (Bp ks xs) (Sum.inr y)=some v
 |[],xs,y,j,v,h,_=>by simp[FI]at h
 |k::ks,[],y,j,v,_,h=>by simp at h
 |k::ks,x::xs,y,j,v,h,hx=>by
  show Cg ((Sum.inr k,x)::Bp ks xs) (Sum.inr y)=some v;unfold FI at h;rw[ydt]at h
  by_cases e:k=y
  .rw[@decide_eq_true _ (Classical.propDecidable _) e]at h;simp only[yeo,yd7]at h;subst h;rw[IZ (p:=(Sum.inr k,x)) (by rw[e])]
   simpa using hx
  .rw[@decide_eq_false _ (Classical.propDecidable _) e]at h;simp only[yc6,yep,ya2]at h;obtain⟨j',h1,rfl⟩:=h;rw[Ia (p:=(Sum.inr k,x)) (λz=>e (Sum.inr.inj z))]
   exact Pp (show FI ks y=some j' from h1) (by simpa using hx)
theorem r_gt(hu:X.A.units+1<cLine)(ho:PE X o (tM X.K E ca m))(hk:PE X k (tM X.K E ca mk))(hs:Km k):PE X (.Subscript o k pos) (tM X.K E ca (Hg m mk)):=by
 refine PE.weak (RQ (zmt hu) ho hk hs) λσ H Q h=>?_
 obtain⟨F,τ,R,S,q⟩:=h;refine⟨F,τ,R,S,?_⟩;unfold Hg at q;cases hm:m τ with
 |none=>rw[hm]at q;exact q.elim
 |some r =>
  rw[hm]at q;cases r with
  |x c=>exact q.elim
  |v t b =>
   cases t with
   |obj kd l =>
    cases kd with
    |sdc ks =>
     simp only at q;intro F1 H1 x B e1 g1;obtain⟨r1,hB⟩:=Jp g1;subst hB;obtain⟨a,xs,rfl,_,⟨hl1,hF⟩,el,cc⟩:=r1.obj_inv;refine⟨F1,τ,R,S.ext e1,?_⟩;cases hk2:mk τ with
     |none=>rw[hk2]at q;exact q.elim
     |some r2 =>
      rw[hk2]at q;cases r2 with
      |x c=>exact q.elim
      |v t2 b2 =>
       cases t2 with
       |str y =>
        simp only at q;intro F2 H2 z B2 e2 g2;have hz:=Fy g2;subst hz;have e2':Ext F1 H1 F2 H2 R0:=e2.mono λ_ z=>z.elim
        cases hj:FI ks y with
        |none=>simp only[hj]at q
        |some j =>
         simp only[hj]at q;cases hu2:l[j]? with
         |none=>simp only[hu2]at q
         |some u =>
          simp only[hu2]at q
          by_cases hsh:u.sh=true
          .rw[if_pos hsh]at q;have hjl:=(ya5.mp hu2).1;have hx:xs[j]?=some xs[j]:=ya0 (by omega)
           have hc:=(cc j u _ hu2 hx).move (F':=F2) (H':=H2) hsh e2'.ff;exact⟨a,_,y,_,rfl,rfl,e2'.hh _ _ (e1.fh _ _ hF),Pp hj hx,q F2 H2 _ R0 (e1.trans0 e2') hc⟩
          .rw[if_neg hsh]at q;exact q.elim
       |_=>exact q.elim
    |_=>exact q.elim
   |_=>exact q.elim
def tKys(to:TE):TE:=λσ H Q=>to σ H λx H1=>∃a ks xs,x=.ref a/\ks.length=xs.length/\H1 a=some (.dK (Bp ks xs))/\∀p,H1 p=none->Q (.ref p) (upd H1 p (.lst (ks.map V.str)))
theorem TK:∀{ks:List Str} {xs:List V},ks.length=xs.length->(Bp ks xs).length=ks.length
 |[],[],_=>rfl
 |[],_::_,h=>by simp at h
 |_::_,[],h=>by simp at h
 |k::ks,x::xs,h=>by
  show(Bp ks xs).length+1=ks.length+1;rw[TK (by simpa using h)]
theorem TM:∀{ks:List Str} {xs:List V} {vs:List (Key×Value)},ks.length=xs.length->KV (Bp ks xs) vs->vs.map (·.1)=ks.map Sum.inr
 |[],[],vs,_,r=>by
  have r':Paired _ [] vs:=(show Paired _ (Bp [] []) vs from r);cases r'
  rfl
 |[],_::_,_,h,_=>by simp at h
 |_::_,[],_,h,_=>by simp at h
 |k::ks,x::xs,vs,h,r=>by
  have r':Paired (λ(p:Key×V) (q:Key×Value)=>p.1=q.1/\RelV p.2 q.2) ((Sum.inr k,x)::Bp ks xs) vs:=r
  cases r' with
  |@cons _ q _ qs hd tl =>
   rw[yae,yae,<- hd.1,TM (by simpa using h) tl]
theorem zll(hc:X.calm=true)(hg:Gl X "list")(hm:X.mg "list"=none){to:TE}(ho:PE X o to)(hs:starEach [o] X.env=[(false,eval o X.env)]) :
  PE X (.Call (.Name "list" p) [o] [] p2) (tKys to):=by
 intro pins s σ H Q I h;refine yem (Fv I hg hm yda ?_ (by decide) (by decide))
 refine ybv ?_ (by rw[hs];rfl) rfl
 rw[hs];show wpAny _ _ (spliced ((false,eval o X.env)::backTo p2 (starEach [] X.env))) _ _ s;refine Calls.spliced_cons (AO (ho pins s σ H _ I h) λv s1 ⟨x,H1,I1,r1,q1⟩=>?_)
 obtain⟨a,ks,xs,rfl,el,hd,q⟩:=q1;cases r1;obtain⟨z,hsm,vs,rel,o',es,ep,ho',r⟩:=(show BR X.prog X.w H1 s1.heap a (.dK (Bp ks xs)) from I1.hok a _ hd);have hat:s1.heap.DictAt (CB X.prog X.w) a vs ep:=⟨o',es,ho',r⟩;refine Calls.spliced_nil ?_;refine PySem.W.kdl_call (PySem.W.kdl_dict (knd:=CB X.prog X.w) (d:=a) (kvs:=vs) (ep:=ep) hsm) (I1.ok.hd hc) hat (by rw[<- NS rel];exact z) λh' tk acc' c' hk hD hacc=>?_
 have hkeys:=TM el rel;refine⟨.ref _,_,I1.laid (a:=s1.heap.objs.size) (o:=.lst (ks.map V.str)) (h':=h') (t':=tk) hk (ya8 _) ?_,rfl,q _ (I1.hok.fresh (ya8 _))⟩;refine⟨by rw[ya1,<- TK el];exact z,acc'.toList,c',?_,by rw[hD]⟩
 have hlen:acc'.toList.length=ks.length:=by
  rw[ydl,hacc.1,<- ya1 (f:=λp:Key×Value=>p.1),hkeys,ya1]
 have key:∀(n:Nat) (k:Str) (v:Value),ks[n]?=some k->acc'.toList[n]?=some v->∃t,v=Value.str k t:=λn k v h1 h2=>by
  obtain⟨k',x',e1,e2⟩:=hacc.2 n v (by rw[<- ycp];exact h2)
  have e3:(vs.map (·.1))[n]?=some k':=by rw[ya4,e1];rfl
  rw[hkeys,ya4,h1]at e3;have e4:k'=Sum.inr k:=(yar e3).symm;subst e4
  rcases Ds (show E7 (Sum.inr k) v=true from e2) with ⟨i,t,e5,_⟩|⟨x,t,e5,e6⟩
  .cases e5
  .cases e5;exact⟨t,e6⟩
 clear hD hk hacc
 generalize acc'.toList=as at hlen key
 clear hd q hkeys
 have go:∀(ks:List Str) (as:List Value),as.length=ks.length->(∀(n:Nat) (k:Str) (v:Value),ks[n]?=some k->as[n]?=some v->∃t,v=Value.str k t)->AR (ks.map V.str) as:=by
  intro ks
  induction ks with
  |nil =>
   intro as hl _;cases as with
   |nil=>exact .nil
   |cons _ _=>simp at hl
  |cons k ks ih =>
   intro as hl key;cases as with
   |nil=>simp at hl
   |cons v as=>exact .cons (key 0 k v rfl rfl) (ih as (by simpa using hl) λn k v h1 h2=>key (n+1) k v (by simpa using h1) (by simpa using h2))
 exact go ks as hlen key
def EN(m:AA->Option Rs):AA->Option Rs:=λτ=>match m τ with
 |some (.v (.obj (.sdc ks) _) _)=>some (.v (.own (ks.map T.str)) false)
 |_=>none
theorem zff{K:k6}{F:Hp}(ks:List Str):A6 K F (ks.map T.str) (ks.map V.str):=⟨by simp,λi t x h1 h2=>by
 rw[ya4]at h1 h2;cases h:ks[i]? with
 |none=>rw[h]at h1;cases h1
 |some k =>
  rw[h]at h1 h2;cases h1;cases h2;exact .str k⟩
theorem r_kys(hc:X.calm=true)(hg:Gl X "list")(hm:X.mg "list"=none)(ho:PE X o (tM X.K E ca m))(hs:starEach [o] X.env=[(false,eval o X.env)]):PE X (.Call (.Name "list" p) [o] [] p2) (tM X.K E ca (EN m)):=by
 refine PE.weak (zll hc hg hm ho hs) λσ H Q h=>?_
 obtain⟨F,τ,R,S,q⟩:=h;refine⟨F,τ,R,S,?_⟩;unfold EN at q;cases hm2:m τ with
 |none=>rw[hm2]at q;exact q.elim
 |some r =>
  rw[hm2]at q;cases r with
  |x c=>exact q.elim
  |v t b =>
   cases t with
   |obj kd l =>
    cases kd with
    |sdc ks =>
     intro F1 H1 x B e1 g1;obtain⟨r1,hB⟩:=Jp g1;subst hB;obtain⟨a,xs,rfl,_,⟨hl1,hF⟩,el,cc⟩:=r1.obj_inv;refine⟨a,ks,xs,rfl,hl1,e1.fh _ _ hF,λp hp=>?_⟩
     have gg:Bw X.K F1 H1 (.own (ks.map T.str)) Q:=λF' H' z C e g=>q F' H' z C (e1.trans0 e) g
     exact gg.list e1.fh (zff ks) hp
    |_=>exact q.elim
   |_=>exact q.elim
structure ICls(K:k6)(C:Addr):Prop where
 c:Cls K C
 a:PySem.W.findIn K (.ref C) "__class__"=some (some (.builtin "object.__class__"))
 n:PySem.W.specialIn K (.builtin "object.__class__") "__get__"=some (some (.builtin "getset_descriptor.__get__"))
 k:PySem.W.takesIn K (.builtin "object.__class__")=some true
 m:PySem.W.mroIn K C (.type "object")=some true
def N6(tb:List (Addr×Bool)):Ob->Option T
 |.ins C _=>(tb.lookup C).map .bl
 |_=>none
def Ic:List String:=["NoneType","bool","int","str","list","tuple","dict"]
def EO(tb:List (Addr×Bool)):T->Option T
 |.obj o _=>N6 tb o
 |t=>(Ig t).map λ_=>.bl false
theorem zgn{C D:Addr}{b:Bool}(hC:ICls X.K C)(hk:PySem.W.kitOne X.K (.ref C) (.ref D)=some b):BZ X (.builtin "isinstance") (λxs H Q=>∃a dx fs,xs=[.ref a,.ref D]/\H a=some (.ins C dx fs)/\Q (.bl b) H):=by
 intro pins s σ H xs us Q I r h;obtain⟨a,dx,fs,rfl,e,q⟩:=h;obtain⟨u,w',rfl,rx,ry⟩:=GP r;cases ry;exact N3 I rx (.ins e hC.c hC.a hC.n hC.k hC.m) hk λtk=>⟨.bl b,H,I.tok _,rfl,q⟩
theorem r_isC{D:Addr}{tb:List (Addr×Bool)}{c:Str}(hC:(∀C b,tb.lookup C=some b->ICls X.K C/\PySem.W.kitOne X.K (.ref C) (.ref D)=some b)/\(Ic.all λa=>PySem.W.kitOne X.K (.type a) (.ref D) == some false)=true)(hg:Gl X "isinstance")(hm:X.mg "isinstance"=none)(hgc:Gl X c)(hmc:X.mg c=some (.ref D))(hd:(c == ("__debug__":Str))=false)(ha:PE X e (tM X.K E ca m))(he:starEach [e,.Name c p2] X.env=(false,eval e X.env)::starEach [.Name c p2] X.env) :
  PE X (.Call (.Name "isinstance" p) [e,.Name c p2] [] pos) (tM X.K E ca (BQ (g1 (EO tb)) (AE m AF))):=by
 have hR:BZ X (.builtin "isinstance") (λxs H Q=>(∃C b a dx fs,tb.lookup C=some b/\xs=[.ref a,.ref D]/\H a=some (.ins C dx fs)/\Q (.bl b) H)\/∃x a,xs=[x,.ref D]/\a∈Ic/\(TyOf X.K H x (.type a)\/a="dict"/\∃p ob kvs,x=.ref p/\H p=some (.frz ob (.dK kvs)))/\Q (.bl false) H):=λpins s σ H xs us Q I r h=>by
  rcases h with ⟨C,b,a,dx,fs,hl,h⟩|⟨x,a,rfl,hm,ty,q⟩
  .exact zgn (hC.1 C b hl).1 (hC.1 C b hl).2 pins s σ H xs us Q I r ⟨a,dx,fs,h⟩
  .have hk:PySem.W.kitOne X.K (.type a) (.ref D)=some false:=eq_of_beq (yas.mp hC.2 a hm);obtain⟨u,w',rfl,rx,ry⟩:=GP r;cases ry
   rcases ty with ty|⟨rfl,p,ob,kvs,rfl,hp⟩
   .exact N3 I rx ty hk λtk=>⟨.bl false,H,I.tok _,rfl,q⟩
   .cases rx;exact T5 I hp hk λtk=>⟨.bl false,H,I.tok _,rfl,q⟩
 refine PE.weak (JU hR hg hm PyProof.Rows.boot_isinstance (DU ha (DU (RR (v:=.ref D) hgc hmc rfl hd) EI) he) (by decide) (by decide) he rfl) λσ H Q h=>?_
 refine(F7 (F8 h)).mono λx H1 h1=>?_
 obtain⟨F,ts,w,fh,rs,e,q⟩:=F6 h1;unfold g1 at e;split at e
 .obtain⟨x1,xs1,e1,r1,rs1⟩:=rs.inv;cases e1;unfold EO at e;split at e
  .unfold N6 at e;split at e
   .obtain⟨b,hb,rfl⟩:=ya2.mp e;obtain⟨a,xs,rfl,_,⟨dx,hF⟩,_,_⟩:=r1.obj_inv;exact .inl ⟨_,b,a,dx,_,hb,rfl,fh _ _ hF,q.bl fh⟩
   .cases e
  .obtain⟨a,ha,rfl⟩:=ya2.mp e;obtain⟨ty,hm⟩:=Pz fh r1 ha;exact .inr ⟨_,a,rfl,hm,ty,q.bl fh⟩
 .cases e
end
end Pu
namespace Zx
open PySem PySem.Spec PyProof.Rows L2 Zw
section
variable {A:Around}{E:Value->Shared->Prop}{M:Model}
end
section
variable {X:Cx}{i1 i2:Nat}{x1 x2 n1 n2:Str}{np1 np2 pos hpos1 hpos2:Pos}{body suite1 suite2:List Stmt}{b1 b2:Stmt}{tb th1 th2:TS}{E:L2.St->XK}
end
end Zx
namespace Pu
open PySem PySem.Spec PyProof.Rows L2 Zw Zx
section
variable {X:Cx}{E:L2.St->XK}{ca:Str->Value}{mu:Bool}{i1 i2:Nat}{x1 x2 n1 n2:Str}{np1 np2 pos hpos1 hpos2:Pos}{body suite1 suite2:List Stmt}{b1 b2:Stmt}{u h1 h2:AA->Option Out}{cs1 cs2:List (Str×Addr)}
end
section
variable {X:Cx}{E:L2.St->XK}{ca:Str->Value}{m:AA->Option Rs}{e:Expr}{pos p p2 p3 p4:Pos}{c1 c2:Str}{t1 t2:List (Addr×Bool)}{kt:Nat}
end
section
variable {X:Cx}{E:L2.St->XK}{ca:Str->Value}{m mk ma:AA->Option Rs}{o k e a:Expr}{pos apos cpos p p2:Pos}
end
section
variable {X:Cx}{E:L2.St->XK}{ca:Str->Value}{m mk:AA->Option Rs}{o k e:Expr}{pos pos' apos cpos:Pos}
theorem zm8:IJ X "str.endswith" (λx vs H Q=>∃x1 y:Str,x=.str x1/\vs=[.str y]/\Q (.bl (Txt.endswith x1 y)) H):=by
 intro pins s σ H x vs v us Q I rx rv h;obtain⟨x1,y,rfl,rfl,q⟩:=h;obtain⟨t,rfl⟩:=(show ∃t,v=Value.str x1 t from rx);obtain⟨u,rfl,ru⟩:=rv.one;obtain⟨u1,rfl⟩:=(show ∃t,u=Value.str y t from ru);exact SC.endswith ⟨.bl _,H,I,rfl,q⟩
noncomputable def Ft(m mk:AA->Option Rs):AA->Option Rs:=λτ=>match m τ with
 |some (.v (.str x) _)=>(match mk τ with
  |some (.v (.str y) _)=>some (.v (.bl (Txt.endswith x y)) false)
  |_=>none)
 |_=>none
theorem r_enw(ho:PE X o (tM X.K E ca m))(hk:PE X k (tM X.K E ca mk))(hbase:attributeBase o "endswith" X.env (eval o X.env)=eval o X.env)(hs:starEach [k] X.env=[(false,eval k X.env)])(hline:(apos.endLine == cpos.line)=true) :
  PE X (.Call (.Attribute o "endswith" apos) [k] [] cpos) (tM X.K E ca (Ft m mk)):=by
 refine PE.weak (JV PySem.F.plainAttrs_str PySem.F.slot_str_endswith PySem.F.type_str_endswith zm8 ho (DU hk EI hs) hbase (by rw[hs];rfl) hline hs rfl) λσ H Q h=>?_
 obtain⟨F,τ,R,S,q⟩:=h;refine⟨F,τ,R,S,?_⟩;unfold Ft at q;cases hm:m τ with
 |none=>rw[hm]at q;exact q.elim
 |some r =>
  rw[hm]at q;cases r with
  |x c=>exact q.elim
  |v t b =>
   cases t with
   |str x =>
    simp only at q;intro F1 H1 x' B e1 g1;have hx:=Fy g1;subst hx;have e1':Ext F H F1 H1 R0:=e1.mono λ_ z=>z.elim
    refine⟨rfl,F1,τ,R,S.ext e1',?_⟩;cases hk2:mk τ with
    |none=>rw[hk2]at q;exact q.elim
    |some r2 =>
     rw[hk2]at q;cases r2 with
     |x c=>exact q.elim
     |v t2 b2 =>
      cases t2 with
      |str y =>
       simp only at q;intro F2 H2 z B2 e2 g2;have hz:=Fy g2;subst hz;have e2':Ext F1 H1 F2 H2 R0:=e2.mono λ_ z=>z.elim
       exact⟨x,y,rfl,rfl,q F2 H2 _ R0 (e1'.trans0 e2') (.bl _)⟩
      |_=>exact q.elim
   |_=>exact q.elim
end
abbrev T9(ms:AA->Option RsL):AA->Option RsL:=Cq ms
theorem r_enX{X:Cx}{E:L2.St->XK}{ca:Str->Value}{ms:AA->Option RsL}{a:Expr}{elts:List Expr}{kk:Nat}{p pos tpos:Pos}(hg:Gl X "enumerate")(hm:X.mg "enumerate"=none)(ha:PA X [a] (B9 X.K E ca ms))(hs:starEach [a] X.env=[(false,eval a X.env)]):PI X (.Tuple elts kk tpos) (.Call (.Name "enumerate" p) [a] [] pos) (tI X.K E ca (T9 ms)):=Qz hg hm ha hs
end Pu
noncomputable section
namespace Pu
open PySem PySem.Spec PyProof.Rows L2 Zw Zx
structure Fn where
 lv:Nat
 ps:List Str
 g:List T->Option Ru
structure Gx where
 co:List (Str×T)
 cl:List (Str×Addr×List Str)
 mt:List (Str×Addr×List Str×Fn)
 nw:List (Str×Fn×List (Nat×List T))
 nr:Bool
 tx:Bool
 df:Bool
 sf:Option (Addr×List Str)
 xs:List (Str×List (Str×Addr))
 sb:List (Str×List (Addr×Bool))
 sv:List (Str×List (Addr×Bool))
 no:Bool
 fo:List Str
 ci:List (Str×List (Addr×Bool))
 x2:List (Str×Str×List (Str×Addr))
 gt:List Str
 wd:List (Str×Fn)
 pn:List Str
abbrev CF:Gx:=⟨[],[],[],[],false,true,true,none,[],[],[],true,[],[],[],[],[],[]⟩
def fnU(f:Fn):Fn:=⟨f.lv,f.ps,gU f.g⟩
set_option genInjectivity false in
structure Gm where
 N:List Str
 nm:List (Str×NameKind)
 ce:List Str
 lv:Nat
 fns:List (Str×Fn)
 bl:List Str
 ex:List Str
 ow:List Str
 pk:List Str
 mu:Bool
 mus:List (Str×Fn)
 mv:List Str
 dc:List Str
 ox:Gx
noncomputable def Co(x:Str):Bool:=!(x == ("__debug__":Str)) && !(x == ("__classdict__":Str)) && !(x == ("__name__":Str))
def LH(nm:List (Str×NameKind))(x:Str):Bool:=nm.lookup x == some .local || nm.lookup x == some .cell || nm.lookup x == some .free
def CG(nm:List (Str×NameKind))(x:Str):Bool:=nm.lookup x == some .globalImplicit
noncomputable def Cz(N:List Str)(x:Str):Option Nat:=N.findIdx? (· == x)
def Gm.var(Γ:Gm)(x:Str):Option Nat:=if Co x && LH Γ.nm x then Cz Γ.N x else none
def Gm.loc(Γ:Gm)(x:Str):Bool:=Co x && (Γ.nm.lookup x == some .local || Γ.ce.contains x)
def Bz:Expr->Bool
 |.Starred ..=>false
 |_=>true
def MZ:Operator->Option (T->T->Option T)
 |.Add=>some B5
 |.Sub=>some HM
 |.Mult=>some Dm
 |.Mod=>some B3
 |.FloorDiv=>some DB
 |.Pow=>some Ff
 |_=>none
def KH:CmpOp->Option (T->T->Option T)
 |.Eq=>some Bm
 |.NotEq=>some Ba
 |.Lt=>some (CN λi j=>decide (i<j))
 |.LtE=>some (CN λi j=>decide (i<=j))
 |.Gt=>some (CN λi j=>decide (j<i))
 |.GtE=>some (CN λi j=>decide (j<=i))
 |.Is=>some (Fw false)
 |.IsNot=>some (Fw true)
 |.In=>some Dt
 |.NotIn=>some Fj
def Hx(f:Str):Option (List T->Option T) :=
 if f="len" then some (g1 Bh) else if f="list" then some (g1 Bo) else if f="abs" then some (g1 K1) else
 if f="tuple" then some (g1 Ih) else
 if f="int" then some (g1 Hm) else
 if f="min" then some (g2 Hf) else
 if f="all" then some (g1 DS) else
 if f="any" then some (g1 KZ) else none
noncomputable def Ie(c:Str):Option String:=if c="int" then some "int" else if c="bool" then some "bool" else if c="str" then some "str" else if c="list" then some "list" else if c="tuple" then some "tuple" else none
def Di:Expr->Bool
 |.IfExp ..=>false
 |.NamedExpr ..=>false
 |_=>true
noncomputable def Dj:Expr->Option (Str×Pos)
 |.Name x p=>some (x,p)
 |_=>none
theorem Fl{t:Expr}{x:Str}{p:Pos}(h:Dj t=some (x,p)):t=.Name x p:=by
 unfold Dj at h;split at h
 .cases h;rfl
 .cases h
def LK:List Expr->List Str
 |[]=>[]
 |e::es=>(match Dj e with
  |some (x,_)=>x::LK es
  |none=>LK es)
def CQ:Expr->List Str
 |.Name x _=>[x]
 |.Tuple es _ _=>LK es
 |_=>[]
def Jl:Expr->Bool
 |.Tuple ..=>true
 |_=>false
def FH:Expr->Bool
 |.Slice ..=>true
 |_=>false
def CV(nm:List (Str×NameKind)):List Str:=nm.filterMap λ(y,k)=>if k == .free then some y else none
def Oe(nm:List (Str×NameKind)):List Str:=nm.filterMap λ(y,k)=>if k == .cell then some y else none
noncomputable def HX(inner outer:List (Str×NameKind)):List (Str×NameKind):=inner.map λ(n,k)=>if (k == .free && outer.lookup n == some .cell) then (n,.cell) else (n,k)
def Hv(N:List Str):List Str->Option (List Nat)
 |[]=>some []
 |y::r=>(match Cz N y with
  |some i=>(match Hv N r with
   |some l=>some (i::l)
   |none=>none)
  |none=>none)
def Hy(Γ:Gm)(scope:Scope)(N':List Str):Bool :=
 (scope.kind == .function) && scope.names.all (λx=>!(x.2 == .local) || scope.names.lookup x.1 == some .local) &&
 scope.names.all (λx=>!(x.2 == .free) || (scope.names.lookup x.1 == some .free && (Γ.nm.lookup x.1 == some .cell || Γ.nm.lookup x.1 == some .free) && !(scope.names.contains (x.1,NameKind.cell)))) &&
 decide N'.Nodup && (Oe scope.names).all (λy=>(HX scope.names Γ.nm).lookup y == some .cell)
def Gm.blk(Γ:Gm)(scope:Scope)(N':List Str):Gm:={ Γ with N:=N',nm:=HX scope.names Γ.nm,ce:=(Oe scope.names).filter λy=>scope.names.lookup y == some .cell,ow:=[],ox:={ Γ.ox with df:=false,nr:=true } }
def KE(Γ:Gm):List Expr->Option (List T->AA->Option AA)
 |[]=>some Ac
 |e::es=>(match Dj e with
  |some (x,_)=>if Γ.loc x then (match Cz Γ.N x,KE Γ es with
   |some i,some b=>some (AK (AD i) b)
   |_,_=>none) else none
  |none=>none)
def dG(Γ:Gm):Expr->Option (T->AA->Option AA)
 |.Name x _=>if Γ.loc x then (Cz Γ.N x).map AD else none
 |.Tuple es _ _=>(KE Γ es).map (Aa es.length)
 |_=>none
def Fg:Expr->Bool
 |.Call ..=>false
 |_=>true
theorem KQ{o:Expr}{f:Str}{env:Env}(h:Fg o=true):attributeBase o f env (eval o env)=eval o env:=by
 cases o<;>first|rfl|cases h
theorem ze6{o:Expr}{f:Str}{ap pos:Pos}{es:List Expr}{env:Env}(h:Fg o=true)(hf:((backTo pos (starEach es env)).all λx=>!x.1)=true)(hn:es.length<30)(hl:(ap.endLine == pos.line)=true):∃pl:Sem Bool,eval (.Call (.Attribute o f ap) es [] pos) env=(do
   let ov <- eval o env
   standAt ap.atName
   let (f,first) <- holding [ov] (getMethod ov f pl)
   callWith pos f first (backTo pos (starEach es env)) (backToKw pos (keywordEach [] env))):=by
 refine⟨do let b <- importBound o env;pure (b.getD true),?_⟩
 have e:methodCallForm (es.length+([]:List Keyword).length) (backTo pos (starEach es env)) (backToKw pos (keywordEach [] env))=true:=by
  unfold methodCallForm;rw[hf];show(true && true && decide (es.length+0+0<30))=true;rw[yer (by omega)];rfl
 rw[arm_eval_Call,KQ h];unfold methodCall calleeOf methodCallPos;rw[e,hl]
 rfl
def Gd(f:Str)(m:AA->Option Rs):List (Str×Addr×List Str)->Option (AA->Option Rs)
 |[]=>none
 |(_,C,fs)::r=>(match fs.findIdx? (· == f) with
  |some j=>(match Gd f m r with
   |some m2=>some (Bu (Bd C fs j m) m2)
   |none=>some (Bd C fs j m))
  |none=>Gd f m r)
def Fm(f:Str)(m:AA->Option Rs)(ms:AA->Option RsL):List (Str×Addr×List Str×Fn)->Option (AA->Option Rs)
 |[]=>none
 |(g,C,fs,F)::r=>if g=f && !(fs.contains f) then (match Fm f m ms r with
   |some m2=>some (Bu (Bt C fs F.g m ms) m2)
   |none=>some (Bt C fs F.g m ms))
  else Fm f m ms r
def Gg:CmpOp->Option (T->T->Option T)
 |.LtE=>some DX
 |op=>KH op
def setOf(f:Str)(e:Expr)(es:List Expr):Option (Expr×Pos×Pos):=if f="len" then (match es with
 |[]=>(match e with
  |.Call g as ks c=>(match Dj g,as,ks with
   |some (x,p),[a],[]=>if x="set" then some (a,p,c) else none
   |_,_,_=>none)
  |_=>none)
 |_=>none) else none
theorem zfb{f:Str}{e a:Expr}{es:List Expr}{p c:Pos}(h:setOf f e es=some (a,p,c)):f="len"/\es=[]/\e=.Call (.Name "set" p) [a] [] c:=by
 unfold setOf at h;split at h
 .rename_i hf;split at h
  .split at h
   .split at h
    .rename_i hn;split at h
     .rename_i hx;cases h;rw[Fl hn,hx];exact⟨hf,rfl,rfl⟩
     .cases h
    .cases h
   .cases h
  .cases h
 .cases h
def G7(Γ:Gm)(m:AA->Option Rs):AA->Option RsL:=if Γ.ox.tx then An m else G9 m
def Ub(Γ:Gm)(ms:AA->Option RsL):AA->Option RsL:=if Γ.ox.tx then T9 ms else Cq ms
def N7:Expr->Bool
 |.Attribute ..=>true
 |_=>false
def L0(Γ:Gm)(ma:AA->Option Rs)(ml mh:Option (AA->Option Rs)):AA->Option Rs:=if Γ.ox.tx then Bu (DO ma ml mh) (DN ma ml mh) else DO ma ml mh
def gtN(Γ:Gm):Expr->Bool
 |.Name x _=>Γ.ox.gt.contains x
 |_=>false
def N1(Γ:Gm)(a:Expr)(ma mk:AA->Option Rs):AA->Option Rs:=if N7 a || gtN Γ a then Hg ma mk else BA ma mk
def Jh(f:Str)(e:Expr)(es:List Expr):Bool:=decide (f="list") && N7 e && es.isEmpty
theorem zix{f:Str}{e:Expr}{es:List Expr}(h:Jh f e es=true):f="list"/\es=[]/\N7 e=true:=by
 unfold Jh at h;simp only[ya3,yev,ye7]at h;exact⟨h.1.1,h.2,h.1.2⟩
mutual
def dE:Nat->Gm->Expr->Option (AA->Option Rs)
  |0,_,_=>none
  |n+1,Γ,e=>match e with
    |.Constant (.int i) _ _=>some (mC (.int i))
    |.Constant (.bool b) _ _=>some (mC (.bl b))
    |.Constant .none _ _=>some (mC .non)
    |.Constant (.str x) _ _=>some (mC (.str x))
    |.Name x _=>(match Γ.var x with
      |some i=>some (AB i)
      |none=>if Co x && CG Γ.nm x then (Γ.ox.co.lookup x).map mC else none)
    |.Attribute o f _=>if Fg o then (match dE n Γ o with
      |some m=>Gd f m Γ.ox.cl
      |none=>none) else none
    |.Call (.Attribute o f ap) es [] c=>if !(Fg o && ap.endLine == c.line && decide (es.length<30)) then none else
      (match dE n Γ o,dA n Γ es with
      |some m,some ms =>
        if f="endswith" then (match es with
          |[k]=>(dE n Γ k).map (Ft m)
          |_=>none)
        else
        if f="join" then (match es with
          |[k]=>(dE n Γ k).map (FE m)
          |_=>none)
        else
        Fm f m ms Γ.ox.mt
      |_,_=>none)
    |.Compare a [op,op'] [b,c] _=>(match Gg op,Gg op',dE n Γ a,dE n Γ b,dE n Γ c with
      |some g,some g',some ma,some mb,some mc=>if lastMarks [op,op'] [b,c] then none else some (Dp g g' ma mb mc)
      |_,_,_,_,_=>none)
    |.BinOp a op b _=>(match MZ op,dE n Γ a,dE n Γ b with
      |some g,some ma,some mb=>some (BQ (g2 g) (AE ma (AE mb AF)))
      |_,_,_=>none)
    |.UnaryOp .USub a _=>(match dE n Γ a with
      |some ma=>some (BQ (g1 Dl) (AE ma AF))
      |none=>none)
    |.UnaryOp .Not a _=>if Di a then (dE n Γ a).map BJ else none
    |.BoolOp op vs _=>dB n Γ op vs
    |.Compare a [op] [b] _=>(match KH op,dE n Γ a,dE n Γ b with
      |some g,some ma,some mb=>if behindInMarks op b then none else some (BQ (g2 g) (AE ma (AE mb AF)))
      |_,_,_=>none)
    |.IfExp c a b _=>if Di c then (match dE n Γ c,dE n Γ a,dE n Γ b with
      |some mc,some ma,some mb=>some (DW mc ma mb)
      |_,_,_=>none) else none
    |.List es _=>(dO n Γ es).map BO
    |.Tuple es _ _=>(dA n Γ es).map CJ
    |.Subscript a k _=>(match k with
      |.Slice lo hi none _=>(match dE n Γ a,dP n Γ lo,dP n Γ hi with
        |some ma,some ml,some mh=>some (L0 Γ ma ml mh)
        |_,_,_=>none)
      |_=>if FH k then none else (match dE n Γ a,dE n Γ k with
        |some ma,some mk=>some (N1 Γ a ma mk)
        |_,_=>none))
    |.Call (.Name f _) (e::es) [] _ =>
      if Co f && CG Γ.nm f then
        (if Γ.bl.contains f then
          (if f="isinstance" then (match es with
            |[.Name c _]=>if CG Γ.nm c && Γ.bl.contains c && Co c && Bz e then (match Ie c,dE n Γ e with
              |some t,some m=>some (BQ (g1 (CD t)) (AE m AF))
              |_,_=>none)
              else if CG Γ.nm c && Co c && Bz e then (match Γ.ox.ci.lookup c,dE n Γ e with
              |some C,some m=>some (BQ (g1 (EO C)) (AE m AF))
              |_,_=>none)
              else none
            |_=>none)
          else (
            match setOf f e es with
            |some (a,_,_)=>if CG Γ.nm "set" && Γ.bl.contains "set" && Bz a then (dE n Γ a).map λm=>BQ (g1 GQ) (AE m AF) else none
            |none =>
            if Jh f e es then (dE n Γ e).map (λm=>Bu (BQ (g1 Bo) (AE m AF)) (EN m)) else
            (match Hx f,dA n Γ (e::es) with
              |some g,some ms=>some (BQ g ms)
              |_,_=>none)))
        else
         match Γ.ox.nw.lookup f with
         |some (F,ds)=>(match ds.lookup (e::es).length,dA n Γ (e::es) with
           |some dts,some ms=>some (E5 F.g dts ms)
           |_,_=>none)
         |none =>
         (match Γ.fns.lookup f, dA n Γ (e :: es) with
          |some F,some ms=>some (A7 F.g ms)
          |_,_=>none))
      else none
    |.ListComp elt [⟨tg,iter,ifs,0⟩] scope _=>dC n Γ elt tg iter ifs scope
    |_=>none
def dA:Nat->Gm->List Expr->Option (AA->Option RsL)
 |0,_,_=>none
 |n+1,Γ,es=>match es with
  |[]=>some AF
  |e::es=>if Bz e then (match dE n Γ e,dA n Γ es with
   |some m,some ms=>some (AE m ms)
   |_,_=>none) else none
def dO:Nat->Gm->List Expr->Option (AA->Option RsL)
 |0,_,_=>none
 |n+1,Γ,es=>match es with
  |[]=>some AF
  |e::es=>if Bz e then (match dE n Γ e,dO n Γ es with
   |some m,some ms=>some (CK m ms)
   |_,_=>none) else none
def dB:Nat->Gm->BoolOp->List Expr->Option (AA->Option Rs)
 |0,_,_,_=>none
 |n+1,Γ,op,vs=>match vs with
  |[]=>none
  |[a]=>if Di a then dE n Γ a else none
  |a::r=>if Di a then (match op,dE n Γ a,dB n Γ op r with
   |.And,some ma,some mb=>some (Cw ma mb)
   |.Or,some ma,some mb=>some (Bg ma mb)
   |_,_,_=>none) else none
def dP:Nat->Gm->Option Expr->Option (Option (AA->Option Rs))
 |0,_,_=>none
 |n+1,Γ,o=>match o with
  |none=>some none
  |some e=>(dE n Γ e).map some
def dC:Nat->Gm->Expr->Expr->Expr->List Expr->Scope->Option (AA->Option Rs)
 |0,_,_,_,_,_,_=>none
 |n+1,Γ,elt,tg,iter,ifs,scope =>
  if Hy Γ scope (CQ tg++CV scope.names) then (match Hv Γ.N (CV scope.names),dI n Γ tg iter,dG (Γ.blk scope (CQ tg++CV scope.names)) tg,dE n (Γ.blk scope (CQ tg++CV scope.names)) elt with
   |some caps,some mi,some b,some me=>(match ifs with
    |[]=>some (BP (CQ tg).length caps mi b (mC (.bl true)) me)
    |[c]=>if Di c then (match dE n (Γ.blk scope (CQ tg++CV scope.names)) c with
     |some mt=>some (BP (CQ tg).length caps mi b mt me)
     |none=>none) else none
    |_=>none)
   |_,_,_,_=>none) else none
def dI:Nat->Gm->Expr->Expr->Option (AA->Option RsL)
 |0,_,_,_=>none
 |n+1,Γ,tg,e=>match e with
  |.Call (.Name f _) [a] [] _ =>
   if f="range" then (if CG Γ.nm f && Γ.bl.contains f && Bz a then (dA n Γ [a]).map Cd else none)
   else if f="enumerate" then (if CG Γ.nm f && Γ.bl.contains f && Bz a && Jl tg then (dA n Γ [a]).map (Ub Γ) else none)
   else (dE n Γ e).map (G7 Γ)
  |.Call (.Name f _) [a,b] [] _ =>
   if f="range" then none
   else if f="zip" then (if CG Γ.nm f && Γ.bl.contains f && Bz a && Bz b && Jl tg then (dA n Γ [a,b]).map E8 else none)
   else (dE n Γ e).map (G7 Γ)
  |.Set ..=>none
  |_=>(dE n Γ e).map (G7 Γ)
end
def BF(n:Nat)(Γ:Gm)(e:Expr):Option (AA->Option Rs):=match e with
    |.Constant (.int i) _ _=>some (mC (.int i))
    |.Constant (.bool b) _ _=>some (mC (.bl b))
    |.Constant .none _ _=>some (mC .non)
    |.Constant (.str x) _ _=>some (mC (.str x))
    |.Name x _=>(match Γ.var x with
      |some i=>some (AB i)
      |none=>if Co x && CG Γ.nm x then (Γ.ox.co.lookup x).map mC else none)
    |.Attribute o f _=>if Fg o then (match dE n Γ o with
      |some m=>Gd f m Γ.ox.cl
      |none=>none) else none
    |.Call (.Attribute o f ap) es [] c=>if !(Fg o && ap.endLine == c.line && decide (es.length<30)) then none else
      (match dE n Γ o,dA n Γ es with
      |some m,some ms =>
        if f="endswith" then (match es with
          |[k]=>(dE n Γ k).map (Ft m)
          |_=>none)
        else
        if f="join" then (match es with
          |[k]=>(dE n Γ k).map (FE m)
          |_=>none)
        else
        Fm f m ms Γ.ox.mt
      |_,_=>none)
    |.Compare a [op,op'] [b,c] _=>(match Gg op,Gg op',dE n Γ a,dE n Γ b,dE n Γ c with
      |some g,some g',some ma,some mb,some mc=>if lastMarks [op,op'] [b,c] then none else some (Dp g g' ma mb mc)
      |_,_,_,_,_=>none)
    |.BinOp a op b _=>(match MZ op,dE n Γ a,dE n Γ b with
      |some g,some ma,some mb=>some (BQ (g2 g) (AE ma (AE mb AF)))
      |_,_,_=>none)
    |.UnaryOp .USub a _=>(match dE n Γ a with
      |some ma=>some (BQ (g1 Dl) (AE ma AF))
      |none=>none)
    |.UnaryOp .Not a _=>if Di a then (dE n Γ a).map BJ else none
    |.BoolOp op vs _=>dB n Γ op vs
    |.Compare a [op] [b] _=>(match KH op,dE n Γ a,dE n Γ b with
      |some g,some ma,some mb=>if behindInMarks op b then none else some (BQ (g2 g) (AE ma (AE mb AF)))
      |_,_,_=>none)
    |.IfExp c a b _=>if Di c then (match dE n Γ c,dE n Γ a,dE n Γ b with
      |some mc,some ma,some mb=>some (DW mc ma mb)
      |_,_,_=>none) else none
    |.List es _=>(dO n Γ es).map BO
    |.Tuple es _ _=>(dA n Γ es).map CJ
    |.Subscript a k _=>(match k with
      |.Slice lo hi none _=>(match dE n Γ a,dP n Γ lo,dP n Γ hi with
        |some ma,some ml,some mh=>some (L0 Γ ma ml mh)
        |_,_,_=>none)
      |_=>if FH k then none else (match dE n Γ a,dE n Γ k with
        |some ma,some mk=>some (N1 Γ a ma mk)
        |_,_=>none))
    |.Call (.Name f _) (e::es) [] _ =>
      if Co f && CG Γ.nm f then
        (if Γ.bl.contains f then
          (if f="isinstance" then (match es with
            |[.Name c _]=>if CG Γ.nm c && Γ.bl.contains c && Co c && Bz e then (match Ie c,dE n Γ e with
              |some t,some m=>some (BQ (g1 (CD t)) (AE m AF))
              |_,_=>none)
              else if CG Γ.nm c && Co c && Bz e then (match Γ.ox.ci.lookup c,dE n Γ e with
              |some C,some m=>some (BQ (g1 (EO C)) (AE m AF))
              |_,_=>none)
              else none
            |_=>none)
          else (
            match setOf f e es with
            |some (a,_,_)=>if CG Γ.nm "set" && Γ.bl.contains "set" && Bz a then (dE n Γ a).map λm=>BQ (g1 GQ) (AE m AF) else none
            |none =>
            if Jh f e es then (dE n Γ e).map (λm=>Bu (BQ (g1 Bo) (AE m AF)) (EN m)) else
            (match Hx f,dA n Γ (e::es) with
              |some g,some ms=>some (BQ g ms)
              |_,_=>none)))
        else
         match Γ.ox.nw.lookup f with
         |some (F,ds)=>(match ds.lookup (e::es).length,dA n Γ (e::es) with
           |some dts,some ms=>some (E5 F.g dts ms)
           |_,_=>none)
         |none =>
         (match Γ.fns.lookup f, dA n Γ (e :: es) with
          |some F,some ms=>some (A7 F.g ms)
          |_,_=>none))
      else none
    |.ListComp elt [⟨tg,iter,ifs,0⟩] scope _=>dC n Γ elt tg iter ifs scope
    |_=>none
theorem BI{n:Nat}{Γ:Gm}{e:Expr}:dE (n+1) Γ e=BF n Γ e:=rfl
end Pu
end
namespace Pu
open PySem PySem.Spec PyProof.Rows L2 Zw Zx
structure GxOk(G:Gx)(lv:Nat)(P:Program)(w:World)(K:k6)(mg:Str->Option Value)(base:Heap)(ca:Str->Value):Prop where
 co:∀x t,G.co.lookup x=some t->∃u v,mg x=some u/\RelV v u/\∀F:Hp,Rp K F F t v R0
 cl:∀c∈G.cl,Cls K c.2.1/\∀f∈c.2.2,Bi K c.2.1 f
 mt:∀c∈G.mt,c.2.2.2.lv<=lv/\Nonempty (MetX P w K mg base c.2.1 c.1 c.2.2.2.lv c.2.2.2.ps (BG K ca c.2.2.2.g))
 nw:∀x F ds,G.nw.lookup x=some (F,ds)->F.lv+1<=lv/\∃(C:Addr) (D:NewX P w K mg base x C F.lv F.ps (Er K ca C F.g)),∀k dts,ds.lookup k=some dts->∃dvs us,CY K D.fd F.ps us/\AR dvs us/\∀H:Hp,A6 K H dts dvs
 sf:∀C fs,G.sf=some (C,fs)->Cls K C/\∀f∈fs,Bi K C f
 xs:∀W cs,G.xs.lookup W=some cs->∃T:ECls K mg W,∀c C,cs.lookup c=some C->ca c=.ref C/\PySem.W.subIn K (.ref C) (.ref T.C)=some true
 sb:∀D tb,G.sb.lookup D=some tb->∃A:Addr,mg D=some (.ref A)/\∀C b,tb.lookup C=some b->ExcK K C/\PySem.W.kitOne K (.ref C) (.ref A)=some b
 sv:∀D tb,G.sv.lookup D=some tb->mg D=none/\∃t,bootBuiltins D=some (.type t)/\∀C b,tb.lookup C=some b->ExcK K C/\PySem.W.kitOne K (.ref C) (.type t)=some b
 ci:∀x tb,G.ci.lookup x=some tb->∃D:Addr,mg x=some (.ref D)/\(∀C b,tb.lookup C=some b->ICls K C/\PySem.W.kitOne K (.ref C) (.ref D)=some b)/\(Ic.all λa=>PySem.W.kitOne K (.type a) (.ref D) == some false)=true
 x2:∀W1 W2 cs,(W1,W2,cs)∈G.x2->∃(T1:ECls K mg W1) (T2:ECls K mg W2),∀c C,cs.lookup c=some C->ca c=.ref C/\PySem.W.subIn K (.ref C) (.ref T1.C)=some false/\PySem.W.subIn K (.ref C) (.ref T2.C)=some true
 wd:∀x F,G.wd.lookup x=some F->F.lv<=lv/\∃p,F.ps=[p]/\Nonempty (DefS P w K mg base F.lv x p (BG K ca F.g))
structure CxOk(Γ:Gm)(X:Cx)(E:L2.St->XK)(ca:Str->Value):Prop where
 N:X.N=Γ.N
 nd:Γ.N.Nodup
 nm:X.env.scope.names=Γ.nm
 kd:X.env.scope.kind=.function
 calm:X.calm=true
 room:Room Γ.lv X.A
 ce:∀x∈Γ.ce,X.fn x=true/\Γ.nm.lookup x=some .cell
 bl:∀b∈Γ.bl,X.mg b=none
 ps:BM X E
 po:Γ.ox.nr=false->PassesOwn (model X.prog X.w) X.A X.env X.xe
 md:Γ.ox.nr=false->P7 X E
 fs:∀f F,Γ.fns.lookup f=some F->F.lv<=Γ.lv/\Nonempty (DefX X.prog X.w X.K X.mg X.base F.lv f F.ps (BG X.K ca F.g))
 ex:∀c∈Γ.ex,∃T:ECls X.K X.mg c,ca c=.ref T.C
 ms:∀f F,Γ.mus.lookup f=some F->F.lv<=Γ.lv/\Nonempty (DefX X.prog X.w X.K X.mg X.base F.lv f F.ps (HN X.K ca F.g))
 gx:GxOk Γ.ox Γ.lv X.prog X.w X.K X.mg X.base ca
 tr:Γ.ox.df=true->X.stack=X.env::X.outer/\X.env.frame=some X.env.locals
 fr:GK X
theorem Hk{N:List Str}{x:Str}{i:Nat}(h:Cz N x=some i):N[i]?=some x:=by
 unfold Cz at h;obtain⟨h1,h2,_⟩:=ybl.mp h;rw[ya0 h1];exact congrArg some (eq_of_beq h2)
theorem E1{x:Str}(h:Co x=true):(x == ("__debug__":Str))=false/\(x == ("__classdict__":Str))=false/\x≠"__name__":=by
 unfold Co at h
 simp only[ya3,yc9]at h;exact⟨h.1.1,h.1.2,λz=>by
  have:=h.2;rw[z]at this;simp at this⟩
theorem Pn{sc:Scope}{x:Str}(h:LH sc.names x=true):C7 sc x:=by
 unfold LH at h;simp only[ybk,yeu]at h
 rcases h with (h|h)|h
 .exact .inl h
 .exact .inr (.inl h)
 .exact .inr (.inr h)
theorem By{e:Expr}{es:List Expr}{env:Env}(h:Bz e=true):starEach (e::es) env=(false,eval e env)::starEach es env:=by
 cases e<;>first|rfl|cases h
theorem Fc:∀{es:List Expr} {env:Env} {pos:Pos},(∀e∈es,Bz e=true)->(backTo pos (starEach es env)).any (·.1)=false
 |[],env,pos,_=>rfl
 |e::es,env,pos,h=>by
  rw[By (h e (ya7 ..))];have ih:=Fc (es:=es) (env:=env) (pos:=pos) λx hx=>h x (ya6 _ hx)
  show(false || (backTo pos (starEach es env)).any (·.1))=false
  rw[ih]
  rfl
theorem FO:∀{n:Nat} {Γ:Gm} {es:List Expr} {ms:AA->Option RsL},dA n Γ es=some ms->∀e∈es,Bz e=true
 |0,_,_,_,h=>by cases h
 |n+1,Γ,[],_,_=>λe he=>by cases he
 |n+1,Γ,e::es,ms,h=>by
  unfold dA at h;simp only at h;split at h
  .rename_i hs;split at h
   .rename_i m ms' h1 h2;intro x hx;rcases yai.mp hx with rfl|hx
    .exact hs
    .exact FO h2 x hx
   .cases h
  .cases h
section
variable {Γ:Gm}{X:Cx}{E:L2.St->XK}{ca:Str->Value}
theorem CxOk.var(C:CxOk Γ X E ca){x:Str}{i:Nat}{pos:Pos}(h:Γ.var x=some i):X.N[i]?=some x/\C7 X.env.scope x/\(x == ("__debug__":Str))=false/\(x == ("__classdict__":Str))=false:=by
 unfold Gm.var at h;split at h
 .rename_i hp;rw[ya3]at hp;obtain⟨p1,p2,p3⟩:=E1 hp.1;exact⟨by rw[C.N];exact Hk h,Pn (by rw[C.nm];exact hp.2),p1,p2⟩
 .cases h
theorem CxOk.gl(C:CxOk Γ X E ca){x:Str}(h:CG Γ.nm x=true):Gl X x:=by
 unfold CG at h;show X.env.scope.names.lookup x=some .globalImplicit;rw[C.nm];exact eq_of_beq h
theorem CxOk.loc(C:CxOk Γ X E ca){x:Str}{i:Nat}(h:Γ.loc x=true)(hi:Cz Γ.N x=some i):X.N[i]?=some x/\FR X.env.scope x/\(X.fn x=true\/X.env.scope.names.lookup x=some .local):=by
 unfold Gm.loc at h;simp only[ya3,ybk,yeu]at h;refine⟨by rw[C.N];exact Hk hi,?_⟩
 rcases h.2 with h|h
 .exact⟨.inl (by rw[C.nm];exact h),.inr (by rw[C.nm];exact h)⟩
 .obtain⟨c1,c2⟩:=C.ce x (yb8.mp h);exact⟨.inr (by rw[C.nm];exact c2),.inl c1⟩
theorem CxOk.nodup(C:CxOk Γ X E ca):X.N.Nodup:=by rw[C.N];exact C.nd
theorem Su(C:CxOk Γ X E ca){x:Str}{i:Nat}{pos:Pos}(h1:Γ.loc x=true)(h2:Cz Γ.N x=some i):PG X (.Name x pos) (DG X.K (AD i)):=by
 obtain⟨g1,g2,g3⟩:=C.loc h1 h2;exact g_nm C.nodup g1 g2 g3
theorem Uq(C:CxOk Γ X E ca):∀{es:List Expr} {b:List T->AA->Option AA},KE Γ es=some b->Cr X es (F9 X.K b)/\(assignEach es X.env).length=es.length/\(assignEach es X.env).findIdx? (·.1)=none
 |[],b,h=>by
  cases h;exact⟨g_nil,rfl,rfl⟩
 |e::es,b,h=>by
  unfold KE at h;split at h
  .rename_i x p hn;have hn:=Fl hn;subst hn;split at h
   .rename_i hl;split at h
    .rename_i i b' h1 h2;cases h;obtain⟨q1,q2,q3⟩:=Uq C h2;refine⟨zmy (Su C hl h1) q1 rfl,?_,?_⟩
     .show(assignEach es X.env).length+1=es.length+1;rw[q2]
     .show List.findIdx? (·.1) ((false,assign (.Name x p) X.env)::assignEach es X.env)=none
      rw[ydt,q3]
      rfl
    .cases h
   .cases h
  .cases h
theorem O5(C:CxOk Γ X E ca){tg:Expr}{b:T->AA->Option AA}(h:dG Γ tg=some b):PG X tg (DG X.K b):=by
 unfold dG at h;split at h
 .split at h
  .rename_i hl;obtain⟨i,hi,rfl⟩:=ya2.mp h;exact Su C hl hi
  .cases h
 .obtain⟨bs,hb,rfl⟩:=ya2.mp h;obtain⟨q1,q2,q3⟩:=Uq C hb;exact g_tup C.calm q1 q2 q3
 .cases h
theorem zm1{op:Operator}{g:T->T->Option T}(h:MZ op=some g):A2 X (binaryOp op) (BY X.K g):=by
 cases op<;>cases h
 .exact zid
 .exact zi7
 .exact zia
 .exact zib
 .exact zi8
 .exact zg1
theorem O7(C:CxOk Γ X E ca){op:CmpOp}{g:T->T->Option T}(h:KH op=some g):A2 X (compareOp op) (BY X.K g):=by
 have hu:=C.room.units;cases op<;>cases h
 .exact zm0 hu
 .exact zlx hu
 .exact JY op_lt
 .exact JY RW
 .exact JY op_gt
 .exact JY op_ge
 .exact zly
 .exact ze2
 .exact zlz hu
 .exact ze1 hu
theorem KI(C:CxOk Γ X E ca){op:CmpOp}{g:T->T->Option T}(h:Gg op=some g):A2 X (compareOp op) (BY X.K g):=by
 unfold Gg at h;split at h
 .cases h;exact zic
 .exact O7 C h
theorem zja{L:List (Str×Addr×List Str)}(hL:∀c∈L,Cls X.K c.2.1/\∀f∈c.2.2,Bi X.K c.2.1 f){f:Str}{m:AA->Option Rs}{o:Expr}{pos:Pos}(ho:PE X o (tM X.K E ca m))(hb:attributeBase o f X.env (eval o X.env)=eval o X.env):∀{m':AA->Option Rs},Gd f m L=some m'->PE X (.Attribute o f pos) (tM X.K E ca m'):=by
 induction L with
 |nil=>intro m' h;cases h
 |cons c r ih =>
  obtain⟨nmc,C0,fs⟩:=c;intro m' h;have ih':=@ih (λc hc=>hL c (ya6 _ hc))
  unfold Gd at h;split at h
  .rename_i j hj;obtain⟨h1,h2⟩:=hL _ (ya7 ..)
   have hf:f∈fs:=by
    obtain⟨q1,q2,_⟩:=ybl.mp hj;rw[<- eq_of_beq q2];exact yav q1
   have p1:PE X (.Attribute o f pos) (tM X.K E ca (Bd C0 fs j m)):=r_fld h1 (h2 f hf) hj ho hb;split at h
   .rename_i m2 hm2;cases h;exact JQ p1 (ih' hm2)
   .cases h;exact p1
  .exact ih' h
set_option maxHeartbeats 1000001 in
theorem VH(C:CxOk Γ X E ca){f:Str}{g:List T->Option T}{e:Expr}{es:List Expr}{ms:AA->Option RsL}{p pos:Pos}(h:Hx f=some g)(hg:CG Γ.nm f=true)(hb:f∈Γ.bl)(ha:PA X (e::es) (B9 X.K E ca ms))(hs:∀x∈e::es,Bz x=true)(hp:Co f=true) :
  PE X (.Call (.Name f p) (e::es) [] pos) (tM X.K E ca (BQ g ms)):=by
 have G:=C.gl hg;have B:=C.bl f hb;obtain⟨p1,p2,p3⟩:=E1 hp;have s1:=By (es:=es) (env:=X.env) (hs e (ya7 ..));have s2:=Fc (env:=X.env) (pos:=pos) λx hx=>hs x (ya6 e hx)
 unfold Hx at h;split at h
 .rename_i hf;subst hf;cases h;exact HY zet G B PySem.boot_len ha p3 p1 s1 s2
 split at h
 .rename_i hf;subst hf;cases h;exact MT zdj G B yda ha p3 p1 s1 s2
 split at h
 .rename_i hf;subst hf;cases h;exact HY zey G B PyProof.Rows.boot_abs ha p3 p1 s1 s2
 split at h
 .rename_i hf;subst hf;cases h;exact MT zer G B PyProof.Rows.boot_tuple ha p3 p1 s1 s2
 split at h
 .rename_i hf;subst hf;cases h;exact MT zev G B PyProof.Rows.boot_int ha p3 p1 s1 s2
 split at h
 .rename_i hf;subst hf;cases h;exact HY (zes C.calm) G B PyProof.Rows.boot_min ha p3 p1 s1 s2
 split at h
 .rename_i hf;subst hf;cases h;exact HY (zex C.calm) G B PyProof.Rows.boot_all ha p3 p1 s1 s2
 split at h
 .rename_i hf;subst hf;cases h;exact HY (zew C.calm) G B PyProof.Rows.boot_any ha p3 p1 s1 s2
 .cases h
theorem zdl{c:Str}{t:String}(h:Ie c=some t):bootBuiltins c=some (.type t):=by
 unfold Ie at h;split at h
 .rename_i hf;subst hf;cases h;exact PyProof.Rows.boot_int
 split at h
 .rename_i hf;subst hf;cases h;exact PyProof.Rows.boot_bool
 split at h
 .rename_i hf;subst hf;cases h;exact PyProof.Rows.boot_str
 split at h
 .rename_i hf;subst hf;cases h;exact yda
 split at h
 .rename_i hf;subst hf;cases h;exact PyProof.Rows.boot_tuple
 .cases h
theorem VB{N:List Str}:∀{ys:List Str} {caps:List Nat},Hv N ys=some caps->ys.length=caps.length/\∀(k j:Nat),caps[k]?=some j->∃y,ys[k]?=some y/\N[j]?=some y
 |[],caps,h=>by cases h;exact⟨rfl,λk j e=>by simp at e⟩
 |y::r,caps,h=>by
  unfold Hv at h;split at h
  .rename_i i hi;split at h
   .rename_i l hl;cases h;obtain⟨h1,h2⟩:=VB hl;refine⟨by simp[h1],λk j e=>?_⟩
    cases k with
    |zero=>simp at e;subst e;exact⟨y,rfl,Hk hi⟩
    |succ k=>exact h2 k j (by simpa using e)
   .cases h
  .cases h
theorem zeg{nm:List (Str×NameKind)}{y:Str}(h:y∈CV nm):(y,NameKind.free)∈nm:=by
 unfold CV at h;obtain⟨⟨z,k⟩,hz,e⟩:=yc5.mp h;simp only at e;split at e
 .rename_i hk;cases e;rw[<- eq_of_beq hk];exact hz
 .cases e
theorem zn9(C:CxOk Γ X E ca){scope:Scope}{tg:Expr}{caps:List Nat}(h:Hy Γ scope (CQ tg++CV scope.names)=true)(hc:Hv Γ.N (CV scope.names)=some caps):BlkOk X scope (CQ tg++CV scope.names) (CQ tg).length caps:=by
 unfold Hy at h;simp only[ya3]at h;obtain⟨⟨⟨⟨h1,h2⟩,h3⟩,h4⟩,h5⟩:=h;obtain⟨l1,l2⟩:=VB hc
 have free:∀y∈scope.names,y.2=.free->scope.names.lookup y.1=some .free/\(Γ.nm.lookup y.1=some .cell\/Γ.nm.lookup y.1=some .free)/\(y.1,NameKind.cell)∉scope.names:=λy hy hf=>by
  have q:=yas.mp h3 y hy;simp only[hf,yex,Bool.not_true,ydx,ya3,yeu,ybk,yc9]at q;refine⟨q.1.1,q.1.2,λz=>?_⟩
  have:=yb8.mpr z;rw[this]at q;exact Bool.noConfusion q.2
 refine⟨eq_of_beq h1,λy hy hl=>?_,by simp[l1],λk j e=>?_,λy hy hf=>?_⟩
 .have q:=yas.mp h2 y hy;simp only[hl,yex,Bool.not_true,ydx,yeu]at q;exact q
 .obtain⟨y,e1,e2⟩:=l2 k j e;have fm:=zeg (yak e1);obtain⟨f1,_,f3⟩:=free _ fm rfl;refine⟨y,by rw[C.N];exact e2,?_,f1,f3⟩
  rw[yaz (by omega)]
  simpa using e1
 .obtain⟨f1,f2,_⟩:=free y hy hf;refine⟨f1,?_⟩;rw[C.nm];exact f2
theorem zfh{scope:Scope}{env:Env}(hk:env.scope.kind=.function):(relabel scope env).names=HX scope.names env.scope.names:=by
 unfold relabel HX;simp only;refine ych λx hx=>?_
 obtain⟨n,k⟩:=x;have e:(env.scope.kind == ScopeKind.function)=true:=by rw[hk];rfl
 simp only[e,Bool.and_true]
 rfl
theorem PU(C:CxOk Γ X E ca){scope:Scope}{N':List Str}(h:Hy Γ scope N'=true)(cl:List (Str×Addr))(A:Addr)(s₀:Shared)(H₀:Hp)(ex:List Addr)(xb:Value->Shared->Prop){E':L2.St->XK}(hp:BM (Ae X scope cl N' A s₀ H₀ ex xb) E'):CxOk (Γ.blk scope N') (Ae X scope cl N' A s₀ H₀ ex xb) E' ca:=by
 unfold Hy at h;simp only[ya3]at h;obtain⟨⟨⟨⟨h1,h2⟩,h3⟩,h4⟩,h5⟩:=h;refine⟨rfl,yez h4,?_,?_,C.calm,C.room,λx hx=>?_,C.bl,hp,λz=>(by cases z),λz=>(by cases z),C.fs,C.ex,C.ms,⟨C.gx.co,C.gx.cl,C.gx.mt,C.gx.nw,C.gx.sf,C.gx.xs,C.gx.sb,C.gx.sv,C.gx.ci,C.gx.x2,C.gx.wd⟩,λz=>(by cases z),C.fr⟩
 .show(relabel scope X.env).names=HX scope.names Γ.nm;rw[zfh C.kd,C.nm]
 .show scope.kind=.function;exact eq_of_beq h1
 .have hx':x∈(Oe scope.names).filter λy=>scope.names.lookup y == some .cell:=hx
  rw[ydf]at hx';refine⟨yer (eq_of_beq hx'.2),?_⟩;exact eq_of_beq (yas.mp h5 x hx'.1)
end
structure Good(ca:Str->Value)(n:Nat):Prop where
 e:∀{Γ:Gm} {X:Cx} {E:L2.St->XK} {e:Expr} {m:AA->Option Rs},CxOk Γ X E ca->dE n Γ e=some m->PE X e (tM X.K E ca m)
 t:∀{Γ:Gm} {X:Cx} {E:L2.St->XK} {e:Expr} {m:AA->Option Rs},CxOk Γ X E ca->Di e=true->dE n Γ e=some m->PT X e (Ak X.K E ca m)
 a:∀{Γ:Gm} {X:Cx} {E:L2.St->XK} {es:List Expr} {m:AA->Option RsL},CxOk Γ X E ca->dA n Γ es=some m->PA X es (B9 X.K E ca m)
 o:∀{Γ:Gm} {X:Cx} {E:L2.St->XK} {es:List Expr} {m:AA->Option RsL},CxOk Γ X E ca->dO n Γ es=some m->PA X es (HL X.K E ca m)
 b:∀{Γ:Gm} {X:Cx} {E:L2.St->XK} {op:BoolOp} {es:List Expr} {m:AA->Option Rs} {pos:Pos},CxOk Γ X E ca->dB n Γ op es=some m->PE X (.BoolOp op es pos) (tM X.K E ca m)/\PW X (.BoolOp op es pos) (Ak X.K E ca m)
 p:∀{Γ:Gm} {X:Cx} {E:L2.St->XK} {o:Option Expr} {m:Option (AA->Option Rs)},CxOk Γ X E ca->dP n Γ o=some m->PO X o (FZ X.K m)
 c:∀{Γ:Gm} {X:Cx} {E:L2.St->XK} {elt tg iter:Expr} {ifs:List Expr} {scope:Scope} {m:AA->Option Rs} {pos:Pos},CxOk Γ X E ca->dC n Γ elt tg iter ifs scope=some m->PE X (.ListComp elt [⟨tg,iter,ifs,0⟩] scope pos) (tM X.K E ca m)
 i:∀{Γ:Gm} {X:Cx} {E:L2.St->XK} {tg e:Expr} {m:AA->Option RsL},CxOk Γ X E ca->dI n Γ tg e=some m->PI X tg e (tI X.K E ca m)
def Sa:Expr->Bool
 |.Set ..=>false
 |_=>true
theorem Nq{e:Expr}{env:Env}(h:Sa e=true)(x:Value):foldedSetIterable e env x=pure x:=by
 cases e<;>first|rfl|cases h
theorem O4:∀{n:Nat} {Γ:Gm} {tg e:Expr} {m:AA->Option RsL},dI n Γ tg e=some m->Sa e=true:=by
 intro n Γ tg e m h;cases n with
 |zero=>cases h
 |succ n =>
  cases e with
  |Set es k p=>unfold dI at h;cases h
  |_=>rfl
theorem RJ{k:Expr}(h:FH k=false):Km k:=λo i=>by
 cases k<;>first|rfl|cases h
theorem zgs{e:Expr}{env:Env}(h:match e with|.UnaryOp ..=>False|.BoolOp ..=>False|.IfExp ..=>False|.Compare ..=>False|_=>True)(whole:Sem Value):isTrue e env whole=(do let v <- whole;standAt e.pos;holding [v] (truthy v)):=by
 cases e<;>first|rfl|exact False.elim h
section
variable {ca:Str->Value}{n:Nat}
theorem Uv(G:Good ca n){Γ:Gm}{X:Cx}{E:L2.St->XK}{elt tg iter:Expr}{ifs:List Expr}{scope:Scope}{m:AA->Option Rs}(C:CxOk Γ X E ca)(h:dC (n+1) Γ elt tg iter ifs scope=some m) :
  ∃caps mi b mt me,m=BP (CQ tg).length caps mi b mt me/\BlkOk X scope (CQ tg++CV scope.names) (CQ tg).length caps/\PI X tg iter (tI X.K E ca mi) /\
   (∀cl A s₀ H₀ ex xb E',BM (Ae X scope cl (CQ tg++CV scope.names) A s₀ H₀ ex xb) E'->PG (Ae X scope cl (CQ tg++CV scope.names) A s₀ H₀ ex xb) tg (DG X.K b))/\(∀cl A s₀ H₀ ex xb E',BM (Ae X scope cl (CQ tg++CV scope.names) A s₀ H₀ ex xb) E'->FQ (Ae X scope cl (CQ tg++CV scope.names) A s₀ H₀ ex xb) ifs (Ak X.K E' ca mt)) /\
   (∀cl A s₀ H₀ ex xb E',BM (Ae X scope cl (CQ tg++CV scope.names) A s₀ H₀ ex xb) E'->PE (Ae X scope cl (CQ tg++CV scope.names) A s₀ H₀ ex xb) elt (tM X.K E' ca me))/\∀x,foldedSetIterable iter X.env x=pure x:=by
 unfold dC at h;split at h
 .rename_i hb;split at h
  .rename_i caps mi b me h1 h2 h3 h4;have B:=zn9 C hb h1;have PB:=λcl A s₀ H₀ ex xb E' hp=>O5 (PU C hb cl A s₀ H₀ ex xb (E':=E') hp) h3
   have PEl:=λcl A s₀ H₀ ex xb E' hp=>G.e (PU C hb cl A s₀ H₀ ex xb (E':=E') hp) h4
   split at h
   .cases h;exact⟨caps,mi,b,_,me,rfl,B,G.i C h2,PB,λcl A s₀ H₀ ex xb E' _=>λpins s σ H Q I q=>zhk pins s σ H Q I (LR (K:=X.K) (E:=E') (ca:=ca) q),PEl,Nq (O4 h2)⟩
   .split at h
    .rename_i hok;split at h
     .rename_i mt h5;cases h;exact⟨caps,mi,b,mt,me,rfl,B,G.i C h2,PB,λcl A s₀ H₀ ex xb E' hp=>zhj (G.t (PU C hb cl A s₀ H₀ ex xb (E':=E') hp) hok h5),PEl,Nq (O4 h2)⟩
     .cases h
    .cases h
   .cases h
  .cases h
 .cases h
theorem good0(ca:Str->Value):Good ca 0:=by
 constructor
 .intro Γ X E e m C h;cases h
 .intro Γ X E e m C _ h;cases h
 .intro Γ X E e m C h;cases h
 .intro Γ X E e m C h;cases h
 .intro Γ X E op e m pos C h;cases h
 .intro Γ X E e m C h;cases h
 .intro Γ X E elt tg iter ifs scope m pos C h;cases h
 .intro Γ X E tg e m C h;cases h
theorem Ut(G:Good ca n){Γ:Gm}{X:Cx}{E:L2.St->XK}{a:Expr}{ops:List CmpOp}{bs:List Expr}{pos:Pos}{m:AA->Option Rs}(C:CxOk Γ X E ca)(h:dE (n+1) Γ (.Compare a ops bs pos)=some m) :
  PE X (.Compare a ops bs pos) (tM X.K E ca m)/\PT X (.Compare a ops bs pos) (Ak X.K E ca m):=by
 cases ops with
 |nil=>rw[BI]at h;unfold BF at h;cases h
 |cons op r =>
  cases r with
  |cons op' r =>
   cases r with
   |cons _ _=>rw[BI]at h;unfold BF at h;cases h
   |nil =>
    cases bs with
    |nil=>rw[BI]at h;unfold BF at h;cases h
    |cons b r =>
     cases r with
     |nil=>rw[BI]at h;unfold BF at h;cases h
     |cons c r =>
      cases r with
      |cons _ _=>rw[BI]at h;unfold BF at h;cases h
      |nil =>
       rw[BI]at h;unfold BF at h;simp only at h;split at h
       .rename_i g g' ma mb mc h1 h2 h3 h4 h5;split at h
        .cases h
        .rename_i hm;cases h;have hm':=yb7.mpr hm;exact⟨r_chn (KI C h1) (KI C h2) (G.e C h3) (G.e C h4) (G.e C h5) hm',zkt (KI C h1) (KI C h2) (G.e C h3) (G.e C h4) (G.e C h5) hm'⟩
       .cases h
  |nil =>
   cases bs with
   |nil=>rw[BI]at h;unfold BF at h;cases h
   |cons b r =>
    cases r with
    |cons _ _=>rw[BI]at h;unfold BF at h;cases h
    |nil =>
     rw[BI]at h;unfold BF at h;simp only at h;split at h
     .rename_i g ma mb h1 h2 h3;split at h
      .cases h
      .rename_i hm;cases h;have hm':=yb7.mpr hm;exact⟨r_cmp (O7 C h1) (G.e C h2) (G.e C h3) hm',zks (O7 C h1) (G.e C h2) (G.e C h3) hm'⟩
     .cases h
theorem TB{n:Nat}{Γ:Gm}{elt:Expr}{gens:List Comprehension}{scope:Scope}{pos:Pos}{m:AA->Option Rs}(h:dE (n+1) Γ (.ListComp elt gens scope pos)=some m):∃tg iter ifs,gens=[⟨tg,iter,ifs,0⟩]/\dC n Γ elt tg iter ifs scope=some m:=by
 cases gens with
 |nil=>rw[BI]at h;unfold BF at h;cases h
 |cons g r =>
  obtain⟨tg,iter,ifs,a⟩:=g;cases a with
  |negSucc k=>rw[BI]at h;unfold BF at h;cases h
  |ofNat k =>
   cases k with
   |succ k=>rw[BI]at h;unfold BF at h;cases h
   |zero =>
    cases r with
    |cons _ _=>rw[BI]at h;unfold BF at h;cases h
    |nil=>exact⟨tg,iter,ifs,rfl,by rw[BI]at h;unfold BF at h;exact h⟩
end
section
variable {ca:Str->Value}{n:Nat}
theorem zn2{n:Nat}{Γ:Gm}{ms:AA->Option RsL}(h:dA n Γ []=some ms):ms=AF:=by
 cases n with
 |zero=>cases h
 |succ n=>unfold dA at h;cases h;rfl
theorem zin{Γ:Gm}{X:Cx}{E:L2.St->XK}(C:CxOk Γ X E ca){f:Str}{o:Expr}{es:List Expr}{m:AA->Option Rs}{ms:AA->Option RsL}{ap pos:Pos}(hpo:Fg o=true)(hln:(ap.endLine == pos.line)=true)(hlen:es.length<30)(hnil:es=[]->ms=AF)(ho:PE X o (tM X.K E ca m))(ha:PA X es (B9 X.K E ca ms))(hst:∀e∈es,Bz e=true){m':AA->Option Rs}(h:Fm f m ms Γ.ox.mt=some m'):PE X (.Call (.Attribute o f ap) es [] pos) (tM X.K E ca m'):=by
 have key:∀L:List (Str×Addr×List Str×Fn),(∀c∈L,c∈Γ.ox.mt)->∀{m':AA->Option Rs},Fm f m ms L=some m'->PE X (.Call (.Attribute o f ap) es [] pos) (tM X.K E ca m'):=by
  intro L
  induction L with
  |nil=>intro _ m' h;cases h
  |cons c r ih =>
   obtain⟨g,C0,fs,F⟩:=c;intro hL m' h;have ih':=@ih (λc hc=>hL c (ya6 _ hc))
   unfold Fm at h;split at h
   .rename_i hc;rw[ya3,yev,yc9]at hc;obtain⟨rfl,hnf⟩:=hc;obtain⟨hlv,⟨D⟩⟩:=C.gx.mt _ (hL _ (ya7 ..))
    have p1:PE X (.Call (.Attribute o g ap) es [] pos) (tM X.K E ca (Bt C0 fs F.g m ms)):=by
     obtain⟨pl,ht⟩:=ze6 (f:=g) (ap:=ap) (pos:=pos) (es:=es) (env:=X.env) hpo (by
      have:=Fc (env:=X.env) (pos:=pos) hst;rw[yas];intro z hz;rw[List.any_eq_false]at this
      simpa using this z hz) hlen hln
     cases es with
     |cons e es=>exact zkv D hnf C.room C.ps ho ha hlv (By (hst e (ya7 ..))) (Fc λx hx=>hst x (ya6 e hx)) ht
     |nil =>
      refine PE.weak (pmx0 D C.room C.ps ho hlv ht) λσ H Q h=>?_
      obtain⟨F,τ,R,S,q⟩:=QN hnf h;refine⟨F,τ,R,S,?_⟩;cases hm:m τ with
      |none=>rw[hm]at q;exact q
      |some r =>
       rw[hm]at q;cases r with
       |x c=>exact q
       |v t b =>
        intro F1 H1 x B e1 g1;obtain⟨a,dx,fs',h1,h2,h3,h4⟩:=q F1 H1 x B e1 g1;refine⟨a,dx,fs',h1,h2,h3,?_⟩;rw[hnil rfl]at h4;exact F6 h4
    split at h
    .rename_i m2 hm2;cases h;exact JQ p1 (ih' hm2)
    .cases h;exact p1
   .exact ih' h
 exact key _ (λ_ h=>h) h
theorem zmv{Γ:Gm}{X:Cx}{E:L2.St->XK}{tg e:Expr}{m:AA->Option Rs}(h:PE X e (tM X.K E ca m)):PI X tg e (tI X.K E ca (G7 Γ m)):=by
 unfold G7;split
 .exact zkx h
 .exact Qy h
theorem Us(G:Good ca n){Γ:Gm}{X:Cx}{E:L2.St->XK}{e:Expr}{m:AA->Option Rs}(C:CxOk Γ X E ca)(h:dE (n+1) Γ e=some m):PE X e (tM X.K E ca m)/\(Di e=true->PT X e (Ak X.K E ca m)):=by
 have val:∀{e:Expr} {m:AA->Option Rs},PE X e (tM X.K E ca m)->(match e with|.UnaryOp ..=>False|.BoolOp ..=>False|.IfExp ..=>False|.Compare ..=>False|_=>True)->PE X e (tM X.K E ca m)/\(Di e=true->PT X e (Ak X.K E ca m)):=λh1 h2=>⟨h1,λ_=>Qu h1 (zgs h2)⟩
 cases e with
 |Compare a ops bs pos=>exact⟨(Ut G C h).1,λ_=>(Ut G C h).2⟩
 |Constant c k pos =>
  cases c with
  |int i=>rw[BI]at h;unfold BF at h;cases h;exact val (JP zlm λ_ _=>.int i) trivial
  |bool b=>rw[BI]at h;unfold BF at h;cases h;exact val (JP pe_bl λ_ _=>.bl b) trivial
  |none=>rw[BI]at h;unfold BF at h;cases h;exact val (JP zlj λ_ _=>.non) trivial
  |str x=>rw[BI]at h;unfold BF at h;cases h;exact val (JP zlg λ_ _=>.str x) trivial
  |_=>rw[BI]at h;unfold BF at h;cases h
 |Name x pos =>
  rw[BI]at h;unfold BF at h;simp only at h;split at h
  .rename_i i hi;cases h;obtain⟨h1,h2,h3,h4⟩:=C.var (pos:=pos) hi;exact val (r_var h1 h2 h3 h4) trivial
  .split at h
   .rename_i hp;rw[ya3]at hp;obtain⟨t,ht,rfl⟩:=ya2.mp h;obtain⟨u,v,k1,k2,k3⟩:=C.gx.co x t ht;exact val (r_con (C.gl hp.2) k1 k2 (E1 hp.1).1 k3) trivial
   .cases h
 |Attribute o f pos =>
  rw[BI]at h;unfold BF at h;simp only at h;split at h
  .rename_i hpo;split at h
   .rename_i m1 h1;exact val (zja C.gx.cl (G.e C h1) (KQ hpo) h) trivial
   .cases h
  .cases h
 |BinOp a op b pos =>
  rw[BI]at h;unfold BF at h;simp only at h;split at h
  .rename_i g ma mb h1 h2 h3;cases h;exact val (r_bin (zm1 h1) (G.e C h2) (G.e C h3)) trivial
  .cases h
 |UnaryOp op a pos =>
  cases op with
  |USub =>
   rw[BI]at h;unfold BF at h;simp only at h;split at h
   .rename_i ma h1;cases h;have hp:=r_un (pos:=pos) zgr (G.e C h1);exact⟨hp,λ_=>Qu hp λ_=>rfl⟩
   .cases h
  |Not =>
   rw[BI]at h;unfold BF at h;simp only at h;split at h
   .rename_i hok;obtain⟨ma,h1,rfl⟩:=ya2.mp h;exact⟨r_not (G.e C h1),λ_=>zkr (G.t C hok h1)⟩
   .cases h
  |_=>rw[BI]at h;unfold BF at h;cases h
 |BoolOp op vs pos =>
  rw[BI]at h;unfold BF at h;simp only at h;obtain⟨h1,h2⟩:=G.b (pos:=pos) C h;exact⟨h1,λ_=>h2.pt⟩
 |IfExp c a b pos =>
  rw[BI]at h;unfold BF at h;simp only at h;split at h
  .rename_i hok;split at h
   .rename_i mc ma mb h1 h2 h3;cases h;exact⟨r_ife (G.t C hok h1) (G.e C h2) (G.e C h3),λz=>by cases z⟩
   .cases h
  .cases h
 |List es pos =>
  rw[BI]at h;unfold BF at h;obtain⟨ms,h1,rfl⟩:=ya2.mp h;exact val (r_lst (G.o C h1)) trivial
 |Tuple es k pos =>
  rw[BI]at h;unfold BF at h;obtain⟨ms,h1,rfl⟩:=ya2.mp h;exact val (r_tup (G.a C h1)) trivial
 |Subscript a k pos =>
  rw[BI]at h;unfold BF at h;simp only at h;split at h
  .rename_i lo hi p2;split at h
   .rename_i ma ml mh h1 h2 h3;cases h;unfold L0;split
    .exact val (JQ (Qv (G.e C h1) (G.p C h2) (G.p C h3)) (zfk (G.e C h1) (G.p C h2) (G.p C h3))) trivial
    exact val (Qv (G.e C h1) (G.p C h2) (G.p C h3)) trivial
   .cases h
  .split at h
   .cases h
   .rename_i hs;split at h
    .rename_i ma mk h1 h2;cases h;unfold N1;split
     .exact val (r_gt (by have:=C.room.units;omega) (G.e C h1) (G.e C h2) (RJ (yb7.mpr hs))) trivial
     exact val (r_ix (G.e C h1) (G.e C h2) (RJ (yb7.mpr hs))) trivial
    .cases h
 |ListComp elt gens scope pos =>
  obtain⟨tg,iter,ifs,rfl,h⟩:=TB h;exact val (G.c C h) trivial
 |Call f args kws pos =>
  cases f with
  |Name f p =>
   cases args with
   |nil=>rw[BI]at h;unfold BF at h;cases h
   |cons e es =>
    cases kws with
    |cons _ _=>rw[BI]at h;unfold BF at h;cases h
    |nil =>
     rw[BI]at h;unfold BF at h;simp only at h;split at h
     .rename_i hp;rw[ya3]at hp;split at h
      .rename_i hb;have hb':f∈Γ.bl:=yb8.mp hb;split at h
       .rename_i hf;subst hf;split at h
        .rename_i c p2;split at h
         .rename_i hc;simp only[ya3]at hc;split at h
          .rename_i t m' h1 h2;cases h;obtain⟨q1,q2,q3⟩:=E1 hc.1.2;exact val (r_isT (zdl h1) (C.gl hp.2) (C.bl _ hb') (C.gl hc.1.1.1) (C.bl _ (yb8.mp hc.1.1.2)) q3 q1 (G.e C h2) (By hc.2)) trivial
          .cases h
         ·
          split at h
          .rename_i hc2;simp only[ya3]at hc2;split at h
           .rename_i CC m' h1 h2;cases h;obtain⟨_,k1,k2⟩:=C.gx.ci c CC h1;exact val (r_isC k2 (C.gl hp.2) (C.bl _ hb') (C.gl hc2.1.1) k1 (E1 hc2.1.2).1 (G.e C h2) (By hc2.2)) trivial
           .cases h
          .cases h
        .cases h
       ·
        split at h
        .rename_i a pa pc hst;obtain⟨rfl,rfl,rfl⟩:=zfb hst;split at h
         .rename_i hc;simp only[ya3]at hc;obtain⟨m1,h1,rfl⟩:=ya2.mp h;exact val (r_unq C.calm (C.gl hp.2) (C.bl _ hb') (C.gl hc.1.1) (C.bl _ (yb8.mp hc.1.2)) (G.e C h1) (By (es:=[]) (env:=X.env) hc.2)) trivial
         .cases h
        split at h
        .rename_i hky;obtain⟨rfl,rfl,hat⟩:=zix hky;obtain⟨m1,h1,rfl⟩:=ya2.mp h;have hns:Bz e=true:=by cases e<;>first|rfl|cases hat
         have hst:starEach [e] X.env=[(false,eval e X.env)]:=By (es:=[]) (env:=X.env) hns;have hb1:Hx "list"=some (g1 Bo):=by ext
         exact val (JQ (VH C hb1 hp.2 hb' (RA (G.e C h1) Qw hst) (λx hx=>by rw[yaa.mp hx];exact hns) hp.1) (r_kys C.calm (C.gl hp.2) (C.bl _ hb') (G.e C h1) hst)) trivial
        split at h
        .rename_i g ms h1 h2;cases h;exact val (VH C h1 hp.2 hb' (G.a C h2) (FO h2) hp.1) trivial
        .cases h
      ·
       split at h
       .rename_i F ds hnw;split at h
        .rename_i dts ms hds h2;cases h;obtain⟨hl,CC,D,hD⟩:=C.gx.nw f F ds hnw;obtain⟨dvs,us,k1,k2,k3⟩:=hD _ _ hds;obtain⟨q1,q2,q3⟩:=E1 hp.1;have hst:=FO h2;exact val (r_new D k1 k2 k3 C.room C.ps (G.a C h2) hl (C.gl hp.2) q1 (By (hst e (ya7 ..))) (Fc λx hx=>hst x (ya6 e hx))) trivial
        .cases h
       split at h
       .rename_i F ms h1 h2;cases h;obtain⟨hl,⟨D⟩⟩:=C.fs f F h1;obtain⟨q1,q2,q3⟩:=E1 hp.1;have hst:=FO h2;exact val (zkz D C.room C.ps (G.a C h2) hl (C.gl hp.2) q1 (By (hst e (ya7 ..))) (Fc λx hx=>hst x (ya6 e hx))) trivial
       .cases h
     .cases h
  |Attribute o m ap =>
   cases kws with
   |cons _ _=>rw[BI]at h;unfold BF at h;cases h
   |nil =>
    rw[BI]at h;unfold BF at h;simp only at h;split at h
    .cases h
    rename_i hpo;rw[yc9,Bool.not_eq_false,ya3,ya3,yev]at hpo;obtain⟨⟨hpo,hl⟩,hlen⟩:=hpo;split at h
    .rename_i mo ms h1 h2;split at h
     .rename_i hf;subst hf;split at h
      .rename_i k
       .obtain⟨mk,h3,rfl⟩:=ya2.mp h;exact val (r_enw (G.e C h1) (G.e C h3) (KQ hpo) (By (es:=[]) (env:=X.env) (FO h2 k (ya7 ..))) hl) trivial
      .cases h
     split at h
     .rename_i hf;subst hf;split at h
      .rename_i k
       .obtain⟨mk,h3,rfl⟩:=ya2.mp h;exact val (zkw (G.e C h1) (G.e C h3) (KQ hpo) (By (es:=[]) (env:=X.env) (FO h2 k (ya7 ..))) hl) trivial
      .cases h
     exact val (zin C hpo hl hlen (λz=>zn2 (z▸h2)) (G.e C h1) (G.a C h2) (FO h2) h) trivial
    .cases h
  |_=>rw[BI]at h;unfold BF at h;cases h
 |_=>rw[BI]at h;unfold BF at h;cases h
theorem goodS(G:Good ca n):Good ca (n+1):=by
 constructor
 .intro Γ X E e m C h;exact(Us G C h).1
 .intro Γ X E e m C hok h;exact(Us G C h).2 hok
 .intro Γ X E es m C h;unfold dA at h;cases es with
  |nil=>cases h;exact Qw
  |cons e es =>
   simp only at h;split at h
   .rename_i hs;split at h
    .rename_i m1 ms h1 h2;cases h;exact RA (G.e C h1) (G.a C h2) (By hs)
    .cases h
   .cases h
 .intro Γ X E es m C h;unfold dO at h;cases es with
  |nil=>cases h;exact zku
  |cons e es =>
   simp only at h;split at h
   .rename_i hs;split at h
    .rename_i m1 ms h1 h2;cases h;exact zhf (G.e C h1) (G.o C h2) (By hs)
    .cases h
   .cases h
 .intro Γ X E op es m pos C h;unfold dB at h;cases es with
  |nil=>cases h
  |cons a r =>
   cases r with
   |nil =>
    simp only at h;split at h
    .rename_i hok;refine⟨r_one (G.e C h),?_⟩;cases op with
     |And=>exact zhe (G.t C hok h)
     |Or=>exact zhd (G.t C hok h)
    .cases h
   |cons b r =>
    simp only at h;split at h
    .rename_i hok;split at h
     .rename_i ma mb h1 h2;cases h;obtain⟨b1,b2⟩:=G.b (pos:=pos) C h2;exact⟨r_and (G.e C h1) b1,zkq (G.t C hok h1) b2⟩
     .rename_i ma mb h1 h2;cases h;obtain⟨b1,b2⟩:=G.b (pos:=pos) C h2;exact⟨r_or (G.e C h1) b1,r_wor (G.t C hok h1) b2⟩
     .cases h
    .cases h
 .intro Γ X E o m C h;unfold dP at h;cases o with
  |none=>cases h;exact r_po0
  |some e =>
   simp only at h;obtain⟨m1,h1,rfl⟩:=ya2.mp h;exact r_po1 (G.e C h1)
 .intro Γ X E elt tg iter ifs scope m pos C h;obtain⟨caps,mi,b,mt,me,rfl,B,hi,hg,ht,he,hs⟩:=Uv G C h;exact r_lcV B (cq:=λX=>X.calm=true) (λ_ _ _ _ _ _ _ _ _=>C.calm) (RN hi) C.ps C.fr hg ht he hs
 .intro Γ X E tg e m C h
  have gen:∀{m:AA->Option RsL},(dE n Γ e).map (G7 Γ)=some m->PI X tg e (tI X.K E ca m):=λh=>by
   obtain⟨m1,h1,rfl⟩:=ya2.mp h;exact zmv (G.e C h1)
  unfold dI at h;split at h
  .rename_i f p a pos;split at h
   .rename_i hf;subst hf;split at h
    .rename_i hc;simp only[ya3]at hc;obtain⟨ms,h1,rfl⟩:=ya2.mp h;exact zfl (C.gl hc.1.1) (C.bl _ (yb8.mp hc.1.2)) (G.a C h1) (By hc.2)
    .cases h
   .split at h
    .rename_i hf;subst hf;split at h
     .rename_i hc;simp only[ya3]at hc;obtain⟨ms,h1,rfl⟩:=ya2.mp h;cases tg with
      |Tuple elts kk tpos =>
       unfold Ub;split
       .exact r_enX (C.gl hc.1.1.1) (C.bl _ (yb8.mp hc.1.1.2)) (G.a C h1) (By hc.1.2)
       .exact Qz (C.gl hc.1.1.1) (C.bl _ (yb8.mp hc.1.1.2)) (G.a C h1) (By hc.1.2)
      |_=>exact Bool.noConfusion hc.2
     .cases h
    .exact gen h
  .rename_i f p a b pos;split at h
   .rename_i hf;subst hf;cases h
   .split at h
    .rename_i hf;subst hf;split at h
     .rename_i hc;simp only[ya3]at hc;obtain⟨ms,h1,rfl⟩:=ya2.mp h;have s2:=By (es:=[]) (env:=X.env) hc.1.2;cases tg with
      |Tuple elts kk tpos=>exact r_zip (C.gl hc.1.1.1.1) (C.bl _ (yb8.mp hc.1.1.1.2)) (G.a C h1) (by rw[By hc.1.1.2,s2];rfl) s2
      |_=>exact Bool.noConfusion hc.2
     .cases h
    .exact gen h
  .cases h
  .exact gen h
theorem Hn(ca:Str->Value):∀n,Good ca n
 |0=>good0 ca
 |n+1=>goodS (Hn ca n)
end
section
variable {prog:Program}{w:World}{A:Around}{E:Value->Shared->Prop}{s:Shared}
end
section
variable {X:Cx}{tg e:Expr}{E:L2.St->XK}{ca:Str->Value}{m:AA->Option Rs}
noncomputable def iLsX(m:AA->Option Rs):AA->Option RsL:=λτ=>match m τ with
 |some (.v (.nd _ .lst l) false)=>some (.v (BD l) false)
 |_=>none
end
structure CxS(Γ:Gm)(X:Cx)(ca:Str->Value):Prop where
 N:X.N=Γ.N
 nd:Γ.N.Nodup
 nm:X.env.scope.names=Γ.nm
 rm:Room Γ.lv (R5 X.A)
 bl:∀b∈Γ.bl,X.mg b=none
 gx:GxOk Γ.ox Γ.lv X.prog X.w X.K X.mg X.base ca
theorem CxS.var{Γ:Gm}{X:Cx}{ca:Str->Value}(C:CxS Γ X ca){x:Str}{i:Nat}(h:Γ.var x=some i):X.N[i]?=some x/\C7 X.env.scope x/\(x == ("__debug__":Str))=false/\(x == ("__classdict__":Str))=false:=by
 unfold Gm.var at h;split at h
 .rename_i hp;rw[ya3]at hp;obtain⟨p1,p2,p3⟩:=E1 hp.1;exact⟨by rw[C.N];exact Hk h,Pn (by rw[C.nm];exact hp.2),p1,p2⟩
 .cases h
theorem CxS.gl{Γ:Gm}{X:Cx}{ca:Str->Value}(C:CxS Γ X ca){x:Str}(h:CG Γ.nm x=true):Gl X x:=by
 unfold CG at h;show X.env.scope.names.lookup x=some .globalImplicit;rw[C.nm];exact eq_of_beq h
noncomputable def pkB:List Str:=["len","isinstance","all","any","abs","min","max","int"]
def isLC:Expr->Bool
 |.ListComp ..=>true
 |_=>false
def BW:Nat->List Str->Expr->List Str
 |0,_,_=>[]
 |n+1,pk,e =>
  let peek:=λ(x:Expr)=>match x with
   |.Name _ _=>[]
   |x=>BW n pk x
  match e with
  |.Name x _=>[x]
  |.BinOp a _ b _=>BW n pk a++BW n pk b
  |.UnaryOp _ a _=>BW n pk a
  |.BoolOp _ vs _=>vs.flatMap (BW n pk)
  |.Compare a _ bs _=>peek a++bs.flatMap peek
  |.IfExp c a b _=>BW n pk c++BW n pk a++BW n pk b
  |.Call (.Name f _) args [] _=>if pkB.contains f || pk.contains f then args.flatMap peek else args.flatMap (BW n pk)
  |.Call (.Attribute _ _ _) args [] _=>args.flatMap λa=>if isLC a then BW n pk a else []
  |.Subscript a k _=>(match k with
   |.Slice lo hi _ _=>BW n pk a++(match lo with|some e=>BW n pk e|none=>[])++(match hi with|some e=>BW n pk e|none=>[])
   |_=>peek a++BW n pk k)
  |.List es _=>es.flatMap (BW n pk)
  |.Tuple es _ _=>es.flatMap (BW n pk)
  |.ListComp _ [⟨_,iter,_,_⟩] scope _=>BW n pk iter++CV scope.names
  |_=>[]
def Pr(pk:List Str):Stmt->List Str
 |.Expr (.Call (.Attribute (.Name _ _) _ _) [e] [] _) _=>BW 40 pk e
 |.Expr e _=>BW 40 pk e
 |.Return (some (.Name _ _)) _=>[]
 |.Return (some e) _=>BW 40 pk e
 |.Assign [.Subscript (.Subscript _ k _) j _] e _=>BW 40 pk k++BW 40 pk j++BW 40 pk e
 |.Assign [.Subscript _ k _] e _=>BW 40 pk k++BW 40 pk e
 |.Assign [_] e _=>BW 40 pk e
 |.If c _ _ _=>BW 40 pk c
 |.For _ it _ _ _=>BW 40 pk it
 |.While c _ _ _=>BW 40 pk c
 |_=>[]
def borS:Stmt->Bool
 |.If _ _ _ _=>true
 |.Assign ts _ _=>(match ts with
  |[t]=>(Dj t).isSome
  |_=>false)
 |_=>false
def borN(Γ:Gm)(e:Expr):List Nat:=((BW 40 Γ.pk e).filter λx=>Γ.ow.contains x && Γ.mv.contains x).eraseDups.filterMap (Cz Γ.N)
def Ee(Γ:Gm)(e:Expr)(m:AA->Option Rs):AA->Option Rs:=PN (borN Γ e) m
section
variable {X:Cx}{E:L2.St->XK}{ca:Str->Value}{Γ:Gm}{m:AA->Option Rs}{e:Expr}{σ:L2.St}{H:Hp}
theorem LQ{Q:VK}(h:tM X.K E ca (Ee Γ e m) σ H Q):tM X.K E ca m σ H Q:=QU _ h
theorem zf4{Q:Bool->Hp->Prop}(h:Ak X.K E ca (Ee Γ e m) σ H Q):Ak X.K E ca m σ H Q:=QW _ h
theorem zi0(h:PE X e (tM X.K E ca m)):PE X e (tM X.K E ca (Ee Γ e m)):=PE.weak h λσ H Q h=>LQ h
theorem zhm(h:PT X e (Ak X.K E ca m)):PT X e (Ak X.K E ca (Ee Γ e m)):=λpins s σ H Q I q=>h pins s σ H Q I (zf4 q)
end
def frzs(Γ:Gm)(s:Stmt):List Nat :=
 if borS s then ((Pr Γ.pk s).filter λx=>Γ.ow.contains x && !(Γ.mv.contains x)).eraseDups.filterMap (Cz Γ.N) else
 ((Pr Γ.pk s).filter (Γ.ow.contains ·)).eraseDups.filterMap (Cz Γ.N)
def Np(l:List Nat)(m:AA->Option Out):AA->Option Out:=l.foldr (λi m=>AG (DH i) m) m
def pinN(Γ:Gm):Stmt->Option Nat
 |.Assign _ e _=>(match e with
  |.Name x _=>if Γ.ox.pn.contains x then Γ.var x else none
  |.Call (.Name f _) [.Name x _] [] _=>if f="list" && Γ.ox.pn.contains x then Γ.var x else none
  |_=>none)
 |_=>none
def unlN(Γ:Gm):Stmt->Option Nat
 |.For _ (.Call (.Name f _) (.Name x _::_) _ _) _ _ _=>if f="zip" && Γ.ox.pn.contains x then Γ.var x else none
 |_=>none
def JT(Γ:Gm)(s:Stmt)(w:AA->Option Out):AA->Option Out:=match pinN Γ s with
 |some i=>Fe i w
 |none=>(match unlN Γ s with
  |some i=>AG (GV i) w
  |none=>w)
def DA:Expr->Bool
 |.ListComp ..=>true
 |.SetComp ..=>true
 |.DictComp ..=>true
 |_=>false
def Fb(Γ:Gm)(x:Str)(px:Pos):Expr->Bool
 |.ListComp _ _ scope p=>Γ.nm.lookup x == some .local && px.line == p.line && !(scope.names.any λ(n,k)=>n == x && (k == .local || k == .cell))
 |_=>false
def Iq(Γ:Gm)(x:Str):Bool:=Γ.nm.lookup x == some .cell
def GW(Γ:Gm)(x:Str)(i:Nat)(m:AA->Option Rs):AA->Option Out:=if Γ.ow.contains x then CI i m else Ad m (AD i)
def Bj(c:Str)(ms:AA->Option RsL):AA->Option Out:=λτ=>match ms τ with
 |some (.v ts _)=>if ts.length<=BE then some (.xc c τ) else none
 |some (.x c)=>some (.xc c τ)
 |none=>none
noncomputable def P0:Expr->Option (Str×Pos×Str×Pos×Expr×Pos)
 |.Call f es ks c=>(match f,es,ks with
  |.Attribute o f a,[e],[]=>(match o with
   |.Name x p=>some (x,p,f,a,e,c)
   |_=>none)
  |_,_,_=>none)
 |_=>none
theorem zgq{t:Expr}{x f:Str}{p a c:Pos}{e:Expr}(h:P0 t=some (x,p,f,a,e,c)):t=.Call (.Attribute (.Name x p) f a) [e] [] c:=by
 unfold P0 at h;split at h
 .split at h
  .split at h
   .cases h;rfl
   .cases h
  .cases h
 .cases h
noncomputable def O8:Expr->Option (Str×Pos×Str×Pos×Pos)
 |.Call f es ks c=>(match f,es,ks with
  |.Attribute o f a,[],[]=>(match o with
   |.Name x p=>some (x,p,f,a,c)
   |_=>none)
  |_,_,_=>none)
 |_=>none
theorem zgk{t:Expr}{x f:Str}{p a c:Pos}(h:O8 t=some (x,p,f,a,c)):t=.Call (.Attribute (.Name x p) f a) [] [] c:=by
 unfold O8 at h;split at h
 .split at h
  .split at h
   .cases h;rfl
   .cases h
  .cases h
 .cases h
def LV:Expr->Option ((Str×Pos)×Expr×Pos)
 |.Subscript a k p=>(match Dj a with
  |some x=>some (x,k,p)
  |none=>none)
 |_=>none
theorem zf6{t k:Expr}{x:Str}{q p:Pos}(h:LV t=some ((x,q),k,p)):t=.Subscript (.Name x q) k p:=by
 unfold LV at h;split at h
 .split at h
  .rename_i h1;cases h;rw[Fl h1]
  .cases h
 .cases h
def MP(a b:Option Expr):Option (Str×Pos×Expr×List Expr×Pos):=match a,b with
 |some a,none=>(match a with
  |.Call f es ks c=>(match Dj f,es,ks with
   |some (x,p),e::es,[]=>some (x,p,e,es,c)
   |_,_,_=>none)
  |_=>none)
 |_,_=>none
theorem zfe{a b:Option Expr}{x:Str}{p c:Pos}{e:Expr}{es:List Expr}(h:MP a b=some (x,p,e,es,c)):a=some (.Call (.Name x p) (e::es) [] c)/\b=none:=by
 unfold MP at h;split at h
 .split at h
  .split at h
   .rename_i h1;cases h;exact⟨by rw[Fl h1],rfl⟩
   .cases h
  .cases h
 .cases h
def N5:Expr->Bool
 |.Dict ks vs _=>ks.isEmpty && vs.isEmpty
 |_=>false
theorem zj3{e:Expr}(h:N5 e=true):∃p,e=.Dict [] [] p:=by
 unfold N5 at h;split at h
 .rename_i ks vs p;rw[ya3]at h;exact⟨p,by rw[ye7.mp h.1,ye7.mp h.2]⟩
 .cases h
def PY:Expr->Option ((Str×Pos)×Str×Pos)
 |.Attribute o f p=>(match Dj o with
  |some x=>some (x,f,p)
  |none=>none)
 |_=>none
theorem zjp{t:Expr}{x f:Str}{q p:Pos}(h:PY t=some ((x,q),f,p)):t=.Attribute (.Name x q) f p:=by
 unfold PY at h;split at h
 .split at h
  .rename_i h1;cases h;rw[Fl h1]
  .cases h
 .cases h
def Ur(n:Nat)(Γ:Gm)(x f:Str)(e:Expr):Option (AA->Option Out):=match Γ.ox.sf,Γ.var x with
 |some (C,fs),some i=>(match fs.findIdx? (· == f) with
  |some j=>if (fs.take j).contains f || !(decide (j<900)) || DA e then none else if N5 e then some (DI C fs j i Jf) else (dE n Γ e).map (DI C fs j i)
  |none=>none)
 |_,_=>none
def Uu(n:Nat)(Γ:Gm)(x f:Str)(k e:Expr):Option (AA->Option Out):=match Γ.ox.sf,Γ.var x with
 |some (C,fs),some i=>(match fs.findIdx? (· == f) with
  |some j=>if FH k || DA e then none else (match dE n Γ k,dE n Γ e with
   |some mk,some m=>some (HV C fs j i mk m)
   |_,_=>none)
  |none=>none)
 |_,_=>none
def O6(n:Nat)(Γ:Gm)(t e:Expr):Option (AA->Option Out):=match t with
    |.Name x px=>if Γ.loc x then (
     match Cz Γ.N x,dE n Γ e with
      |some i,some m=>if DA e && !(Fb Γ x px e) && !(Iq Γ x) then none else some (GW Γ x i (Ee Γ e m))
      |_,_=>none) else none
    |.Tuple ts kt pt=>(
      if Jl e || DA e then none else (match dG Γ (.Tuple ts kt pt),dE n Γ e with
        |some b,some m=>some (Ad m b)
        |_,_=>none))
    |.Subscript a j _=>(match LV a with
      |some ((x,_),k,_) =>
        none
      |none=>(match Dj a with
        |some (x,_)=>if FH j || DA e then none else (match Γ.var x,dE n Γ j,dE n Γ e with
          |some i,some mk,some m=>some (HU i mk m)
          |_,_,_=>none)
        |none=>(match PY a with
          |some ((x,_),f,_)=>Uu n Γ x f j e
          |none=>none)))
    |.Attribute o f _=>(match Dj o with
      |some (x,_)=>Ur n Γ x f e
      |none=>none)
    |_=>none
mutual
def dS:Nat->Gm->Stmt->Option (AA->Option Out)
  |0,_,_=>none
  |n+1,Γ,s=>match s with
    |.Pass _=>some Ap
    |.Break _=>some MI
    |.Continue _=>some MH
    |.Return o _=>(match o with
      |none=>if Γ.mu then none else some MG
      |some e=>if Γ.mu then none else (dE n Γ e).map A8)
    |.Expr e _=>(match P0 e with
      |some (x,_,f,apos,a,cpos)=>if Bz a && (apos.endLine == cpos.line) then (
       match Γ.var x,dE n Γ a with
        |some i,some m=>if f="append" then some (Df i m) else
          if f="extend" then some (EB i m) else
          none
        |_,_=>none) else none
      |none=>(match O8 e with
        |some (x,_,f,apos,cpos) =>
          if f="clear" && (apos.endLine == cpos.line) then (Γ.var x).map HW else
          none
        |none=>(
          if DA e then none else (dE n Γ e).map Eu)))
    |.Assign ts e _=>(match ts with
      |[t]=>O6 n Γ t e
      |_=>none)
    |.If c a b _=>(
      if Di c then (match dE n Γ c,Ag n Γ a,Ag n Γ b with
        |some mc,some u,some w=>some (Ar (Ee Γ c mc) u w)
        |_,_,_=>none) else none)
    |.For tg it body els _=>if Γ.ox.nr then none else (
      (match els with
        |[]=>(match dI n Γ tg it,dG Γ tg,Ag n Γ body with
          |some mi,some b,some u=>some (BX mi b u)
          |_,_,_=>none)
        |_=>none))
    |.While c body els _=>none
    |.Raise a b _ =>
     (match MP a b with
      |some (c,_,e,es,_)=>if !(Γ.ox.nr) && Γ.ex.contains c && CG Γ.nm c && Co c then (dA n Γ (e::es)).map (Bj c) else none
      |none=>none)
    |.Try body hs els Ay _=>(match hs,els,Ay with
      |_,_,_=>none)
    |_=>none
def Ag:Nat->Gm->List Stmt->Option (AA->Option Out)
 |0,_,_=>none
 |n+1,Γ,ss=>match ss with
  |[]=>some Ap
  |[s]=>(match dS n Γ s with
   |some m=>some (JT Γ s (Np (frzs Γ s) m))
   |none=>if Γ.ox.no then some JN else none)
  |s::r=>(match dS n Γ s,Ag n Γ r with
   |some m,some ms=>some (JT Γ s (Np (frzs Γ s) (AG m ms)))
   |none,some ms=>if Γ.ox.no then some (AG JN ms) else none
   |_,none=>none)
end
section
variable {X:Cx}{E:L2.St->XK}{ca:Str->Value}{Γ:Gm}{mu:Bool}
theorem Lo{As:List Stmt}{w:AA->Option Out}(h:BC X As (tS X.K E ca mu w)):∀l:List Nat,BC X As (tS X.K E ca mu (Np l w))
 |[]=>h
 |i::r=>s_frz (Lo h r)
theorem Qd{As:List Stmt}{st:Stmt}{w:AA->Option Out}(h:BC X As (tS X.K E ca mu w)):BC X As (tS X.K E ca mu (JT Γ st w)):=by
 unfold JT;split
 .exact s_pin h
 .split
  .exact s_unl h
  .exact h
theorem Ir{e:Expr}{t:Option Expr}{l:Nat}{env:Env}(h:DA e=false):swapsWith e t l env=pure false:=by
 cases e<;>first|rfl|cases h
theorem zcd{env:Env}(h:env.scope.kind=.function):env.blockKind=.function:=by
 unfold Env.blockKind;rw[h]
 rfl
theorem zf5(C:CxOk Γ X E ca){elt:Expr}{gens:List Comprehension}{scope:Scope}{p px:Pos}{x:Str}{l:Nat}(h:Fb Γ x px (.ListComp elt gens scope p)=true):swapsWith (.ListComp elt gens scope p) (some (.Name x px)) l X.env=pure true:=by
 have e:swapsWith (.ListComp elt gens scope p) (some (.Name x px)) l X.env=pure (X.env.blockKind == .function && X.env.kindOf x == some .local && px.line == p.line && !(scope.names.any λ(n,k)=>n == x && (k == .local || k == .cell))):=rfl
 rw[e];unfold Fb at h
 simp only[ya3]at h;have k:X.env.kindOf x=some .local:=by
  show X.env.scope.names.lookup x=some .local;rw[C.nm];exact eq_of_beq h.1.1
 rw[zcd C.kd,k,h.1.2,h.2]
 rfl
theorem zh0(C:CxOk Γ X E ca){e:Expr}{px:Pos}{x:Str}{l:Nat}(h:Iq Γ x=true):swapsWith e (some (.Name x px)) l X.env=pure false:=by
 have k:X.env.kindOf x=some .cell:=by
  show X.env.scope.names.lookup x=some .cell;rw[C.nm];exact eq_of_beq h
 have c:(some NameKind.cell == some NameKind.local)=false:=rfl;cases e<;>first|rfl|(unfold swapsWith;simp only[k,c,Bool.and_false,ydp])
theorem LY{t e:Expr}{l:Nat}{env:Env}(h:DA e=false):swapsWithSole [t] e l env=pure false:=Ir h
theorem Q0{o k:Expr}{pos:Pos}{env:Env}(h:FH k=false)(v:Value):assign (.Subscript o k pos) env v=(do
   let ov <- holding [v] (eval o env);let iv <- holding [v,ov] (eval k env)
   standAt pos
   holding [v,ov,iv] (setItem ov iv v)
   release [v,ov,iv] []):=by
 cases k<;>first|rfl|cases h
theorem s_lcS{n:Nat}{elt:Expr}{gens:List Comprehension}{scope:Scope}{p px pos:Pos}{x:Str}{i:Nat}{m:AA->Option Rs}(C:CxOk Γ X E ca)(h:dE n Γ (.ListComp elt gens scope p)=some m)(hw:Fb Γ x px (.ListComp elt gens scope p)=true)(hi:Cz Γ.N x=some i) :
  PS X (.Assign [.Name x px] (.ListComp elt gens scope p) pos) (tS X.K E ca mu (GW Γ x i (Ee Γ (.ListComp elt gens scope p) m))):=by
 have lx:X.env.scope.names.lookup x=some .local:=by
  unfold Fb at hw;simp only[ya3]at hw;rw[C.nm];exact eq_of_beq hw.1.1
 have hN:X.N[i]?=some x:=by rw[C.N];exact Hk hi
 have main:PS X (.Assign [.Name x px] (.ListComp elt gens scope p) pos) (λD σ H=>tM X.K E ca m σ H λv H1=>D.nx (σ.set i (some v)) H1):=by
  cases n with
  |zero=>cases h
  |succ n =>
   obtain⟨tg,iter,ifs,rfl,h⟩:=TB h;cases n with
   |zero=>cases h
   |succ n =>
    obtain⟨caps,mi,b,mt,me,rfl,B,hi',hg,ht,he,hs⟩:=Uv (Hn ca n) C h;exact r_lcS B C.calm hi' C.ps C.fr hg ht he hs C.nodup hN lx (zf5 C hw)
 unfold GW;split
 .exact PS.weak main λD σ H h=>LQ (QI h)
 .exact PS.weak main λD σ H h=>LQ (LN (g:=Hq i) (λ_ _ _ _ z=>UR z) h)
theorem s_asg{n:Nat}{e:Expr}{px pos:Pos}{x:Str}{i:Nat}{m:AA->Option Rs}(C:CxOk Γ X E ca)(hl:Γ.loc x=true)(hi:Cz Γ.N x=some i)(h:dE n Γ e=some m)(hc:(DA e && !(Fb Γ x px e) && !(Iq Γ x))=false) :
  PS X (.Assign [.Name x px] e pos) (tS X.K E ca mu (GW Γ x i (Ee Γ e m))):=by
 have plain:(∀l,swapsWith e (some (.Name x px)) l X.env=pure false)->PS X (.Assign [.Name x px] e pos) (tS X.K E ca mu (GW Γ x i (Ee Γ e m))):=λsw=>by
  obtain⟨g1,g2,g3⟩:=C.loc hl hi;have he:=zi0 (Γ:=Γ) ((Hn ca n).e C h);unfold GW;split
  .exact zkm C.nodup g1 g2 he (sw _) g3
  .exact zki C.nodup g1 g2 he (sw _) g3
 cases hcomp:DA e with
 |false=>exact plain λl=>Ir hcomp
 |true =>
  rw[hcomp]at hc;cases hn:Iq Γ x with
  |true=>exact plain λl=>zh0 C hn
  |false =>
   rw[hn]at hc;have hw:Fb Γ x px e=true:=by simpa using hc
   cases e with
   |ListComp elt gens scope p=>exact s_lcS C h hw hi
   |_=>cases hw
theorem s_rse{c:Str}{e:Expr}{es:List Expr}{ms:AA->Option RsL}{p cpos pos:Pos}(C:CxOk Γ X E ca)(hnr:Γ.ox.nr=false)(hc:c∈Γ.ex)(hg:CG Γ.nm c=true)(hp:Co c=true)(ha:PA X (e::es) (B9 X.K E ca ms))(hs:∀x∈e::es,Bz x=true) :
  PS X (.Raise (some (.Call (.Name c p) (e::es) [] cpos)) none pos) (tS X.K E ca mu (Bj c ms)):=by
 obtain⟨T,hT⟩:=C.ex c hc;obtain⟨p1,p2,p3⟩:=E1 hp;refine PS.weak (zfp T C.calm (C.md hnr) ha (C.gl hg) p1 (By (hs e (ya7 ..))) (Fc hs)) λD σ H h=>?_
 obtain⟨F,τ,R,S,q⟩:=h;refine⟨F,τ,R,S,?_⟩;unfold Bj at q;cases hm:ms τ with
 |none=>simp only[hm]at q
 |some r =>
  simp only[hm]at q;cases r with
  |x c=>exact λF' H' e=>q F' H' σ R e.stp0 (S.ext e)
  |v ts b =>
   intro F' H' xs e1 rs
   by_cases hz:ts.length<=BE
   .simp only[hz,yeo]at q;refine⟨by rw[<- rs.1,<- DP];exact hz,?_⟩
    have:=q F' H' σ R e1.stp0 (S.ext e1);rw[hT]at this;exact this
   .simp only[hz,yep]at q
structure GoodS(ca:Str->Value)(n:Nat):Prop where
 s:∀{Γ:Gm} {X:Cx} {E:L2.St->XK} {st:Stmt} {m:AA->Option Out},CxOk Γ X E ca->dS n Γ st=some m->PS X st (tS X.K E ca Γ.mu m)
 ss:∀{Γ:Gm} {X:Cx} {E:L2.St->XK} {st:List Stmt} {m:AA->Option Out},CxOk Γ X E ca->Ag n Γ st=some m->BC X st (tS X.K E ca Γ.mu m)
end
theorem zjg{ca:Str->Value}{n:Nat}{Γ:Gm}{X:Cx}{E:L2.St->XK}{t e:Expr}{pos:Pos}{m:AA->Option Out}(C:CxOk Γ X E ca)(h:O6 n Γ t e=some m):PS X (.Assign [t] e pos) (tS X.K E ca Γ.mu m):=by
 have GE:=Hn ca n;unfold O6 at h;split at h
 .rename_i x px;split at h
  .rename_i hl;split at h
   .rename_i i m1 h1 h2;split at h
    .cases h
    .rename_i hc;cases h;exact s_asg C hl h1 h2 (yb7.mpr hc)
   .cases h
  .cases h
 .rename_i ts kt pt;split at h
  .cases h
  .rename_i hc;split at h
   .rename_i b m1 h1 h2;cases h;have hc':(Jl e || DA e)=false:=yb7.mpr hc
    rw[ybu]at hc';refine zkj (GE.e C h2) (O5 C h1) ?_ ?_ rfl
    .exact LY hc'.2
    .have ht:=hc'.1;cases e<;>first|rfl|cases ht
   .cases h
 .rename_i a j p3;split at h
  .rename_i x p1 k p2 hsub;have hsub:=zf6 hsub;subst hsub;cases h
  .split at h
   .rename_i x p1 hnm;have hnm:=Fl hnm;subst hnm;split at h
    .cases h
    .rename_i hc;split at h
     .rename_i i mk m1 h1 h2 h3;have hc':(FH j || DA e)=false:=yb7.mpr hc
      rw[ybu]at hc';obtain⟨v1,v2,v3,v4⟩:=C.var (pos:=p1) h1;cases h;refine s_sto v1 v2 v3 v4 (GE.e C h3) (GE.e C h2) (LY hc'.2) ?_ (Q0 hc'.1);cases e<;>rfl
     .cases h
   .split at h
    .rename_i x p1 f p2 hat;have hat:=zjp hat;subst hat;unfold Uu at h;split at h
     .rename_i CC fs i hsf hv;split at h
      .rename_i jj hj;split at h
       .cases h
       .rename_i hc;have hc':(FH j || DA e)=false:=yb7.mpr hc
        rw[ybu]at hc';split at h
        .rename_i mk m1 h1 h2;cases h;obtain⟨v1,v2,v3,v4⟩:=C.var (pos:=p1) hv;obtain⟨k1,k2⟩:=C.gx.sf CC fs hsf
         have hf:f∈fs:=by
          obtain⟨q1,q2,_⟩:=ybl.mp hj;rw[<- eq_of_beq q2];exact yav q1
         refine s_dpf (by have:=C.room.units;omega) k1 (k2 f hf) hj v1 v2 v3 v4 (GE.e C h2) (GE.e C h1) (LY hc'.2) ?_ (Q0 hc'.1)
         cases e<;>rfl
        .cases h
      .cases h
     .cases h
    .cases h
 .rename_i o f p2;split at h
  .rename_i x p1 hn;have hn:=Fl hn;subst hn;unfold Ur at h;split at h
   .rename_i CC fs i hsf hv;split at h
    .rename_i jj hj;split at h
     .cases h
     .rename_i hc;have hc':((fs.take jj).contains f || !(decide (jj<900)) || DA e)=false:=yb7.mpr hc
      rw[ybu,ybu,Bool.not_eq_false',yev]at hc';obtain⟨⟨c1,c2⟩,c3⟩:=hc';obtain⟨v1,v2,v3,v4⟩:=C.var (pos:=p1) hv;obtain⟨k1,k2⟩:=C.gx.sf CC fs hsf;obtain⟨q1,q2,_⟩:=ybl.mp hj
      have hf:f∈fs:=by
       rw[<- eq_of_beq q2];exact yav q1
      have hg:fs[jj]?=some f:=by rw[ya0 q1];exact congrArg some (eq_of_beq q2)
      split at h
      .rename_i h0;obtain⟨p0,rfl⟩:=zj3 h0;cases h;exact Qg k1 (k2 f hf) hg c1 c2 v1 v2 v3 v4 zky rfl
      .obtain⟨m1,h1,rfl⟩:=ya2.mp h;exact Qg k1 (k2 f hf) hg c1 c2 v1 v2 v3 v4 (GE.e C h1) (Ir c3)
    .cases h
   .cases h
  .cases h
 .cases h
theorem dS_ok{ca:Str->Value}{n:Nat}(G:GoodS ca n){Γ:Gm}{X:Cx}{E:L2.St->XK}{st:Stmt}{m:AA->Option Out}(C:CxOk Γ X E ca)(h:dS (n+1) Γ st=some m):PS X st (tS X.K E ca Γ.mu m):=by
 have GE:=Hn ca n;unfold dS at h;split at h
 .cases h;exact zkl
 .cases h;exact zhc
 .cases h;exact zd6
 .split at h
  .split at h
   .rename_i hmu;cases h
   .rename_i hmu;cases h;rw[yb7.mpr hmu];exact zkk
  .split at h
   .rename_i hmu;cases h
   .rename_i hmu;rw[yb7.mpr hmu];obtain⟨m1,h1,rfl⟩:=ya2.mp h;exact s_ret (GE.e C h1)
 .split at h
  .rename_i x p f apos e cpos happ;have happ:=zgq happ;subst happ;split at h
   .rename_i hc;rw[ya3]at hc;split at h
    .rename_i i m1 h1 h2;obtain⟨v1,v2,v3,v4⟩:=C.var (pos:=p) h1;have s1:=By (es:=[]) (env:=X.env) hc.1;split at h
     .rename_i hf;subst hf;cases h;exact s_app v1 v2 v3 v4 (GE.e C h2) s1 hc.2
     .split at h
      .rename_i hf;subst hf;cases h;exact s_ext v1 v2 v3 v4 (GE.e C h2) s1 hc.2
      .cases h
    .cases h
   .cases h
  .split at h
   .rename_i x p f apos cpos hclr;have hclr:=zgk hclr;subst hclr;split at h
    .rename_i hc;rw[ya3,yev]at hc;obtain⟨rfl,hl⟩:=hc;obtain⟨i,h1,rfl⟩:=ya2.mp h;obtain⟨v1,v2,v3,v4⟩:=C.var (pos:=p) h1;exact s_clr v1 v2 v3 v4 hl
    .cases h
   ·
    split at h
    .cases h
    .rename_i hc;obtain⟨m1,h1,rfl⟩:=ya2.mp h;exact s_exp (GE.e C h1) (Ir (yb7.mpr hc))
 .split at h
  .exact zjg C h
  .cases h
 .rename_i c a b pos;split at h
  .rename_i hok;split at h
   .rename_i mc u w h1 h2 h3;cases h;exact s_if (zhm (GE.t C hok h1)) (G.ss C h2) (G.ss C h3)
   .cases h
  .cases h
 .split at h
  .cases h
  rename_i hnr;split at h
  .split at h
   .rename_i mi b u h1 h2 h3;cases h;exact s_for (C.po (yb7.mpr hnr)) C.calm (GE.i C h1) (O5 C h2) (G.ss C h3) (Nq (O4 h1))
   .cases h
  .cases h
 .cases h
 ·
  split at h
  .rename_i c p e es cpos hr;obtain⟨rfl,rfl⟩:=zfe hr;split at h
   .rename_i hc;simp only[ya3,yc9]at hc;obtain⟨ms,h1,rfl⟩:=ya2.mp h;exact s_rse C hc.1.1.1 (yb8.mp hc.1.1.2) hc.1.2 hc.2 (GE.a C h1) (FO h1)
   .cases h
  .cases h
 .rename_i body hs els Ay pos;split at h
  .cases h
 .cases h
theorem Nc(ca:Str->Value):∀n,GoodS ca n
 |0=>⟨(λC h=>by cases h),(λC h=>by cases h)⟩
 |n+1=>by
  have G:=Nc ca n;refine⟨λC h=>dS_ok G C h,λ{Γ X E st m} C h=>?_⟩
  unfold Ag at h;cases st with
  |nil=>cases h;exact s_nil
  |cons s r =>
   cases r with
   |nil =>
    simp only at h;split at h
    .rename_i m1 h1;cases h;exact Qd (Lo (Qe (G.s C h1)) _)
    .split at h
     .cases h;exact Qe Qf
     .cases h
   |cons s2 r =>
    simp only at h;split at h
    .rename_i m1 ms h1 h2;cases h;exact Qd (Lo (Qh (G.s C h1) (G.ss C h2)) _)
    .rename_i ms h1 h2;split at h
     .cases h;exact Qh Qf (G.ss C h2)
     .cases h
    .cases h
noncomputable def MO(n:Nat)(u:AA->Option Out)(ts:List T):Option Ru:=match u (ts.map some++List.replicate (n - ts.length) none) with
 |some (.rt t)=>some (.ok t)
 |some (.nx _)=>some (.ok .non)
 |some (.xc c _)=>some (.exc c)
 |_=>none
def Am(k n:Nat)(u:AA->Option Out)(ts:List T):Option Ru:=if ts.length=k then MO n u ts else none
theorem LW{F H F' H':Hp}{O':Rg}{R:Nat->Rg}(hR:∀i a,¬ R i a)(s:Stp F H (tot R) F' H' O'):Ext F H F' H' O' where
 hh:=λb u e=>s.kp b u (λ⟨i,z⟩=>hR i b z) e
 ff:=s.ff
 fh:=s.fh
 nb:=λb z=>(s.nw b z).elim (λ⟨i,w⟩=>absurd w (hR i b)) id
 nf:=λb u e=>(s.nf b u e).elim .inl λz=>z.elim (λ⟨i,w⟩=>absurd w (hR i b)) .inr
theorem zf7{K:k6}{F H:Hp}{N:List Str}{ts:List T}{vs:List V}(fh:AQ F H)(r:A6 K F ts vs):StR K F H (start N vs) (ts.map some++List.replicate (N.length - ts.length) none) (λ_=>R0):=by
 have hl:=r.1;refine⟨fh,by simp[L2.start,hl],λi t e=>?_,λ_ _ z=>z.elim,λ_ _ _ _ z=>z.elim⟩
 unfold L2.start
 by_cases hi:i<ts.length
 .rw[yax (by simpa using hi),ya4]at e
  obtain⟨t',e1,e2⟩:=ya2.mp e;cases e2;have hv:i<vs.length:=by omega
  refine⟨vs[i],?_,(r.2 i t vs[i] e1 (ya0 hv)).any⟩;rw[yax (by simpa using hv),ya4,ya0 hv]
  rfl
 .rw[yaz (by simp;omega)]at e
  obtain⟨h1,h2⟩:=ya5.mp e;simp at h2
theorem zko{K:k6}{ca:Str->Value}{N ps:List Str}{vs:List V}{H:Hp}{Q:VK}{E:XK}{u:AA->Option Out}(h:BG K ca (Am ps.length N.length u) vs H Q E):tS K (λ_=>E) ca false u { nx:=λ_ H'=>Q .non H',rt:=Q } (start N vs) H:=by
 obtain⟨F',ts,fh,r,q⟩:=h;refine⟨F',_,_,zf7 fh r,?_⟩;unfold Am at q
 by_cases hl:ts.length=ps.length
 .simp only[hl,yeo]at q;unfold MO at q;cases ho:u (ts.map some++List.replicate (N.length - ts.length) none) with
  |none=>simp only[ho]at q
  |some o =>
   simp only[ho]at q;cases o with
   |nx τ=>exact λF1 H1 σ1 R1 s1 S1=>q F1 H1 .non R0 ((LW (λ_ _ z=>z) s1).mono λ_ z=>z.elim) .non
   |rt t=>exact λF1 H1 x B s1 r1=>q F1 H1 x B (LW (λ_ _ z=>z) s1) r1
   |bk τ=>exact q.elim
   |ct τ=>exact q.elim
   |xc c τ=>exact λF1 H1 σ1 R1 s1 S1=>q F1 H1 ((LW (λ_ _ z=>z) s1).mono λ_ z=>z.elim)
 .simp only[hl,yep]at q
theorem FK{P:Program}{w:World}{K:k6}{mg:Str->Option Value}{base:Heap}{ca:Str->Value}{x qual:Str}{st:Stmt}{f:Addr}{fd:FuncData}{N ps:List Str}{k n:Nat}{Γ:Gm}{u:AA->Option Out}(F:FunD K x qual st f fd)(S:FnScope N ps (AL st))
  (hΓ:Γ.N=N) (hnm:Γ.nm=(AL st).names) (hce:∀x∈Γ.ce,Γ.nm.lookup x=some .cell) (hlv:Γ.lv=k) (hbl:∀b∈Γ.bl,mg b=none)
  (hfs:∀f F,Γ.fns.lookup f=some F->F.lv<=k/\Nonempty (DefX P w K mg base F.lv f F.ps (BG K ca F.g))) (hex:∀c∈Γ.ex,∃T:ECls K mg c,ca c=.ref T.C)
  (hms:∀f F,Γ.mus.lookup f=some F->F.lv<=k/\Nonempty (DefX P w K mg base F.lv f F.ps (HN K ca F.g))) (hmu:Γ.mu=false) (hgx:GxOk Γ.ox k P w K mg base ca) (hu:Ag n Γ (A9 st)=some u):FnOk P w K mg base (Bb P w) (k+1) f fd ps (BG K ca (Am ps.length N.length u)):=by
 refine RZ F S (λvs H Q E h=>?_) λcdv A outer s H vs Q E hr h=>?_
 .obtain⟨F',ts,_,r,q⟩:=h;unfold Am at q
  by_cases hl:ts.length=ps.length
  .rw[<- r.1,hl]
  .simp only[hl,yep]at q
 .have C:CxOk Γ (D0 (Bb P w) P w K mg base N qual (AL st) f cdv A outer s H E) (λ_=>E) ca:=by
   refine⟨hΓ.symm,by rw[hΓ];exact S.nd,hnm.symm,S.kind,rfl,by rw[hlv];exact hr,λy hy=>⟨rfl,hce y hy⟩,hbl,RU,λ_=>PassesOwn.leaving,λ_=>Sk,λf F e=>by rw[hlv];exact hfs f F e,hex,λf F e=>by rw[hlv];exact hms f F e,by rw[hlv];exact hgx,λ_=>⟨rfl,rfl⟩,⟨_,_,rfl,rfl⟩⟩
  have G:=(Nc ca n).ss C hu;rw[hmu]at G;refine⟨_,G,?_⟩;exact zko h
def runM(k n:Nat)(u:AA->Option Out)(ts:List T):Option Ru:=if ts.length=k then (match u (ts.map some++List.replicate (n - ts.length) none) with
 |some (.rt t)=>some (.ok t)
 |some (.nx τ)=>(match Qp .non τ with
  |some (.rt t)=>some (.ok t)
  |_=>none)
 |some (.xc c _)=>some (.exc c)
 |_=>none) else none
theorem zdp{K:k6}{F H:Hp}{N:List Str}{t0:T}{ts:List T}{x0:V}{vs:List V}{A:Rg}(fh:AQ F H)(r0:Rp K F H t0 x0 A)(r:A6 K F ts vs):StR K F H (start N (x0::vs)) ((t0::ts).map some++List.replicate (N.length - (t0::ts).length) none) (λi=>if i=0 then A else R0):=by
 have hl:=r.1;refine⟨fh,by simp[L2.start,hl],λi t e=>?_,λi a z=>?_,λi j a hij z1 z2=>?_⟩
 .unfold L2.start
  by_cases hi:i<(t0::ts).length
  .rw[yax (by simpa using hi),ya4]at e
   obtain⟨t',e1,e2⟩:=ya2.mp e;cases e2;cases i with
   |zero =>
    cases e1;exact⟨x0,by simp,r0⟩
   |succ i =>
    have hi':i<ts.length:=by simpa using hi
    have hv:i<vs.length:=by omega
    refine⟨vs[i],?_,(r.2 i t vs[i] (by simpa using e1) (ya0 hv)).any⟩
    rw[yax (by simpa using hv),ya4,yci,ya0 hv]
    rfl
  .rw[yaz (by simp at hi ⊢;omega)]at e
   obtain⟨h1,h2⟩:=ya5.mp e;simp at h2
 .by_cases hi:i=0
  .subst hi;exact⟨t0,rfl⟩
  .simp only[hi,yep]at z;exact z.elim
 .by_cases hi:i=0
  .have hj:¬ j=0:=λz=>hij (hi.trans z.symm)
   simp only[hj,yep]at z2;exact z2
  .simp only[hi,yep]at z1;exact z1
theorem zgt{A:Rg}:tot (λi=>if i=0 then A else R0)=A:=funext λa=>propext ⟨λ⟨i,z⟩=>by
 by_cases hi:i=0
 .simp only[hi,yeo]at z;exact z
 .simp only[hi,yep]at z;exact z.elim,λz=>⟨0,by simpa using z⟩⟩
theorem AN{α:Type}{P:α->Prop}:∀x∈([]:List α),P x:=λ_ h=>by cases h
theorem AH{α:Type}{P:α->Prop}{a:α}{l:List α}(h:P a)(r:∀x∈l,P x):∀x∈a::l,P x:=λx hx=>by
 obtain rfl|hx:=yai.mp hx
 .exact h
 .exact r x hx
theorem HF{P:List Value->Prop}(h:P []):∀us:List Value,us.length=0->P us:=λus e=>by
 cases us with
 |nil=>exact h
 |cons a r=>cases e
theorem Ci{P:List Value->Prop}{k:Nat}(h:∀a us,us.length=k->P (a::us)):∀us:List Value,us.length=k+1->P us:=λus e=>by
 cases us with
 |nil=>cases e
 |cons a r=>exact h a r (Nat.succ.inj e)
theorem Be{P:List Value->Prop}(h:∀a,P [a]):∀us:List Value,us.length=1->P us:=Ci λa=>HF (h a)
theorem Em{P:List Value->Prop}(h:∀a b,P [a,b]):∀us:List Value,us.length=2->P us:=Ci λa=>Ci λb=>HF (h a b)
theorem FX{P:List Value->Prop}(h:∀a b c,P [a,b,c]):∀us:List Value,us.length=3->P us:=Ci λa=>Ci λb=>Ci λc=>HF (h a b c)
theorem us4{P:List Value->Prop}(h:∀a b c d,P [a,b,c,d]):∀us:List Value,us.length=4->P us:=Ci λa=>Ci λb=>Ci λc=>Ci λd=>HF (h a b c d)
theorem Pw{P:List Value->Prop}(h:∀a b c d e,P [a,b,c,d,e]):∀us:List Value,us.length=5->P us:=Ci λa=>Ci λb=>Ci λc=>Ci λd=>Ci λe=>HF (h a b c d e)
section
variable {P:Program}{w:World}{K:k6}{mg:Str->Option Value}{base:Heap}{ca:Str->Value}{k:Nat}
theorem Aw:∀f F,([]:List (Str×Fn)).lookup f=some F->F.lv<=k/\Nonempty (DefX P w K mg base F.lv f F.ps (BG K ca F.g)):=λ_ _ h=>by cases h
theorem Ao{x:Str}{F0:Fn}{l:List (Str×Fn)}(hk:F0.lv<=k)(D:DefX P w K mg base F0.lv x F0.ps (BG K ca F0.g))(r:∀f F,l.lookup f=some F->F.lv<=k/\Nonempty (DefX P w K mg base F.lv f F.ps (BG K ca F.g))) :
  ∀f F,((x,F0)::l).lookup f=some F->F.lv<=k/\Nonempty (DefX P w K mg base F.lv f F.ps (BG K ca F.g)):=λf F h=>by
 rw[yay]at h;cases hf:f == x with
 |true =>
  rw[hf]at h;cases h;rw[eq_of_beq hf];exact⟨hk,⟨D⟩⟩
 |false=>rw[hf]at h;exact r f F h
theorem EL:∀f F,([]:List (Str×Fn)).lookup f=some F->F.lv<=k/\Nonempty (DefX P w K mg base F.lv f F.ps (HN K ca F.g)):=λ_ _ h=>by cases h
def Iz(K:k6):Sp:=λvs H Q _=>∃(a:Addr) (ns:List Int),vs=[.ref a]/\AS K H a (ns.map V.int)/\ns.length<=63/\∀H',Q (.bl true) H'
def B0(ns:List Int):T:=.nd false .rl (ns.map T.int)
theorem Ql{F:Hp}:∀ns:List Int,A6 K F (ns.map T.int) (ns.map V.int)
 |[]=>.nil
 |n::r=>.cons (H:=F) (.int n) (Ql r)
theorem zmi{R:List T->Option Ru}{f:Addr}{fd:FuncData}(F:FnOk P w K mg base (Bb P w) k f fd ["_law_script"] (BG K ca R))(h:∀ns:List Int,ns.length<=63->R [B0 ns]=some (.ok (.bl true))):FnOk P w K mg base Dz k f fd ["_law_script"] (Iz K):=by
 refine⟨λvs H Q E hs=>?_,λA outer s H args us vs Q E hr e0 hb hv hs=>?_⟩
 .obtain⟨a,ns,rfl,_⟩:=hs
  rfl
 .obtain⟨a,ns,rfl,hq,h63,q⟩:=hs;refine yel (F.run A outer s H args us _ Q E0 hr e0 hb hv ⟨H,[B0 ns],.refl _,.cons (H:=H) (A6.of_node (k:=.rl) hq (Ql ns)) .nil,?_⟩) λr s' hx=>?_
  .rw[h ns h63];intro F' H' z C e r;rw[r.bl_inv];exact q H'
  .cases r with
   |error v =>
    obtain⟨_,_,_,_,_,_,_,_,_,_,_,_,z⟩:=hx;exact z.elim
   |ok fl=>cases fl<;>exact hx
end
section
variable {X:Cx}{E:L2.St->XK}{ca:Str->Value}{m mk:AA->Option Rs}{o k:Expr}{pos apos cpos:Pos}
noncomputable def PR:List T->Option (List Bool)
 |[]=>some []
 |.bl x::r=>(match PR r with
  |some l=>some (x::l)
  |none=>none)
 |_::_=>none
def mIdxB(m:AA->Option Rs)(b:Bool):AA->Option Rs:=λτ=>match m τ with
 |some (.v (.nd false .lst l) false)=>(match PR l with
  |some ys=>(match ys.findIdx? (· == b) with
   |some j=>if ys.length<1000000 then some (.v (.int j) false) else none
   |none=>none)
  |none=>none)
 |_=>none
end
def EX(C:Addr)(fs:List Str)(k n:Nat)(u:AA->Option Out)(p:Addr)(ts:List T):Option Ru:=if ts.length+1=k then (match u ((T.oob p C fs []::ts).map some++List.replicate (n - (ts.length+1)) none) with
 |some (.nx τ)=>(match E2 τ 0 C fs with
  |some (q,l)=>if q=p then some (.ok (.obj (.ins C fs) (BD l))) else none
  |none=>none)
 |some (.xc c _)=>some (.exc c)
 |_=>none) else none
open Classical in
def EY(C:Addr)(fs:List Str)(k n:Nat)(u:AA->Option Out)(ts:List T):Option Ru:=if h:∃r,∀p,EX C fs k n u p ts=some r then some h.choose else none
theorem MN{C:Addr}{fs:List Str}{k n:Nat}{u:AA->Option Out}{ts:List T}{r:Ru}(h:∀p,EX C fs k n u p ts=some r):EY C fs k n u ts=some r:=by
 have hx:∃r,∀p,EX C fs k n u p ts=some r:=⟨r,h⟩;unfold EY;rw[dif_pos hx];have e:=(hx.choose_spec 0).symm.trans (h 0);exact e
theorem Qj{C:Addr}{fs:List Str}{k n:Nat}{u:AA->Option Out}{ts:List T}{r:Ru}(h:EY C fs k n u ts=some r)(p:Addr):EX C fs k n u p ts=some r:=by
 unfold EY at h;split at h
 .rename_i hx;cases h;exact hx.choose_spec p
 .cases h
theorem UY{P:Program}{w:World}{K:k6}{mg:Str->Option Value}{base:Heap}{ca:Str->Value}{x qual:Str}{st:Stmt}{f:Addr}{fd:FuncData}{N ps:List Str}{k n:Nat}{Γ:Gm}{u:AA->Option Out}{C:Addr}{fs:List Str}(F:FunD K x qual st f fd)(S:FnScope N ps (AL st))
  (hΓ:Γ.N=N) (hnm:Γ.nm=(AL st).names) (hce:∀x∈Γ.ce,Γ.nm.lookup x=some .cell) (hlv:Γ.lv=k) (hbl:∀b∈Γ.bl,mg b=none)
  (hfs:∀f F,Γ.fns.lookup f=some F->F.lv<=k/\Nonempty (DefX P w K mg base F.lv f F.ps (BG K ca F.g))) (hex:∀c∈Γ.ex,∃T:ECls K mg c,ca c=.ref T.C)
  (hms:∀f F,Γ.mus.lookup f=some F->F.lv<=k/\Nonempty (DefX P w K mg base F.lv f F.ps (HN K ca F.g))) (hmu:Γ.mu=false) (hgx:GxOk Γ.ox k P w K mg base ca) (hu:Ag n Γ (A9 st)=some u):FnOk P w K mg base (Bb P w) (k+1) f fd ps (Er K ca C (EY C fs ps.length N.length u)):=by
 refine RZ F S (λvs H Q E h=>?_) λcdv A outer s H vs Q E hr h=>?_
 .obtain⟨F',p,dx,ts,vs',_,rfl,_,_,r,q⟩:=h;cases hg:EY C fs ps.length N.length u ts with
  |none=>rw[hg]at q;exact q.elim
  |some rr =>
   have h0:=Qj hg 0;unfold EX at h0
   by_cases hl:ts.length+1=ps.length
   .rw[yao,<- r.1,hl]
   .rw[if_neg hl]at h0;cases h0
 .have CC:CxOk Γ (D0 (Bb P w) P w K mg base N qual (AL st) f cdv A outer s H E) (λ_=>E) ca:=by
   refine⟨hΓ.symm,by rw[hΓ];exact S.nd,hnm.symm,S.kind,rfl,by rw[hlv];exact hr,λy hy=>⟨rfl,hce y hy⟩,hbl,RU,λ_=>PassesOwn.leaving,λ_=>Sk,λf F e=>by rw[hlv];exact hfs f F e,hex,λf F e=>by rw[hlv];exact hms f F e,by rw[hlv];exact hgx,λ_=>⟨rfl,rfl⟩,⟨_,_,rfl,rfl⟩⟩
  have G:=(Nc ca n).ss CC hu;rw[hmu]at G;refine⟨_,G,?_⟩;obtain⟨F',p,dx,ts,vs',fh,rfl,fp,hp,r,q⟩:=h;have r0:Rp K F' H (.oob p C fs []) (.ref p) (λa=>a=p\/∃j:Nat,R0 a):=.oob (xs:=[]) (λ_=>R0) fp (by rw[List.zip_nil_right];exact hp) rfl (λi t x h=>by simp at h) (λ_ _ _ _ z=>z.elim) (λ_ z=>z) (λ_ _ z=>z.elim)
  have hA:(λa=>a=p\/∃j:Nat,R0 a)=λa=>a=p:=funext λa=>propext ⟨λz=>z.elim id λ⟨_,w⟩=>w.elim,λz=>.inl z⟩
  refine⟨F',_,_,zdp fh r0 r,?_⟩;rw[zgt,hA];cases hg:EY C fs ps.length N.length u ts with
  |none=>rw[hg]at q;exact q.elim
  |some rr =>
   rw[hg]at q;have h0:=Qj hg p;unfold EX at h0
   by_cases hl:ts.length+1=ps.length
   .rw[if_pos hl]at h0;have el:(T.oob p C fs []::ts).length=ts.length+1:=rfl;rw[el];cases ho:u ((T.oob p C fs []::ts).map some++List.replicate (N.length - (ts.length+1)) none) with
    |none=>rw[ho]at h0;cases h0
    |some o =>
     rw[ho]at h0;cases o with
     |nx τ =>
      simp only at h0;intro F1 H1 σ1 R1 s1 S1;cases hoo:E2 τ 0 C fs with
      |none=>rw[hoo]at h0;cases h0
      |some ql =>
       obtain⟨q0,l⟩:=ql;rw[hoo]at h0;simp only at h0
       by_cases hq:q0=p
       .rw[if_pos hq]at h0;subst hq;cases h0;have h00:=M0 hoo;have S2:=S1.frz h00;obtain⟨y,ey,ry⟩:=S1.rep 0 _ h00;obtain⟨dx2,xs2,Rr,rfl,hA2,fp2,hp2,ro,dp⟩:=ry.oob_inv;have n1:∀a,R1 0 a->F1 a=none:=λa z=>(S1.dom z).1
        have r2:=ry.share (H':=H1) (DY (H:=H1) n1) λa u z q=>by rw[Ea z];exact q
        simp only at q;refine q (frz F1 H1 (R1 0)) H1 ⟨s1.ff.trans (DY n1),Gb S1.fh,s1.kp,λb z=>z.elim,λb u e=>?_⟩ r2
        by_cases hb:R1 0 b
        .exact(s1.nw b ⟨0,hb⟩).elim (λz=>.inr (.inl z)) λz=>.inr (.inr z)
        .rw[Du hb]at e;exact s1.nf b u e
       .rw[if_neg hq]at h0;cases h0
     |rt t=>cases h0
     |bk τ=>cases h0
     |ct τ=>cases h0
     |xc c τ =>
      cases h0;simp only at q;exact λF1 H1 σ1 R1 s1 S1=>q F1 H1 (s1.mono λ_ z=>z.elim)
   .rw[if_neg hl]at h0;cases h0
theorem Bl{κ α:Type} [BEq κ]{P:κ->α->Prop}:∀y b,([]:List (κ×α)).lookup y=some b->P y b:=λ_ _ h=>by cases h
theorem Bn{κ α:Type} [BEq κ] [LawfulBEq κ]{P:κ->α->Prop}{x:κ}{a:α}{l:List (κ×α)}(h:P x a)(r:∀y b,l.lookup y=some b->P y b):∀y b,((x,a)::l).lookup y=some b->P y b:=λy b e=>by
 rw[yay]at e;cases hf:y == x with
 |true =>
  rw[hf]at e;cases e;rw[eq_of_beq hf];exact h
 |false=>rw[hf]at e;exact r y b e
theorem MQ{K:k6}{F:Hp}:∀ys:List Str,A6 K F (ys.map T.str) (ys.map V.str)
 |[]=>.nil
 |y::r=>.cons (H:=F) (.str y) (MQ r)
theorem J2{P:Str->Fn->List (Nat×List T)->Prop}:∀x F ds,([]:List (Str×Fn×List (Nat×List T))).lookup x=some (F,ds)->P x F ds:=λ_ _ _ h=>by cases h
theorem J3{P:Str->Fn->List (Nat×List T)->Prop}{l:List (Str×Fn×List (Nat×List T))}{x0:Str}{F0:Fn}{d0:List (Nat×List T)}(h:P x0 F0 d0)(r:∀x F ds,l.lookup x=some (F,ds)->P x F ds):∀x F ds,((x0,F0,d0)::l).lookup x=some (F,ds)->P x F ds:=λx F ds e=>by
 rw[yay]at e;cases hf:x == x0 with
 |true =>
  rw[hf]at e;cases e;rw[eq_of_beq hf];exact h
 |false =>
  rw[hf]at e;exact r x F ds e
theorem Av{G:Gx}{lv:Nat}{P:Program}{w:World}{K:k6}{mg:Str->Option Value}{base:Heap}{ca:Str->Value}
  (co:∀x t,G.co.lookup x=some t->∃u v,mg x=some u/\RelV v u/\∀F:Hp,Rp K F F t v R0:=by exact Bl)
  (cl:∀c∈G.cl,Cls K c.2.1/\∀f∈c.2.2,Bi K c.2.1 f:=by exact AN)
  (mt:∀c∈G.mt,c.2.2.2.lv<=lv/\Nonempty (MetX P w K mg base c.2.1 c.1 c.2.2.2.lv c.2.2.2.ps (BG K ca c.2.2.2.g)):=by exact AN)
  (nw:∀x F ds,G.nw.lookup x=some (F,ds)->F.lv+1<=lv/\∃(C:Addr) (D:NewX P w K mg base x C F.lv F.ps (Er K ca C F.g)),∀k dts,ds.lookup k=some dts->∃dvs us,CY K D.fd F.ps us/\AR dvs us/\∀H:Hp,A6 K H dts dvs:=by exact J2)
  (sf:∀C fs,G.sf=some (C,fs)->Cls K C/\∀f∈fs,Bi K C f:=by exact(λ_ _ h=>by cases h))
  (xs:∀W cs,G.xs.lookup W=some cs->∃T:ECls K mg W,∀c C,cs.lookup c=some C->ca c=.ref C/\PySem.W.subIn K (.ref C) (.ref T.C)=some true:=by exact Bl)
  (sb:∀D tb,G.sb.lookup D=some tb->∃A:Addr,mg D=some (.ref A)/\∀C b,tb.lookup C=some b->ExcK K C/\PySem.W.kitOne K (.ref C) (.ref A)=some b:=by exact Bl)
  (sv:∀D tb,G.sv.lookup D=some tb->mg D=none/\∃t,bootBuiltins D=some (.type t)/\∀C b,tb.lookup C=some b->ExcK K C/\PySem.W.kitOne K (.ref C) (.type t)=some b:=by exact Bl)
  (ci:∀x tb,G.ci.lookup x=some tb->∃D:Addr,mg x=some (.ref D)/\(∀C b,tb.lookup C=some b->ICls K C/\PySem.W.kitOne K (.ref C) (.ref D)=some b)/\(Ic.all λa=>PySem.W.kitOne K (.type a) (.ref D) == some false)=true:=by exact Bl)
  (x2:∀W1 W2 cs,(W1,W2,cs)∈G.x2->∃(T1:ECls K mg W1) (T2:ECls K mg W2),∀c C,cs.lookup c=some C->ca c=.ref C/\PySem.W.subIn K (.ref C) (.ref T1.C)=some false/\PySem.W.subIn K (.ref C) (.ref T2.C)=some true:=by exact(λ_ _ _ h=>by cases h))
  (wd:∀x F,G.wd.lookup x=some F->F.lv<=lv/\∃p,F.ps=[p]/\Nonempty (DefS P w K mg base F.lv x p (BG K ca F.g)):=by exact Bl):GxOk G lv P w K mg base ca:=⟨co,cl,mt,nw,sf,xs,sb,sv,ci,x2,wd⟩
theorem Aq{N ps:List Str}{sc:Scope}(h:(sc.kind=.function/\sc.isCoroutine=false/\sc.isGenerator=false)/\N.Nodup/\N.take ps.length=ps/\(∀x∈ps,sc.names.lookup x=some .local\/sc.names.lookup x=some .cell)/\∀y∈sc.names,y.2≠.free):FnScope N ps sc:=⟨h.1.1,h.1.2.1,h.1.2.2,h.2.1,h.2.2.1,h.2.2.2.1,h.2.2.2.2⟩
structure Qx(P:Program)(w:World)(K:k6)(mg:Str->Option Value)(base:Heap)(ca:Str->Value):Prop where
 m:∀(x:Str) (a:Addr),PySem.W.nsIn K mainGlobals x=some (some (.ref a))->mg x=some (.ref a)
def BU{P:Program}{w:World}{K:k6}{mg:Str->Option Value}{base:Heap}{ca:Str->Value}(q:Qx P w K mg base ca){x:Str}{st:Stmt}{oc:Value}{od an:Option Addr}{osl:Array (Option Value)}{dV kV doc pm cdv ct:Value}{Γ:Gm}{f:Fn}{u:AA->Option Out}{N:List Str}(a:Addr){o:Obj}
  (b:CY K (PySem.W.fnOf x x (FN st) (A9 st) (AL st) dV kV doc pm an cdv ct) f.ps [])
  (S:FnScope N f.ps (AL st)) (hu:Ag 200 Γ (A9 st)=some u) (hbl:∀b∈Γ.bl,mg b=none) (hfs:∀g F,Γ.fns.lookup g=some F->F.lv<=Γ.lv/\Nonempty (DefX P w K mg base F.lv g F.ps (BG K ca F.g))) (hgx:GxOk Γ.ox Γ.lv P w K mg base ca) (hce:∀x∈Γ.ce,Γ.nm.lookup x=some .cell:=by exact AN) (hex:∀c∈Γ.ex,∃T:ECls K mg c,ca c=.ref T.C:=by exact AN)
  (hms:∀g F,Γ.mus.lookup g=some F->F.lv<=Γ.lv/\Nonempty (DefX P w K mg base F.lv g F.ps (HN K ca F.g)):=by exact EL) (ho:o=⟨oc,od,.func (PySem.W.fnOf x x (FN st) (A9 st) (AL st) dV kV doc pm an cdv ct),osl⟩:=by exact rfl) (l:K.lookup a=some o:=by ext) (c:PySem.W.codeIn K cdv x=true:=by ext) (k:PySem.W.keepIn K (.ref a)=true:=by ext) (m:PySem.W.nsIn K mainGlobals x=some (some (.ref a)):=by ext)
  (hΓ:Γ.N=N:=by rfl) (hnm:Γ.nm=(AL st).names:=by rfl) (hlv:Γ.lv+1=f.lv:=by rfl) (hmu:Γ.mu=false:=by rfl) (hg:f.g=Am f.ps.length N.length u:=by rfl):DefX P w K mg base f.lv x f.ps (BG K ca f.g) :=
 ⟨a,_,by rw[hg,<- hlv];exact FK (ER (l.trans (congrArg some ho)) c k) S hΓ hnm hce rfl hbl hfs hex hms hmu hgx hu,q.m x a m,k,b⟩
theorem at0{α:Type}{x:α}{l:List α}:Ab (x::l) (0:Int)=some x:=by
 have:Ab (x::l) ((0:Nat):Int)=some x:=Dw rfl;exact this
theorem KS{α:Type}{x y:α}{l:List α}:Ab (x::y::l) (1:Int)=some y:=by
 have:Ab (x::y::l) ((1:Nat):Int)=some y:=Dw rfl;exact this
theorem at2{α:Type}{x y z:α}{l:List α}:Ab (x::y::z::l) (2:Int)=some z:=by
 have:Ab (x::y::z::l) ((2:Nat):Int)=some z:=Dw rfl;exact this
abbrev fr(a b:Int):T:=.tup [.int a,.int b]
section
variable {b:T->AA->Option AA}{body:AA->Option Out}{mc:AA->Option Rs}
theorem DZ{ts:List T}{τ:AA}(I:Nat->AA->Prop)(h0:I 0 τ)(hs:∀i t τ,ts[i]?=some t->I i τ->∃τ1,b t τ=some τ1/\∃τ2,body τ1=some (.nx τ2)/\I (i+1) τ2):∃τ',B8 b body ts τ=some (.nx τ')/\I ts.length τ':=by
 have key:∀(l:List T) (k:Nat) (τ:AA),ts.drop k=l->k<=ts.length->I k τ->∃τ',B8 b body l τ=some (.nx τ')/\I ts.length τ':=by
  intro l
  induction l with
  |nil =>
   intro k τ hd hk hI
   have:k=ts.length:=by
    have:=congrArg List.length hd;simp at this
    omega
   subst this;exact⟨τ,rfl,hI⟩
  |cons t l ih =>
   intro k τ hd hk hI
   have hlt:k<ts.length:=by
    have:=congrArg List.length hd;simp at this
    omega
   rw[ycc hlt]at hd;injection hd with h1 h2
   obtain⟨τ1,e1,τ2,e2,hI2⟩:=hs k t τ (by rw[ya0 hlt,h1]) hI
   obtain⟨τ',e3,h3⟩:=ih (k+1) τ2 h2 hlt hI2;exact⟨τ',by unfold B8;simp only[e1,e2];exact e3,h3⟩
 exact key ts 0 τ rfl (yba _) h0
theorem Jg{me:AA->Option Rs}{ts:List T}{τ:AA}(I:Nat->AA->Prop)(f:Nat->T)(h0:I 0 τ)(hs:∀i t τ,ts[i]?=some t->I i τ->∃τ1,b t τ=some τ1/\me τ1=some (.v (f i) false)/\I (i+1) τ1) :
  BK b (mC (.bl true)) me ts τ=some ((List.range ts.length).map f):=by
 have key:∀(l:List T) (k:Nat) (τ:AA),ts.drop k=l->k<=ts.length->I k τ->BK b (mC (.bl true)) me l τ=some ((List.range' k l.length).map f):=by
  intro l
  induction l with
  |nil=>intro k τ _ _ _;rfl
  |cons t l ih =>
   intro k τ hd hk hI
   have hlt:k<ts.length:=by
    have:=congrArg List.length hd;simp at this
    omega
   rw[ycc hlt]at hd;injection hd with h1 h2
   obtain⟨τ1,e1,e2,hI2⟩:=hs k t τ (by rw[ya0 hlt,h1]) hI
   have e3:=ih (k+1) τ1 h2 hlt hI2;unfold BK;simp only[e1,mC,e2,e3];simp[List.range'_succ]
 have:=key ts 0 τ rfl (yba _) h0;rw[this,<- List.range_eq_range']
end
theorem G1{i j:Int}(h:Ey i=true):DM i j=true:=by unfold DM;rw[h,ye4,ye4]
theorem zik{i j:Int}(h1:CZ i=true)(h2:CZ j=true):DM i j=true:=by unfold DM;rw[h1,h2];simp
theorem Ew{i:Int}(h1:-(2 ^ 64)<i)(h2:i<2 ^ 64):Ey i=true:=@decide_eq_true _ (Classical.propDecidable _) ⟨h1,h2⟩
theorem EC{i:Int}(h1:-(10 ^ 70)<i)(h2:i<10 ^ 70):CZ i=true:=@decide_eq_true _ (Classical.propDecidable _) ⟨h1,h2⟩
theorem fm{i j:Int}(h:0<j):i.fmod j=i % j:=Int.fmod_eq_emod_of_nonneg i (by omega)
theorem fd{i j:Int}(h:0<j):i.fdiv j=i / j:=Int.fdiv_eq_ediv_of_nonneg i (by omega)
theorem Hu{i j:Int}:Bm (.int i) (.int j)=some (.bl (i == j)):=by
 unfold Bm Dv Bq GA;simp only[T.data,T.pln,PyData.canLay0,PyData.depth,PyData.eqv];simp
theorem G0{i j:Int}:Ba (.int i) (.int j)=some (.bl (!(i == j))):=by
 unfold Ba Dv Bq GA;simp only[T.data,T.pln,PyData.canLay0,PyData.depth,PyData.eqv];simp
mutual
def Ca:PyData->Bool
 |.bool _=>false
 |.dict _=>false
 |.list xs=>FC xs
 |.tuple xs=>FC xs
 |_=>true
def FC:List PyData->Bool
 |[]=>true
 |x::xs=>Ca x && FC xs
end
mutual
theorem U4:∀d d':PyData,Ca d=true->Ca d'=true->(PyData.eqv d d'=true ↔ d=d')
 |.none,d',_,h'=>by cases d'<;>simp[PyData.eqv,Ca]at h' ⊢
 |.int i,d',_,h'=>by cases d'<;>simp[PyData.eqv,Ca]at h' ⊢
 |.str x,d',_,h'=>by cases d'<;>simp[PyData.eqv,Ca]at h' ⊢
 |.bool _,_,h,_=>by simp[Ca]at h
 |.dict _,_,h,_=>by simp[Ca]at h
 |.list xs,d',h,h'=>by
  cases d' with
  |list ys =>
   have:=OX xs ys (by simpa[Ca] using h) (by simpa[Ca] using h')
   simp only[PyData.eqv];rw[this];simp
  |_=>simp[PyData.eqv,Ca]at h' ⊢
 |.tuple xs,d',h,h'=>by
  cases d' with
  |tuple ys =>
   have:=OX xs ys (by simpa[Ca] using h) (by simpa[Ca] using h')
   simp only[PyData.eqv];rw[this];simp
  |_=>simp[PyData.eqv,Ca]at h' ⊢
theorem OX:∀xs ys:List PyData,FC xs=true->FC ys=true->(PyData.eqvAll xs ys=true ↔ xs=ys)
 |[],[],_,_=>by simp[PyData.eqvAll]
 |[],_::_,_,_=>by simp[PyData.eqvAll]
 |_::_,[],_,_=>by simp[PyData.eqvAll]
 |x::xs,y::ys,hx,hy=>by
  simp only[FC,ya3]at hx hy;have h1:=U4 x y hx.1 hy.1;have h2:=OX xs ys hx.2 hy.2;simp only[PyData.eqvAll,ya3,h1,h2,List.cons.injEq]
end
structure Fit(t:T)(n:Nat):Prop where
 fit:Bq t=true
 nb:Ca t.data=true
 dep:t.data.depth<=n
theorem Fit.int(i:Int)(n:Nat):Fit (.int i) n:=⟨rfl,rfl,by simp[T.data,PyData.depth]⟩
theorem Fit.non(n:Nat):Fit .non n:=⟨rfl,rfl,by simp[T.data,PyData.depth]⟩
theorem U2:∀{l:List T} {n:Nat},(∀t∈l,Fit t n)->(DK l=true/\PyData.canLayAll0 (BV l)=true)/\FC (BV l)=true/\PyData.depthAll (BV l)<=n
 |[],n,_=>⟨⟨rfl,rfl⟩,rfl,yba _⟩
 |t::r,n,h=>by
  obtain⟨h1,h2,h3⟩:=h t (ya7 ..);obtain⟨⟨g0,g1⟩,g2,g3⟩:=U2 (l:=r) (n:=n) λx hx=>h x (ya6 _ hx)
  unfold Bq at h1;rw[ya3]at h1;refine⟨⟨by rw[DK,h1.1,g0];rfl,by rw[BV,PyData.canLayAll0,h1.2,g1];rfl⟩,by rw[BV,FC,h2,g2];rfl,?_⟩
  rw[BV,PyData.depthAll]
  omega
theorem Fit.nd{o:Bool}{k:Kd}{l:List T}{n:Nat}(h:∀t∈l,Fit t n):Fit (.nd o k l) (n+1):=by
 obtain⟨g1,g2,g3⟩:=U2 h;cases k<;>exact⟨by simpa[Bq,T.data,T.pln,PyData.canLay0] using g1,by simpa[T.data,Ca] using g2,by simpa[T.data,PyData.depth] using g3⟩
theorem Fit.tup{l:List T}{n:Nat}(h:∀t∈l,Fit t n):Fit (.tup l) (n+1):=Fit.nd h
theorem Fit.mono{t:T}{n m:Nat}(h:Fit t n)(hm:n<=m):Fit t m:=⟨h.fit,h.nb,yaf h.dep hm⟩
theorem Fit.fr(a b:Int):Fit (Pu.fr a b) 1:=Fit.tup λt ht=>by
 simp only[yai,ybs,yew]at ht
 rcases ht with rfl|rfl<;>exact Fit.int _ _
open Classical in
theorem U6{t u:T}{n m:Nat}(h:Fit t n)(h':Fit u m)(hn:n<=60):Bm t u=some (.bl (decide (t.data=u.data)))/\Ba t u=some (.bl (!decide (t.data=u.data))):=by
 have ok:Dv t u=true:=by
  unfold Dv;rw[h.fit,h'.fit,yer (by have:=h.dep;omega)]
  rfl
 have e:GA t u=decide (t.data=u.data):=by
  unfold GA;rw[ycm,U4 _ _ h.nb h'.nb];simp
 unfold Bm Ba;rw[if_pos ok,if_pos ok,e];exact⟨rfl,rfl⟩
theorem Ht{t u:T}{n:Nat}(h:Fit t n)(hn:n<=60)(e:t.data=u.data)(h':Fit u n):Bm t u=some (.bl true)/\Ba t u=some (.bl false):=by
 have:=U6 h h' hn
 simpa[e] using this
theorem JA:∀ns:List Int,BD (ns.map T.int)=ns.map T.int
 |[]=>rfl
 |n::r=>by rw[yae,BD,JA r];rfl
theorem JB:∀ns:List Int,A5 (ns.map T.int)=true
 |[]=>rfl
 |n::r=>by rw[yae,A5,JB r];rfl
theorem L1(ns:List Int):(B0 ns).share=B0 ns:=by unfold B0;rw[T.share,JA]
theorem L3(ns:List Int):(B0 ns).sh=true:=by unfold B0;rw[T.sh,JB];rfl
theorem KR{α:Type}{l:List α}{k:Int}{x:α}(h0:0<=k)(h:l[k.toNat]?=some x):Ab l k=some x:=by
 have:Ab l ((k.toNat:Nat):Int)=some x:=Dw h
 rwa[Int.toNat_of_nonneg h0]at this
theorem Uy{α β:Type}(f:α->β)(l:List α)(lo hi:Option Int):Bv (l.map f) lo hi=(Bv l lo hi).map f:=by
 unfold Bv;simp[List.map_drop,ydy]
end Pu
namespace Zm
end Zm
namespace Db
open PySem
def bs(a b:Int):Int:=2 * (a / 2+b / 2)+min (a % 2) (b % 2)
theorem zjk(a b:Int):bs a b=bs b a:=by unfold bs;omega
abbrev B:=Option Int
def le:B->B->Prop
 |_,none=>True
 |none,some _=>False
 |some a,some b=>a<=b
def K0:B->B->B
 |some a,some b=>some (bs a b)
 |_,_=>none
def mn:B->B->B
 |none,b=>b
 |some a,none=>some a
 |some a,some b=>some (min a b)
theorem le_refl(a:B):le a a:=by cases a<;>simp[le]
theorem le_trans{a b c:B}(h:le a b)(h':le b c):le a c:=by
 cases a<;>cases b<;>cases c<;>simp_all [le]
 omega
theorem add_comm(a b:B):K0 a b=K0 b a:=by
 cases a<;>cases b<;>simp[K0,zjk]
abbrev Z:=Nat->Nat->B
def free(i j:Nat):B:=if i=0\/i=j then some 1 else none
def z0(f:Z):Z:=λi j=>mn (f i j) (free i j)
def stp(f:Z)(k:Nat):Z:=λi j=>mn (f i j) (K0 (f i k) (f k j))
def fw(f:Z):Nat->Z
 |0=>z0 f
 |k+1=>stp (fw f k) k
end Db
namespace Pu
open PySem PySem.Spec PyProof.Rows L2 Zw Zx
def mT(n:Nat)(g:Nat->T):List T:=(List.range n).map g
theorem nl0:((0:Nat):Int)=0:=rfl
theorem nl1:((1:Nat):Int)=1:=rfl
theorem nl2:((2:Nat):Int)=2:=rfl
theorem nl3:((3:Nat):Int)=3:=rfl
theorem nl4:((4:Nat):Int)=4:=rfl
theorem nl5:((5:Nat):Int)=5:=rfl
theorem nl6:((6:Nat):Int)=6:=rfl
theorem nl7:((7:Nat):Int)=7:=rfl
theorem nl8:((8:Nat):Int)=8:=rfl
theorem nl9:((9:Nat):Int)=9:=rfl
theorem zme{k:Nat}(h:k<=100000):(k<=BE)=True:=eq_true (by unfold BE;omega)
theorem zmd{k:Nat}(h:k<100000):(k<BE)=True:=eq_true (by unfold BE;omega)
section
variable {n:Nat}{g h:Nat->T}
theorem Cc:(mT n g).length=n:=by simp[mT]
theorem G3{i:Nat}(hi:i<n):(mT n g)[i]?=some (g i):=by simp[mT,hi]
theorem Fq{i:Nat}{t:T}(e:(mT n g)[i]?=some t):i<n/\t=g i:=by
 have hi:i<n:=by
  rcases Nat.lt_or_ge i n with q|q
  .exact q
  .rw[yb6 (by rw[Cc];exact q)]at e
   cases e
 rw[G3 hi]at e;exact⟨hi,by injection e with e;exact e.symm⟩
theorem Fs{l:List T}(hl:l.length=n)(h:∀i,i<n->l[i]?=some (g i)):l=mT n g:=by
 refine yd6 λi=>?_
 rcases Nat.lt_or_ge i n with q|q
 .rw[h i q,G3 q]
 .rw[yb6 (by omega),yb6 (by rw[Cc];exact q)]
theorem Sn(e:∀i,i<n->g i=h i):mT n g=mT n h:=Fs Cc λi hi=>by rw[G3 hi,e i hi]
theorem G4{k:Nat}(h1:k<n):Ab (mT n g) (k:Int)=some (g k):=Dw (G3 h1)
theorem zmb{t:T}(ht:t∈mT n g):∃i,i<n/\t=g i:=by
 obtain⟨i,hi,e⟩:=yag.mp ht;exact⟨i,ybh.mp hi,e.symm⟩
theorem zds:BD (mT n g)=mT n λi=>(g i).share:=by
 rw[Cu];unfold mT;rw[yap]
 rfl
theorem L4(e:∀i,(g i).sh=true):A5 (mT n g)=true:=by
 rw[Bs,yas];intro t ht;obtain⟨i,-,rfl⟩:=zmb ht;exact e i
theorem zh6(xs:Nat->Int):A5 (mT n λi=>.int (xs i))=true:=L4 λ_=>rfl
theorem zh7(u w:Nat->Int):A5 (mT n λi=>.nd false .tup [.int (u i),.int (w i)])=true:=L4 λ_=>rfl
theorem So:mT n g++[g n]=mT (n+1) g:=by
 unfold mT;rw[List.range_succ,yat]
 rfl
theorem Sl{α:Type}(t:α->T)(xs:Nat->α)(r:α):mT n (λj=>t (xs j))++[t r]=mT (n+1) λj=>t (if j=n then r else xs j):=by
 rw[<- So,if_pos rfl,Sn (g:=λj=>t (if j=n then r else xs j)) (h:=λj=>t (xs j)) λj hj=>by rw[if_neg (by omega)]]
theorem U8:∀(l:List T) (k i:Nat) (t:T),l[i]?=some t->(C6 k l)[i]?=some (.tup [.int ((k+i:Nat):Int),t])
 |[],_,_,_,e=>by simp at e
 |x::r,k,0,t,e=>by
  simp at e;subst e
  rfl
 |x::r,k,i+1,t,e=>by
  rw[C6,yci];have:=U8 r (k+1) i t (by simpa using e)
  rw[this,show k+1+i=k+(i+1) by omega]
theorem U7:∀(l:List T) (k:Nat),(C6 k l).length=l.length
 |[],_=>rfl
 |x::r,k=>by rw[C6,yao,yao,U7 r]
theorem zjc:C6 0 (mT n g)=mT n λi=>.tup [.int (i:Int),g i]:=by
 refine Fs (by rw[U7,Cc]) λi hi=>?_
 rw[U8 _ _ _ _ (G3 hi),ye8]
theorem zfi(lo:Int):DJ lo n=mT n λi=>.int (lo+(i:Int)):=rfl
theorem EZ:DJ 0 n=mT n λi=>.int (i:Int):=by
 rw[zfi];refine Sn λi _=>?_
 rw[Int.zero_add]
theorem mT_of(l:List T)(d:T):l=mT l.length λi=>l.getD i d:=Fs rfl λi hi=>by
 rw[ya9,ya0 hi];rfl
variable {b:T->AA->Option AA}{body:AA->Option Out}{me:AA->Option Rs}{τ:AA}
theorem UT(I:Nat->AA->Prop)(h0:I 0 τ)(hs:∀i τ,i<n->I i τ->∃τ1,b (g i) τ=some τ1/\∃τ2,body τ1=some (.nx τ2)/\I (i+1) τ2):∃τ',B8 b body (mT n g) τ=some (.nx τ')/\I n τ':=by
 have:=DZ (ts:=mT n g) I h0 λi t τ e hI=>by
  obtain⟨hi,rfl⟩:=Fq e;exact hs i τ hi hI
 rwa[Cc]at this
theorem Cy{f:Nat->T}{x:Option T}{cs:AA}(hs:∀i,i<n->me (some (g i)::cs)=some (.v (f i) false)):BK (AD 0) (mC (.bl true)) me (mT n g) (x::cs)=some (mT n f):=by
 have:=Jg (b:=AD 0) (me:=me) (ts:=mT n g) (τ:=x::cs) (λ_ τ=>∃y,τ=y::cs) f ⟨x,rfl⟩ λi t τ e hI=>by
  obtain⟨hi,rfl⟩:=Fq e;obtain⟨y,rfl⟩:=hI;exact⟨some (g i)::cs,by simp[AD],hs i hi,_,rfl⟩
 rw[this,Cc]
 rfl
theorem Dq{u w f:Nat->T}{x y:Option T}{cs:AA}(hs:∀i,i<n->me (some (u i)::some (w i)::cs)=some (.v (f i) false)):BK (Aa 2 (AK (AD 0) (AK (AD 1) Ac))) (mC (.bl true)) me (mT n λi=>.tup [u i,w i]) (x::y::cs)=some (mT n f):=by
 have:=Jg (b:=Aa 2 (AK (AD 0) (AK (AD 1) Ac))) (me:=me) (ts:=mT n λi=>.tup [u i,w i]) (τ:=x::y::cs) (λ_ τ=>∃x y,τ=x::y::cs) f ⟨x,y,rfl⟩ λi t τ e hI=>by
  obtain⟨hi,rfl⟩:=Fq e;obtain⟨x,y,rfl⟩:=hI;exact⟨some (u i)::some (w i)::cs,by simp[Aa,AK,AD,Ac],hs i hi,_,_,rfl⟩
 rw[this,Cc]
 rfl
end
def bT:Db.B->T
 |none=>.non
 |some i=>.int i
theorem zjn:bT none=.non:=rfl
theorem zjm(i:Int):bT (some i)=.int i:=rfl
theorem bT_sh(b:Db.B):(bT b).sh=true:=by cases b<;>rfl
theorem zgp(b:Db.B):(bT b).share=bT b:=by cases b<;>rfl
theorem Hw{n:Nat}(p:Nat->Bool):DR (mT n λi=>.bl (p i))=some ((List.range n).map p):=by
 unfold mT;generalize List.range n=l
 induction l with
 |nil=>rfl
 |cons x r ih=>simp only[yae,DR,ih]
theorem Fi{n:Nat}(h:n<=100000):DL (n:Int)=true:=@decide_eq_true _ (Classical.propDecidable _) ⟨by omega,by omega⟩
theorem Iy:∀ys:List Str,EA (ys.map T.str)=some ys
 |[]=>rfl
 |y::r=>by
  show(match EA (r.map T.str) with|some l=>some (y::l)|none=>none)=_
  rw[Iy r]
theorem A4:∀ys:List Str,BD (ys.map T.str)=ys.map T.str
 |[]=>rfl
 |y::r=>by
  show T.str y::BD (r.map T.str)=_;rw[A4 r]
  rfl
theorem AV:∀ys:List Str,A5 (ys.map T.str)=true
 |[]=>rfl
 |y::r=>by
  show(true && A5 (r.map T.str))=true;rw[AV r]
  rfl
def Bf(ys:List Str):Prop:=∀y∈ys,PyData.strOk y=true
theorem RI:∀ys:List Str,DK (ys.map T.str)=true
 |[]=>rfl
 |y::r=>by
  show(true && DK (r.map T.str))=true;rw[RI r]
  rfl
theorem TF:∀{ys:List Str},Bf ys->PyData.canLayAll0 (BV (ys.map T.str))=true/\PyData.depthAll (BV (ys.map T.str))=0
 |[],_=>⟨rfl,rfl⟩
 |y::r,h=>by
  obtain⟨h1,h2⟩:=TF (ys:=r) λx hx=>h x (ya6 _ hx)
  have h3:=h y (ya7 ..);rw[yae,BV,PyData.canLayAll0,PyData.depthAll,h1,h2,T.data,PyData.canLay0,h3,PyData.depth];exact⟨rfl,rfl⟩
theorem GB{x y:Str}(hx:PyData.strOk x=true)(hy:PyData.strOk y=true):Bm (.str x) (.str y)=some (.bl (decide (x=y))):=by
 have e:(x == y)=decide (x=y):=by rw[ycm,yeu,yev]
 unfold Bm Dv Bq GA;simp only[T.data,T.pln,PyData.canLay0,PyData.depth,PyData.eqv,hx,hy,e];simp
theorem Fit.str{x:Str}(h:PyData.strOk x=true)(n:Nat):Fit (.str x) n:=⟨by unfold Bq;rw[T.pln,T.data,PyData.canLay0,h];rfl,rfl,by simp[T.data,PyData.depth]⟩
theorem VQ(x:Str):∀ys:List Str,((BV (ys.map T.str)).any λy=>PyData.eqv y (.str x))=decide (x∈ys)
 |[]=>by simp[BV]
 |y::r=>by
  have e:(y == x)=decide (x=y):=by rw[ycm,yeu,yev];exact eq_comm
  rw[yae,BV,ydw,VQ x r,T.data,PyData.eqv,e,ycm,ybk,yev,yev,yev,yai]
theorem Jn{ys:List Str}{x:Str}{o:Bool}{k:Kd}(h:Bf ys)(hx:PyData.strOk x=true):Dt (.str x) (.nd o k (ys.map T.str))=some (.bl (decide (x∈ys))):=by
 have ok:G8 (.str x) (ys.map T.str)=true:=by
  obtain⟨h1,h2⟩:=TF h;unfold G8 Bq;rw[RI,h1,h2,T.pln,T.data,PyData.canLay0,hx,PyData.depth]
  rfl
 unfold Dt;simp only;rw[if_pos ok];unfold N9;rw[T.data,VQ]
end Pu
namespace Tx
open PySem PySem.NumText
abbrev cs(x:Str):List Nat:=x.cps.toList
theorem cs_app(x y:Str):cs (x++y)=cs x++cs y:=Array.toList_append
theorem cs_ext{x y:Str}(h:cs x=cs y):x=y:=by
 cases x;cases y;exact congrArg Str.mk (Array.toList_inj.mp h)
theorem cs_len(x:Str):x.length=(cs x).length:=rfl
def joinL(c:Nat):List (List Nat)->List Nat
 |[]=>[]
 |[x]=>x
 |x::r=>x++c::joinL c r
theorem cs_join(c:Nat):∀l:List Str,cs (Str.join ⟨#[c]⟩ l)=joinL c (l.map cs)
 |[]=>rfl
 |[x]=>rfl
 |x::y::r=>by
  show cs (x++⟨#[c]⟩++Str.join ⟨#[c]⟩ (y::r))=cs x++c::joinL c ((y::r).map cs);rw[cs_app,cs_app,cs_join c (y::r),ybq]
  rfl
theorem Ux{c:Nat}:∀{a b u v:List Nat},a++c::u=b++c::v->c∉a->c∉b->a=b/\u=v
 |[],[],u,v,h,_,_=>⟨rfl,(ycs h).2⟩
 |[],y::b,u,v,h,_,hb=>absurd (by rw[(ycs h).1];exact ya7 ..) hb
 |x::a,[],u,v,h,ha,_=>absurd (by rw[<- (ycs h).1];exact ya7 ..) ha
 |x::a,y::b,u,v,h,ha,hb=>by
  obtain⟨e1,e2⟩:=ycs h;obtain⟨e3,e4⟩:=Ux e2 (λz=>ha (ya6 _ z)) (λz=>hb (ya6 _ z))
  exact⟨by rw[e1,e3],e4⟩
theorem joinL_inj{c:Nat}:∀{l m:List (List Nat)},l≠[]->m≠[]->(∀p∈l,c∉p)->(∀p∈m,c∉p)->joinL c l=joinL c m->l=m
 |[],_,h,_,_,_,_=>absurd rfl h
 |_,[],_,h,_,_,_=>absurd rfl h
 |[a],[b],_,_,_,_,e=>by rw[show a=b from e]
 |[a],b::b2::r,_,_,ha,_,e=>absurd (by rw[show a=b++c::joinL c (b2::r) from e];simp) (ha a (ya7 ..))
 |a::a2::r,[b],_,_,_,hb,e=>absurd (by rw[<- show a++c::joinL c (a2::r)=b from e];simp) (hb b (ya7 ..))
 |a::a2::r,b::b2::q,_,_,ha,hb,e=>by
  obtain⟨e1,e2⟩:=Ux (show a++c::joinL c (a2::r)=b++c::joinL c (b2::q) from e) (ha a (ya7 ..)) (hb b (ya7 ..));rw[e1,joinL_inj (ye9 _ _) (ye9 _ _) (λp hp=>ha p (ya6 _ hp)) (λp hp=>hb p (ya6 _ hp)) e2]
theorem map_cs_inj:∀{l m:List Str},l.map cs=m.map cs->l=m
 |[],[],_=>rfl
 |[],_::_,h=>by cases h
 |_::_,[],h=>by cases h
 |a::l,b::m,h=>by
  obtain⟨e1,e2⟩:=ycs h;rw[cs_ext e1,map_cs_inj e2]
theorem fold_mem(a:Array Nat):∀(n:Nat) (acc:Array Nat) (c:Nat),c∈((List.replicate n a).foldl (·++·) acc).toList->c∈acc.toList\/c∈a.toList
 |0,acc,c,h=>.inl h
 |n+1,acc,c,h=>by
  rw[ybr,List.foldl_cons]at h
  rcases fold_mem a n (acc++a) c h with h|h
  .rw[Array.toList_append]at h;exact ybb.mp h
  .exact .inr h
section
variable {x y:Str}{c:Nat}(hA:∀k,(cs x)[k]?=some c->StrLaws.At x y x.length k)
include hA
end
theorem cs_mk(l:List Nat):cs ⟨l.toArray⟩=l:=rfl
theorem sl_to{x:Str}{a:Nat}(h:a<=(cs x).length):cs (Txt.slice x none (some (a:Int)))=(cs x).take a:=by
 have e:Txt.slice x none (some (a:Int))=StrLaws.sliceText x none (some (a:Int)):=rfl;rw[e,StrLaws.sliceText_to ⟨Int.natCast_nonneg a,Int.ofNat_le.mpr h⟩,cs_mk,List.drop_zero,Int.sub_zero,ye0]
end Tx
namespace Hd
open PySem PySem.W PySem.Calls PyProof.Rows
def Ho(st:SharedT->Thread->Option (SharedT×Thread))(ok:Thread->Bool):Nat->SharedT->Thread->Option SharedT
 |0=>λ_ _=>none
 |n+1=>λs t=>bif through t then some s else bif ok t then (st s t).elim none λx=>Ho st ok n x.1 x.2 else none
theorem zj7{tb:String->Option Builtin}{p:Program}{w:World}{m:Nat}{ann:Option Value}(n:Nat):∀(s:SharedT) (t:Thread) (r:SharedT),
  Ho (stepT (denote tb) p w) (stepOk m ann) n s t=some r->topRun tb p w m ann n s.abs t=some r.abs:=by
 induction n with
 |zero=>intro s t r h;exact nomatch h
 |succ n ih =>
  intro s t r h;rw[Ho]at h;dsimp only at h;rw[topRun];cases a:through t with
  |true=>rw[a]at h;cases h;rfl
  |false =>
   rw[a]at h;cases b:stepOk m ann t with
   |false=>rw[b]at h;exact nomatch h
   |true =>
    rw[b]at h;cases c:stepT (denote tb) p w s t with
    |none=>rw[c]at h;exact nomatch h
    |some x=>rw[c]at h;rw[stepT_spec (s':=x.1) (t':=x.2) c];exact ih _ _ _ h
noncomputable def JD(p q:Program)(loose:List Str)(Xt:Shared->Bool){α:Type}(Yf:Shared->α)(h:Heap)(s:Shared) :=
 ((staticsOk (importedModules p.main.body) h s.heap && namesBound p s.heap && gensDone s && laidKept h s.heap),openSeen q loose (importedModules p.main.body) Xt true s,Yf s)
theorem ziu{p q:Program}{loose:List Str}{Xt:Shared->Bool}{α:Type}{Yf:Shared->α}{Ya:World->α}{N M m:Nat}{ann:Option Value}{bt:Params->BT}{lf:Params->Life}{st:World->SharedT->Thread->Option (SharedT×Thread)}{ok:Thread->Bool}(hst:∀w,stepT (denote treeTable) p w=st w)(hok:stepOk m ann=ok)
  (e:opening p=plainProg p.main.scope.names) (hN:Nat.ble 600 N=true) (f:∀s,fenceModules? p s=some s) (hM:Nat.ble M N=true)
  (hb:∀P,absHeap (bt P) m (lf P)=boot_heap P) (hs:∀P,(boot_heap P).isNs mainGlobals=true) (hz:∀P,(boot_heap P).objs.size=m) (ha:∀P,(boot_heap P).nsMap mainGlobals "__annotations__"=ann)
  (h:∀(w:World) (os:OsState),(Ho (st w) ok M ⟨bt w.params,m,lf w.params,Array.mk [],boot_drawn,boot_toks,os⟩ (topStub p)).map (λs=>JD p q loose Xt Yf (boot_heap w.params) s.abs)=some (true,openGood q loose,Ya w)) :
  LeftO p q loose Xt Yf Ya N true:=λw=>by
 obtain⟨⟨h0,g0,d0,k0,os⟩,hs0,hv⟩:=ya2.mp (boot_open e hN f w);simp only[Prod.mk.injEq]at hv;obtain⟨rfl,rfl,rfl,rfl⟩:=hv;obtain⟨T,hT,hx⟩:=ya2.mp (h w os);rw[<- hst,<- hok]at hT;have r:=topRun_mono (N - M) _ _ _ _ (zj7 _ _ _ _ hT);rw[Nat.add_sub_cancel' (Nat.le_of_ble_eq_true hM)]at r;have hx1:=congrArg Prod.fst hx;have hx2:=congrArg Prod.snd hx;simp only[JD]at hx1 hx2;simp only[SharedT.abs,hb]at r hx1 hx2
 have k:topFrom treeTable p w N ⟨boot_heap w.params,Array.mk [],boot_drawn,boot_toks,os⟩=some T.abs:=by
  simp only[topFrom,hs,hz,ha,r];simp only[Option.bind_some,SharedT.abs];rw[hx1]
  rfl
 show((fencedOpening treeTable p w N).bind (topFrom treeTable p w N)).map _=_;rw[hs0];show(topFrom treeTable p w N _).map _=_;rw[k];exact congrArg some hx2
def en(P:Params)(x:String)(k:Nat)(v:Value):DictEntry:=⟨PyData.keyHash P (Str.ofString x),.str (Str.ofString x) k,v⟩
def bt(P:Params):BT:=((boot_heap P).objs.toList.foldl (λ(x:BT×Nat) o=>(x.1.ins x.2 o,x.2+1)) (BT.nil,0)).1
theorem bt_ok(P:Params):absHeap (bt P) 11 (boot_heap P).life=boot_heap P:=by ext
theorem zna(P:Params):(boot_heap P).nsMap mainGlobals "__annotations__"=some (.ref 6):=by ext
theorem ns_ok(P:Params):(boot_heap P).isNs mainGlobals=true:=by ext
theorem sz_ok(P:Params):(boot_heap P).objs.size=11:=by ext
abbrev go(p:Program)(M:Nat)(w:World)(os:OsState):Option SharedT :=
 Ho (Fast.tw10156331382660048174 (Fast.tw11892475500146522536 Fast.tw14364793385576792824) p w) (Fast.tw6613529449190102663 11 (some (.ref 6))) M ⟨bt w.params,11,(boot_heap w.params).life,Array.mk [],boot_drawn,boot_toks,os⟩ (topStub p)
abbrev xt(r:RowW)(q:Program)(s:Shared):Bool:=xlAt q [] s && recOk r.records s
theorem ziv{p q:Program}{r:RowW}{loose:List Str}{α:Type}{Yf:Shared->α}{Ya:World->α}(N M:Nat)
  (e:opening p=plainProg p.main.scope.names) (hN:Nat.ble 600 N=true) (f:∀s,fenceModules? p s=some s) (hM:Nat.ble M N=true)
  (h:∀(w:World) (os:OsState),(go p M w os).map (λs=>JD p q loose (xt r q) Yf (boot_heap w.params) s.abs)=some (true,openGood q loose,Ya w)):LeftO p q loose (xt r q) Yf Ya N true :=
 ziu (st:=λw=>Fast.tw10156331382660048174 (Fast.tw11892475500146522536 Fast.tw14364793385576792824) p w) (ok:=Fast.tw6613529449190102663 11 (some (.ref 6)))
  (λw=>by rw[Fast.te10156331382660048174,Fast.te11892475500146522536,Fast.te14364793385576792824]) (by rw[Fast.te6613529449190102663]) e hN f hM bt_ok ns_ok sz_ok zna h
theorem zhb{l:OpenLaw}(h:Fast.tw9446332074065402090 l=true):l.wellSaid=true:=(congrFun Fast.te9446332074065402090 l).trans h
end Hd
set_option maxHeartbeats 4200000
namespace Zl
open PySem L2 Zw Zx Pu
noncomputable section
local macro_rules
  |`(tactic| simp![$as,*])=>`(tactic| simp only[Am,MO,AG,Ad,CI,DH,Ar,A8,MG,Qp,runM,mMut,Eu,Ap,MI,MH,BX,Df,HW,EB,HU,Bj,DV,zlp,AB,mC,AF,AE,CK,BQ,m1,m2,A7,DW,BJ,Cw,Bg,BA,DO,Dn,BO,CJ,BP,Ay,g1,g2,AD,Ac,AK,Aa,blk,Gh,G9,Cd,Cq,E8,KY,as2,KW,KU,Hl,B5,HM,Dm,B3,DB,Ff,CN,Dl,Fw,T.isN,T.isB,Bh,Bo,K1,Hf,maxT,yc0,Hm,DS,KZ,CD,Ig,HH,Iu,T.share,BD,T.sh,A5,T.flat,at0,KS,at2,yae,yce,yao,yb4,List.replicate,yaw,ybe,List.cons_append,List.getElem?_cons_zero,yci,List.getElem?_nil,List.set_cons_zero,List.set_cons_succ,yc7,nl0,nl1,nl2,nl3,nl4,nl5,nl6,nl7,nl8,nl9,Int.reduceBEq,Nat.reduceBEq,Nat.reduceAdd,Nat.reduceSub,Nat.reduceLT,Nat.reduceLeDiff,if_true,if_false,ite_true,ite_false,reduceIte,Bool.not_true,Bool.not_false,Bool.and_true,Bool.true_and,Bool.and_false,ydp,Bool.or_true,ye4,ydv,ydx,Bool.false_xor,Bool.true_xor,yc6,yd7,decide_true,decide_false,yai,ybs,or_false,or_true,true_or,and_true,true_and,and_self,String.reduceEq,String.reduceBEq,beq_self_eq_true,ne_eq,not_false_eq_true,not_true_eq_false,zme,zmd,bT_sh,zgp,Cc,zds,Int.reduceLT,Int.reduceAdd,ye0,zh6,zh7,L4,implies_true,forall_const,zjn,zjm,Int.reduceEq,Int.reduceNe,N6,CM,Bd,Bt,Bu,E5,DI,E2,HV,H9,Jf,Dp,DX,An,Ih,isXT,JN,Kd.isLst,iLsX,mIdxB,PR,$as,*])
noncomputable def AY(i:Nat):Stmt:=PySem.Challenge.pw_zonewalk_k24_whole_rooms.main.body.getD i (.Pass ⟨0,0,0,0⟩)
def zn6(s:Stmt)(j:Nat):Stmt:=match s with
 |.ClassDef _ _ _ body _ _ _ _ _ _ _=>body.getD j (.Pass ⟨0,0,0,0⟩)
 |_=>.Pass ⟨0,0,0,0⟩
def Cb(i j:Nat):Stmt:=zn6 (AY i) j
abbrev Ax:Addr:=156
noncomputable def BS:List Str:=["start","end","guard","noughts","sign"]
abbrev AW:Addr:=210
def Ai:List Str:=["watch_names","stays","door_list"]
def NW:T:=(.nd false .rt [(.str "<"),(.str "<="),(.str ">"),(.str ">="),(.str "=")])
def NX:T:=(.nd false .rt [(.str "<"),(.str "<=")])
def G5:T:=(.int 7)
def G6:T:=(.int 64)
def FG:T:=(.int 200)
def NY:T:=(.int 6)
def O3:List (Addr×Bool):=[(156,true),(210,false)]
def Ge:List (Addr×Bool):=[(156,false),(210,true)]
abbrev MF:Stmt:=AY 44
def NM:AA->Option Out :=
 (AG (Ar (m2 (CN λi j=>decide (i<j)) (AB 1) (m1 Bh (AB 0))) (A8 (BA (AB 0) (AB 1))) Ap)
 (A8 (mC (.int 0))))
def Ej:List T->Option Ru:=Am 2 2 NM
abbrev OV:Fn:=⟨1,["_law_script","_law_k"],Ej⟩
abbrev UP:Gm:=⟨["_law_script","_law_k"],(AL MF).names,[],0,[],["len"],[],[],[],false,[],[],[],CF⟩
theorem zcj:FnScope UP.N OV.ps (AL MF):=Aq (by decide +kernel)
theorem zcy:Ag 200 UP (A9 MF)=some NM:=by ext
theorem KJ(ns:List Int){k:Int}(h0:0<=k):Ej [B0 ns,.int k]=some (.ok (.int (ns.getD k.toNat 0))):=by
 unfold Ej NM
 by_cases h:k<ns.length
 .have e:ns[k.toNat]?=some (ns.getD k.toNat 0):=by
   rw[ya9,ya0 (by omega)]
   rfl
  have ea:Ab (ns.map T.int) k=some (.int (ns.getD k.toNat 0)):=KR h0 (by rw[ya4,e];rfl)
  have el:decide (k<((ns.map T.int).length:Int))=true:=by simpa using h
  simp![B0,JA,JB,el,ea]
 .have el:decide (k<((ns.map T.int).length:Int))=false:=by simpa using h
  have e:ns.getD k.toNat 0=0:=by
   rw[ya9,yb6 (by omega)]
   rfl
  simp![B0,JA,JB,el,e]
abbrev Lz:Stmt:=AY 45
def LC:AA->Option Out :=
 (AG (Df 2 (m2 B3 (AB 5) (mC (.int 2147483647))))
 (Ad (m2 DB (AB 5) (mC (.int 2147483647))) (AD 5)))
def LB:AA->Option Out :=
 (AG (Ad (m2 B3 (m2 B5 (m2 B5 (m2 Dm (AB 3) (AB 3)) (m2 Dm (mC (.int 48271)) (AB 3))) (AB 4)) (mC (.int 2147483647))) (AD 3))
 (Df 2 (AB 3)))
def Jc:AA->Option Out :=
 (AG (CI 2 (BO AF))
 (AG (Ar (m2 (CN λi j=>decide (j<=i)) (AB 0) (m2 Ff (mC (.int 10)) (mC (.int 30)))) (AG (Ad (m2 HM (AB 0) (m2 Ff (mC (.int 10)) (mC (.int 30)))) (AD 5))
 (AG (BX (Cd (AE (AB 1) AF)) (AD 4) LC)
 (A8 (AB 2)))) Ap)
 (AG (Ad (m2 B5 (m2 B3 (AB 0) (mC (.int 2147483647))) (mC (.int 48271))) (AD 3))
 (AG (BX (Cd (AE (m2 B5 (AB 1) (mC (.int 2))) AF)) (AD 4) LB)
 (AG (DH 2) (A8 (Bu (DO (AB 2) (some (mC (.int 2))) none) (DN (AB 2) (some (mC (.int 2))) none))))))))
def Gr:List T->Option Ru:=Am 2 6 Jc
abbrev OP:Fn:=⟨1,["_law_cell","_law_many"],Gr⟩
abbrev UJ:Gm:=⟨["_law_cell","_law_many","_law_found","_law_number","_law_k","_law_rest"],(AL Lz).names,[],0,[],["range"],[],["_law_found"],[],false,[],[],[],CF⟩
theorem zd5:FnScope UJ.N OP.ps (AL Lz):=Aq (by decide +kernel)
theorem zdi:Ag 200 UJ (A9 Lz)=some Jc:=by ext
theorem st_ex(c:Int){m:Nat}(hm:m<=1000):∃xs:Nat->Int,Gr [.int c,.int m]=some (.ok (.own (mT m λi=>.int (xs i)))):=by
 have p30:(0:Int)<=30/\(30:Int)<=1000000/\Ey 10=true:=⟨by decide,by decide,Ew (by decide) (by decide)⟩
 have s45:CZ 2147483647=true:=EC (by decide) (by decide)
 have r30:(30:Int).toNat=30:=rfl
 by_cases h:(10:Int) ^ 30<=c
 .have loop:=UT (b:=AD 4) (body:=LC) (n:=m) (g:=λi=>.int (i:Int)) (τ:=[some (.int c),some (.int m),some (.own []),none,none,some (.int (c - 10 ^ 30))])
   (λi τ=>∃(xs:Nat->Int) (x:Option T) (r:Int),τ=[some (.int c),some (.int m),some (.own (mT i λi=>.int (xs i))),none,x,some (.int r)])
   ⟨λ_=>0,none,_,rfl⟩ (by
    rintro i τ hi ⟨xs,x,r,rfl⟩;refine⟨_,by simp![];rfl,?_⟩
    have l1:i<100000:=by omega
    refine⟨_,by unfold LC;simp![s45,l1];rfl,λj=>if j=i then r.fmod 2147483647 else xs j,some (.int (i:Int)),r.fdiv 2147483647,?_⟩
    rw[Sl T.int])
  obtain⟨τ',e1,xs,x,r,rfl⟩:=loop;refine⟨xs,?_⟩;have o1:DL (m:Int)=true:=Fi (by omega)
  unfold Gr Jc
  simp![p30,r30,h,o1,EZ,e1]
 .have loop:=UT (b:=AD 4) (body:=LB) (n:=m+2) (g:=λi=>.int (i:Int)) (τ:=[some (.int c),some (.int m),some (.own []),some (.int (c.fmod 2147483647+48271)),none,none])
   (λi τ=>∃(xs:Nat->Int) (x:Option T) (r:Int),0<=r/\r<4294967296/\τ=[some (.int c),some (.int m),some (.own (mT i λi=>.int (xs i))),some (.int r),x,none])
   ⟨λ_=>0,none,_,by rw[fm (by decide)];omega,by rw[fm (by decide)];omega,rfl⟩ (by
    rintro i τ hi ⟨xs,x,r,r0,r1,rfl⟩;refine⟨_,by simp![];rfl,?_⟩
    have l1:i<100000:=by omega
    have m1:DM r r=true:=zik (EC (by omega) (by omega)) (EC (by omega) (by omega))
    have m2:DM 48271 r=true:=G1 (Ew (by decide) (by decide))
    refine⟨_,by unfold LB;simp![l1,m1,m2];rfl,λj=>if j=i then (r * r+48271 * r+i).fmod 2147483647 else xs j,some (.int (i:Int)),(r * r+48271 * r+i).fmod 2147483647,by rw[fm (by decide)];omega,by rw[fm (by decide)];omega,?_⟩
    rw[Sl T.int])
  obtain⟨τ',e1,xs,x,r,-,-,rfl⟩:=loop;refine⟨λi=>xs (i+2),?_⟩
  have o1:DL ((m:Int)+2)=true:=Fi (n:=m+2) (by omega)
  have o2:((m:Int)+2).toNat=m+2:=by omega
  have ct:Bv (mT (m+2) λi=>.int (xs i)) (some 2) none=mT m λi=>.int (xs (i+2)):=by
   unfold Bv;have e2:HT.sIx (mT (m+2) λi=>T.int (xs i)).length 0 (some 2)=2:=by rw[Cc];simp[HT.sIx]
   have e3:HT.sIx (mT (m+2) λi=>T.int (xs i)).length (mT (m+2) λi=>T.int (xs i)).length none=m+2:=by rw[Cc];rfl
   rw[e2,e3];refine Fs (by simp[Cc]) λi hi=>?_
   rw[ycy (by omega),yd0,G3 (by omega),Nat.add_comm]
  unfold Gr Jc
  simp![p30,r30,h,o1,o2,EZ,e1,ct]
abbrev MD:Stmt:=AY 46
def IW:AA->Option Out :=
 (AG (Ad (m2 B5 (m2 B5 (m2 DB (AB 0) (mC (.int 6720))) (m2 Dm (AB 8) (m2 B5 (mC (.int 1)) (m2 B3 (AB 0) (mC (.int 25)))))) (m2 Dm (AB 6) (m1 Hm (m2 Bm (AB 8) (AB 4))))) (AD 9))
 (Ad (m2 B5 (AB 7) (BA (AB 2) (m2 B3 (AB 9) (mC (.int 26))))) (AD 7)))
def IY:AA->Option Out :=
 (AG (Ad (mC (.str "")) (AD 7))
 (AG (BX (Cd (AE (AB 3) AF)) (AD 8) IW)
 (Df 5 (AB 7))))
def NK:AA->Option Out :=
 (AG (Ad (mC (.str "abcdefghijklmnopqrstuvwxyz")) (AD 2))
 (AG (Ad (m2 B5 (mC (.int 1)) (m2 B3 (AB 0) (mC (.int 8)))) (AD 3))
 (AG (Ad (m2 B3 (m2 B3 (m2 DB (AB 0) (mC (.int 8))) (mC (.int 840))) (AB 3)) (AD 4))
 (AG (CI 5 (BO AF))
 (AG (BX (Cd (AE (AB 1) AF)) (AD 6) IY)
 (A8 (AB 5)))))))
def IH:List T->Option Ru:=Am 2 10 NK
abbrev OT:Fn:=⟨1,["_law_cell","_law_many"],IH⟩
abbrev UN:Gm:=⟨["_law_cell","_law_many","_law_letters","_law_size","_law_at","_law_names_here","_law_k","_law_name","_law_j","_law_sign"],(AL MD).names,[],0,[],["range","int"],[],["_law_names_here"],[],false,[],[],[],CF⟩
theorem zdw:FnScope UN.N OT.ps (AL MD):=Aq (by decide +kernel)
theorem zem:Ag 200 UN (A9 MD)=some NK:=by ext
noncomputable def Fd(c:Int)(k j:Nat):Int:=(c.fdiv 6720+(j:Int) * (1+c.fmod 25)+(k:Int) * (if ((j:Int) == ((c.fdiv 8).fmod 840).fmod (1+c.fmod 8))=true then 1 else 0)).fmod 26
def DT(c:Int)(k j:Nat):Nat:=97+(Fd c k j).toNat
def EK(c:Int)(k n:Nat):Str:=⟨((List.range n).map (DT c k)).toArray⟩
def Dk(c:Int):Nat:=(1+c.fmod 8).toNat
theorem Hc(c:Int):1<=Dk c/\Dk c<=8/\(1+c.fmod 8)=(Dk c:Int):=by
 unfold Dk;rw[fm (by decide)]
 omega
theorem HQ(c:Int)(k j:Nat):0<=Fd c k j/\Fd c k j<26:=by
 unfold Fd;rw[fm (j:=26) (by decide)]
 omega
theorem abc:(Str.ofString "abcdefghijklmnopqrstuvwxyz").cps.toList=(List.range 26).map (97 + ·):=by decide +kernel
theorem znb{i:Int}(h0:0<=i)(h1:i<26):Ab (Str.ofString "abcdefghijklmnopqrstuvwxyz").cps.toList i=some (97+i.toNat):=by
 rw[abc];refine KR h0 ?_;rw[ya4,yc3 (by omega)]
 rfl
theorem zjt:(Str.ofString "abcdefghijklmnopqrstuvwxyz").length<=100000:=by decide +kernel
theorem zih(c:Int)(k n:Nat):EK c k n++⟨#[DT c k n]⟩=EK c k (n+1):=by
 show Str.mk (((List.range n).map (DT c k)).toArray++#[DT c k n])=Str.mk _;rw[List.range_succ,yat];simp
theorem zig(c:Int)(k n:Nat):(EK c k n).length=n:=by
 show((List.range n).map (DT c k)).toArray.size=n;simp
theorem w7_ok{c:Int}{k i m:Nat}(hi:i<8)(hk:k<30){o x9:Option T}:∃y9,IW [some (.int c),some (.int (m:Int)),some (.str "abcdefghijklmnopqrstuvwxyz"),some (.int (1+c.fmod 8)),some (.int (((c.fdiv 8).fmod 840).fmod (1+c.fmod 8))),o,some (.int k),some (.str (EK c k i)),some (.int i),x9]
  = some (.nx [some (.int c),some (.int (m:Int)),some (.str "abcdefghijklmnopqrstuvwxyz"),some (.int (1+c.fmod 8)),some (.int (((c.fdiv 8).fmod 840).fmod (1+c.fmod 8))),o,some (.int k),some (.str (EK c k (i+1))),some (.int i),y9]):=by
 have m1:DM (i:Int) (1+c.fmod 25)=true:=G1 (Ew (by omega) (by omega))
 have m2:∀x:Int,DM (k:Int) x=true:=λx=>G1 (Ew (by omega) (by omega))
 have s1:CZ 6720=true:=EC (by decide) (by decide)
 have ea:Ab (Str.ofString "abcdefghijklmnopqrstuvwxyz").cps.toList ((c.fdiv 6720+(i:Int) * (1+c.fmod 25)+(k:Int) * (if ((i:Int) == ((c.fdiv 8).fmod 840).fmod (1+c.fmod 8))=true then 1 else 0)).fmod 26)=some (DT c k i):=znb (HQ c k i).1 (HQ c k i).2
 have el:(EK c k i).length+(Str.mk #[DT c k i]).length<=100000:=by
  rw[zig];show i+1<=100000
  omega
 unfold IW;refine⟨some (.int (c.fdiv 6720+(i:Int) * (1+c.fmod 25)+(k:Int) * (if ((i:Int) == ((c.fdiv 8).fmod 840).fmod (1+c.fmod 8))=true then 1 else 0))),?_⟩
 simp![Hu,m1,m2,s1,ea,zjt,el,zih]
theorem w5_ok{c:Int}{k m:Nat}(hk:k<30){l:List T}(hl:l.length<1000){x7 x8 x9:Option T}:∃y7 y8 y9,IY [some (.int c),some (.int (m:Int)),some (.str "abcdefghijklmnopqrstuvwxyz"),some (.int (1+c.fmod 8)),some (.int (((c.fdiv 8).fmod 840).fmod (1+c.fmod 8))),some (.own l),some (.int k),x7,x8,x9]
  = some (.nx [some (.int c),some (.int (m:Int)),some (.str "abcdefghijklmnopqrstuvwxyz"),some (.int (1+c.fmod 8)),some (.int (((c.fdiv 8).fmod 840).fmod (1+c.fmod 8))),some (.own (l++[.str (EK c k (Dk c))])),some (.int k),y7,y8,y9]):=by
 obtain⟨n1,n8,ne⟩:=Hc c
 obtain⟨τ,e,z8,z9,rfl⟩:=DZ (b:=AD 8) (body:=IW) (ts:=mT (Dk c) λi=>.int (i:Int)) (τ:=[some (.int c),some (.int (m:Int)),some (.str "abcdefghijklmnopqrstuvwxyz"),some (.int (1+c.fmod 8)),some (.int (((c.fdiv 8).fmod 840).fmod (1+c.fmod 8))),some (.own l),some (.int k),some (.str ""),x8,x9])
  (λi τ=>∃x8 x9,τ=[some (.int c),some (.int (m:Int)),some (.str "abcdefghijklmnopqrstuvwxyz"),some (.int (1+c.fmod 8)),some (.int (((c.fdiv 8).fmod 840).fmod (1+c.fmod 8))),some (.own l),some (.int k),some (.str (EK c k i)),x8,x9]) ⟨x8,x9,by rfl⟩ λi t τ h1 h2=>by
   obtain⟨hi,rfl⟩:=Fq h1;obtain⟨x8,x9,rfl⟩:=h2;obtain⟨y9,ew⟩:=w7_ok (c:=c) (k:=k) (i:=i) (m:=m) (by omega) hk (o:=some (.own l)) (x9:=x9)
   exact⟨_,by simp![],_,ew,_,_,rfl⟩
 rw[Cc]at e;have ok:DL (1+c.fmod 8)=true:=@decide_eq_true _ (Classical.propDecidable _) ⟨by omega,by omega⟩
 have er:DJ 0 (1+c.fmod 8).toNat=mT (Dk c) λi=>.int (i:Int):=EZ
 have ll:l.length<100000:=by omega
 unfold IY;refine⟨some (.str (EK c k (Dk c))),z8,z9,?_⟩
 simp![ok,er,e,ll]
abbrev Au(c:Int)(k:Nat):Str:=EK c k (Dk c)
theorem zg5(c:Int){m:Nat}(hm:m<30):IH [.int c,.int (m:Int)]=some (.ok (.own (mT m λk=>.str (Au c k)))):=by
 obtain⟨n1,n8,ne⟩:=Hc c
 obtain⟨τ,e,z6,z7,z8,z9,rfl⟩:=DZ (b:=AD 6) (body:=IY) (ts:=mT m λi=>.int (i:Int)) (τ:=[some (.int c),some (.int (m:Int)),some (.str "abcdefghijklmnopqrstuvwxyz"),some (.int (1+c.fmod 8)),some (.int (((c.fdiv 8).fmod 840).fmod (1+c.fmod 8))),some (.own []),none,none,none,none])
  (λi τ=>∃x6 x7 x8 x9,τ=[some (.int c),some (.int (m:Int)),some (.str "abcdefghijklmnopqrstuvwxyz"),some (.int (1+c.fmod 8)),some (.int (((c.fdiv 8).fmod 840).fmod (1+c.fmod 8))),some (.own (mT i λk=>.str (Au c k))),x6,x7,x8,x9]) ⟨_,_,_,_,by rfl⟩ λi t τ h1 h2=>by
   obtain⟨hi,rfl⟩:=Fq h1;obtain⟨x6,x7,x8,x9,rfl⟩:=h2;obtain⟨y7,y8,y9,ew⟩:=w5_ok (c:=c) (k:=i) (m:=m) (by omega) (l:=mT i λk=>.str (Au c k)) (by rw[Cc];omega) (x7:=x7) (x8:=x8) (x9:=x9)
   rw[So (g:=λk=>.str (Au c k))]at ew
   exact⟨_,by simp![],_,ew,_,_,_,_,rfl⟩
 rw[Cc]at e;have ok:DL (m:Int)=true:=@decide_eq_true _ (Classical.propDecidable _) ⟨by omega,by omega⟩
 have er:DJ 0 m=mT m λi=>.int (i:Int):=EZ
 have h0:(1+c.fmod 8≠0)=True:=eq_true (by omega)
 have s1:CZ 8=true:=EC (by decide) (by decide)
 unfold IH NK
 simp![ok,er,e,h0,s1]
theorem J5(c:Int)(k:Nat):Tx.cs (Au c k)=(List.range (Dk c)).map (DT c k):=rfl
theorem zm5(c:Int)(k:Nat):∀s∈Tx.cs (Au c k),97<=s/\s<=122:=λs hs=>by
 rw[J5]at hs;obtain⟨j,_,rfl⟩:=yag.mp hs;have:=HQ c k j;unfold DT
 omega
theorem zii(c:Int)(k:Nat):(Tx.cs (Au c k)).length<=8:=by
 rw[J5,ya1,yb9];exact(Hc c).2.1
theorem zm4(c:Int)(k:Nat):1<=(Tx.cs (Au c k)).length:=by
 rw[J5,ya1,yb9];exact(Hc c).1
theorem zg4{c:Int}{j k:Nat}(hj:j<26)(hk:k<26)(h:Au c j=Au c k):j=k:=by
 obtain⟨n1,n8,ne⟩:=Hc c
 have ha:0<=((c.fdiv 8).fmod 840).fmod (1+c.fmod 8)/\((c.fdiv 8).fmod 840).fmod (1+c.fmod 8)<1+c.fmod 8:=by
  rw[fm (j:=1+c.fmod 8) (by omega)]
  exact⟨Int.emod_nonneg _ (by omega),Int.emod_lt_of_pos _ (by omega)⟩
 obtain⟨a,ea⟩:=ybo ha.1;have hn:a<Dk c:=by omega
 have e:DT c j a=DT c k a:=by
  have e1:=congrArg (λl:List Nat=>l[a]?) (congrArg Tx.cs h)
  simp only[J5,ya4,yc3 hn]at e1;exact yar e1
 have s1:=HQ c j a;have s2:=HQ c k a;unfold DT at e;have e2:Fd c j a=Fd c k a:=by omega
 unfold Fd at e2;have eb:(((a:Nat):Int) == ((c.fdiv 8).fmod 840).fmod (1+c.fmod 8))=true:=by rw[ea];exact yex _
 rw[if_pos eb,fm (j:=26) (by decide),fm (j:=26) (by decide)]at e2
 generalize c.fdiv 6720+((a:Nat):Int) * (1+c.fmod 25)=z at e2
 omega
abbrev Lh:Stmt:=AY 17
def Ml:AA->Option Out :=
 (A8 (Dp DX DX (mC (.str "a")) (AB 0) (mC (.str "z"))))
def IC:List T->Option Ru:=Am 1 1 Ml
abbrev Jt:Fn:=⟨1,["sign"],IC⟩
abbrev Tq:Gm:=⟨["sign"],(AL Lh).names,[],0,[],[],[],[],[],false,[],[],[],CF⟩
theorem za0:FnScope Tq.N Jt.ps (AL Lh):=Aq (by decide +kernel)
theorem za4:Ag 200 Tq (A9 Lh)=some Ml:=by ext
theorem Q9{c:Nat}(h1:97<=c)(h2:c<=122):IC [.str ⟨#[c]⟩]=some (.ok (.bl true)):=by
 have a1:((Str.ofString "a").cps.toList)=[97]:=by decide +kernel
 have a2:((Str.ofString "z").cps.toList)=[122]:=by decide +kernel
 have b1:@decide ((#[c]:Array Nat).toList<(Str.ofString "a").cps.toList) (Classical.propDecidable _)=false:=@decide_eq_false _ (Classical.propDecidable _) (by
  rw[a1];show ¬ ([c] < [97]);rw[List.cons_lt_cons_iff];rintro(h|⟨_,h⟩)
  .omega
  .exact absurd h (List.not_lt_nil _))
 have b2:@decide ((Str.ofString "z").cps.toList<(#[c]:Array Nat).toList) (Classical.propDecidable _)=false:=@decide_eq_false _ (Classical.propDecidable _) (by
  rw[a2];show ¬ ([122] < [c]);rw[List.cons_lt_cons_iff];rintro(h|⟨_,h⟩)
  .omega
  .exact absurd h (List.not_lt_nil _))
 unfold IC Ml
 simp![b1,b2]
abbrev Ll:Stmt:=AY 18
def Oq:AA->Option Rs :=
 (A7 IC (AE (AB 0) AF))
def Mp:AA->Option Out :=
 (A8 (Cw (Dp DX DX (mC (.int 1)) (m1 Bh (AB 0)) (mC (.int 8))) (m1 DS (BP 1 [] (An (AB 0)) (AD 0) (mC (.bl true)) Oq))))
def IE:List T->Option Ru:=Am 1 1 Mp
abbrev Jv:Fn:=⟨2,["text"],IE⟩
abbrev Tu:Gm:=⟨["text"],(AL Ll).names,[],1,[("is_small_letter",Jt)],["len","all"],[],[],[],false,[],[],[],CF⟩
theorem zd3:FnScope Tu.N Jv.ps (AL Ll):=Aq (by decide +kernel)
theorem zdg:Ag 200 Tu (A9 Ll)=some Mp:=by ext
def Ef(x:Str):Prop:=∀i,i<x.cps.size->97<=x.cps.getD i 0/\x.cps.getD i 0<=122
theorem Qb(x:Str):Es x=mT x.cps.size λi=>.str ⟨#[x.cps.getD i 0]⟩:=by
 refine Fs (by simp[Es]) λi hi=>?_
 unfold Es;rw[ya4,ycp,yb2 hi];simp[Array.getD,hi]
theorem Sf{x:Str}(h:Ef x)(h1:1<=x.cps.size)(h8:x.cps.size<=8):IE [.str x]=some (.ok (.bl true)):=by
 have l1:x.cps.size<=100000:=by omega
 have lc:=Cy (n:=x.cps.size) (me:=Oq) (x:=none) (cs:=[]) (g:=λi=>.str ⟨#[x.cps.getD i 0]⟩) (f:=λ_=>.bl true) λi hi=>by
  unfold Oq
  simp![Q9 (h i hi).1 (h i hi).2]
 have e1:decide ((1:Int)<=(x.length:Int))=true:=yer (by show(1:Int)<=((x.cps.size:Nat):Int);omega)
 have e2:decide ((x.length:Int)<=8)=true:=yer (by show((x.cps.size:Nat):Int)<=8;omega)
 have ll:x.length<=BE:=by
  show x.cps.size<=BE;unfold BE
  omega
 have ba:((List.range x.cps.size).map λ_=>true).all id=true:=by simp
 unfold IE Mp
 simp![Qb,lc,l1,e1,e2,ll,Hw,ba]
abbrev Lg:Stmt:=AY 19
def Mj:AA->Option Out :=
 (A8 (Cw (m1 (CD "str") (AB 0)) (Bg (m2 Bm (AB 0) (mC (.str "/"))) (A7 IE (AE (AB 0) AF)))))
def IB:List T->Option Ru:=Am 1 1 Mj
abbrev Js:Fn:=⟨3,["thing"],IB⟩
abbrev Tp:Gm:=⟨["thing"],(AL Lg).names,[],2,[("is_name",Jv)],["isinstance","str"],[],[],[],false,[],[],[],CF⟩
theorem za7:FnScope Tp.N Js.ps (AL Lg):=Aq (by decide +kernel)
theorem zae:Ag 200 Tp (A9 Lg)=some Mj:=by ext
theorem zke{x:Str}(h:Ef x):PyData.strOk x=true:=by
 unfold PyData.strOk;rw[Array.all_eq_true];intro i hi;have:=(h i hi).2;rw[ybw,yb2 hi]at this;simp only[Option.getD_some]at this;rw[yev]
 omega
def Dd(x:Str):Prop:=x=Str.ofString "/"\/(Ef x/\1<=x.cps.size/\x.cps.size<=8)
theorem LZ:PyData.strOk (Str.ofString "/")=true:=by decide +kernel
theorem HD{x:Str}(h:Dd x):PyData.strOk x=true:=by
 rcases h with rfl|h
 .exact LZ
 .exact zke h.1
theorem Pj{x:Str}(h:Dd x):IB [.str x]=some (.ok (.bl true)):=by
 have e:=GB (HD h) LZ;unfold IB Mj
 by_cases q:x=Str.ofString "/"
 .rw[yer q]at e
  simp![e]
 .rw[yea q]at e;have en:=Sf (h.resolve_left q).1 (h.resolve_left q).2.1 (h.resolve_left q).2.2
  simp![e,en]
abbrev Lj:Stmt:=AY 20
def KN:AA->Option Rs :=
 (Bg (m2 Bm (AB 0) (mC (.str "/"))) (A7 IC (AE (AB 0) AF)))
def Mm:AA->Option Out :=
 (AG (Ar (Bg (BJ (m1 (CD "str") (AB 0))) (BJ (Dp DX DX (mC (.int 1)) (m1 Bh (AB 0)) (mC (.int 60))))) (A8 (mC (.bl false))) Ap)
 (A8 (m1 DS (BP 1 [] (An (AB 0)) (AD 0) (mC (.bl true)) KN))))
def ID:List T->Option Ru:=Am 1 1 Mm
abbrev Ju:Fn:=⟨2,["thing"],ID⟩
abbrev Ts:Gm:=⟨["thing"],(AL Lj).names,[],1,[("is_small_letter",Jt)],["isinstance","str","len","all"],[],[],[],false,[],[],[],CF⟩
theorem zai:FnScope Ts.N Ju.ps (AL Lj):=Aq (by decide +kernel)
theorem zap:Ag 200 Ts (A9 Lj)=some Mm:=by ext
def Gj(x:Str):Prop:=∀i,i<x.cps.size->x.cps.getD i 0=47\/(97<=x.cps.getD i 0/\x.cps.getD i 0<=122)
theorem Qn{x:Str}(h:Gj x):PyData.strOk x=true:=by
 unfold PyData.strOk;rw[Array.all_eq_true];intro i hi;have:=h i hi;rw[ybw,yb2 hi]at this;simp only[Option.getD_some]at this;rw[yev]
 omega
theorem Qm{x:Str}(h:Gj x)(h1:1<=x.cps.size)(h8:x.cps.size<=60):ID [.str x]=some (.ok (.bl true)):=by
 have l1:x.cps.size<=100000:=by omega
 have lc:=Cy (n:=x.cps.size) (me:=KN) (x:=none) (cs:=[]) (g:=λi=>.str ⟨#[x.cps.getD i 0]⟩) (f:=λ_=>.bl true) λi hi=>by
  have o1:PyData.strOk (Str.mk #[x.cps.getD i 0])=true:=Qn λj hj=>by
   have hj':j<1:=hj;have e:j=0:=by omega
   subst e;exact h i hi
  have e:=GB o1 LZ
  by_cases q:x.cps.getD i 0=47
  .have n:Str.mk #[x.cps.getD i 0]=Str.ofString "/":=by
    rw[q];exact Tx.cs_ext (by decide +kernel)
   rw[yer n]at e;unfold KN
   simp![e]
  .have n:¬ (Str.mk #[x.cps.getD i 0]=Str.ofString "/"):=λq1=>by
    have e1:(Str.ofString "/").cps=#[47]:=by decide +kernel
    have q1:#[x.cps.getD i 0]=(Str.ofString "/").cps:=congrArg Str.cps q1;rw[e1]at q1;exact q (by simpa using q1)
   rw[yea n]at e;have hh:=(h i hi).resolve_left q;unfold KN
   simp![e,Q9 hh.1 hh.2]
 have e1:decide ((1:Int)<=(x.length:Int))=true:=yer (by show(1:Int)<=((x.cps.size:Nat):Int);omega)
 have e2:decide ((x.length:Int)<=60)=true:=yer (by show((x.cps.size:Nat):Int)<=60;omega)
 have ll:x.length<=100000:=l1;have ba:((List.range x.cps.size).map λ_=>true).all id=true:=by simp
 unfold ID Mm
 simp![Qb,lc,l1,e1,e2,ll,Hw,ba]
abbrev Lf:Stmt:=AY 6
def Mi:AA->Option Out :=
 (A8 (Cw (m1 (CD "int") (AB 0)) (BJ (m1 (CD "bool") (AB 0)))))
def K8:List T->Option Ru:=Am 1 1 Mi
abbrev OA:Fn:=⟨1,["thing"],K8⟩
abbrev To:Gm:=⟨["thing"],(AL Lf).names,[],0,[],["isinstance","int","bool"],[],[],[],false,[],[],[],CF⟩
theorem zcg:FnScope To.N OA.ps (AL Lf):=Aq (by decide +kernel)
theorem zcv:Ag 200 To (A9 Lf)=some Mi:=by ext
theorem zdk(i:Int):K8 [.int i]=some (.ok (.bl true)):=by simp![K8,Mi]
abbrev Lk:Stmt:=AY 11
def Mn:AA->Option Out :=
 (A8 (Cw (A7 K8 (AE (AB 0) AF)) (m2 (CN λi j=>decide (j<=i)) (AB 0) (mC (.int 0)))))
def K9:List T->Option Ru:=Am 1 1 Mn
abbrev OC:Fn:=⟨2,["thing"],K9⟩
abbrev Tt:Gm:=⟨["thing"],(AL Lk).names,[],1,[("is_whole",OA)],[],[],[],[],false,[],[],[],CF⟩
theorem zbv:FnScope Tt.N OC.ps (AL Lk):=Aq (by decide +kernel)
theorem zc8:Ag 200 Tt (A9 Lk)=some Mn:=by ext
theorem zif(i:Int):K9 [.int i]=some (.ok (.bl (decide (0<=i)))):=by
 unfold K9 Mn
 simp![zdk]
abbrev Lm:Stmt:=AY 10
def Mq:AA->Option Out :=
 (AG (Ar (Bg (BJ (m1 (CD "tuple") (AB 0))) (m2 Ba (m1 Bh (AB 0)) (mC (.int 3)))) (A8 (mC (.bl false))) Ap)
 (A8 (Cw (m2 Dt (BA (AB 0) (mC (.int 0))) (AB 1)) (Cw (m2 Dt (BA (AB 0) (mC (.int 1))) (AB 2)) (A7 K9 (AE (BA (AB 0) (mC (.int 2))) AF))))))
def Ka:List T->Option Ru:=Am 3 3 Mq
abbrev OD:Fn:=⟨3,["thing","watches","words"],Ka⟩
abbrev Tv:Gm:=⟨["thing","watches","words"],(AL Lm).names,[],2,[("is_number",OC)],["isinstance","tuple","len"],[],[],[],false,[],[],[],CF⟩
theorem zd4:FnScope Tv.N OD.ps (AL Lm):=Aq (by decide +kernel)
theorem zdh:Ag 200 Tv (A9 Lm)=some Mq:=by ext
def Ks:List Str:=["<","<=",">",">=","="]
theorem wd_tx:Bf Ks:=by unfold Bf;decide +kernel
abbrev Ln:Stmt:=AY 12
def Ot:AA->Option Rs :=
 (A7 Ka (AE (AB 0) (AE (AB 1) (AE (AB 2) AF))))
def Mr:AA->Option Out :=
 (A8 (Cw (m1 (CD "list") (AB 0)) (m1 DS (BP 1 [1,2] (An (AB 0)) (AD 0) (mC (.bl true)) Ot))))
def IF:List T->Option Ru:=Am 3 3 Mr
abbrev Jw:Fn:=⟨4,["thing","watches","words"],IF⟩
abbrev Tw:Gm:=⟨["thing","watches","words"],(AL Ln).names,["watches","words"],3,[("is_look",OD)],["isinstance","list","all"],[],[],[],false,[],[],[],CF⟩
theorem zch:FnScope Tw.N Jw.ps (AL Ln):=Aq (by decide +kernel)
theorem zcw:Ag 200 Tw (A9 Ln)=some Mr:=by ext
abbrev Lv:Stmt:=AY 26
def My:AA->Option Out :=
 (A8 (m2 Bm (m1 GQ (AB 0)) (m1 Bh (AB 0))))
def FP:List T->Option Ru:=Am 1 1 My
abbrev Fz:Fn:=⟨1,["texts"],FP⟩
abbrev UE:Gm:=⟨["texts"],(AL Lv).names,[],0,[],["len","set"],[],[],[],false,[],[],[],CF⟩
theorem zbh:FnScope UE.N Fz.ps (AL Lv):=Aq (by decide +kernel)
theorem zbq:Ag 200 UE (A9 Lv)=some My:=by ext
theorem Si{val:Nat->L2.Key}{n:Nat}(h:∀i j,i<n->j<n->val i=val j->i=j):∀k,k<=n->(met val k).length=k/\∀x∈met val k,∃i,i<k/\x=val i
 |0,_=>⟨rfl,λx hx=>by cases hx⟩
 |k+1,hk=>by
  obtain⟨h1,h2⟩:=Si h k (by omega)
  have hn:val k∉met val k:=λz=>by
   obtain⟨i,hi,e⟩:=h2 _ z;have:=h k i (by omega) (by omega) e
   omega
  have e:met val (k+1)=met val k++[val k]:=by
   conv=>lhs;unfold met
   rw[if_neg hn]
  rw[e];refine⟨by rw[yac,ybi,h1],λx hx=>?_⟩
  rcases ybb.mp hx with q|q
  .obtain⟨i,hi,e⟩:=h2 x q;exact⟨i,by omega,e⟩
  .exact⟨k,by omega,yaa.mp q⟩
theorem zjx{ys:List Str}(h:ys.Nodup):LI ys=ys.length:=by
 unfold LI;refine(Si (n:=ys.length) (λi j hi hj e=>?_) ys.length (ya8 _)).1
 have e':=Sum.inr.inj e;rw[ya9,ya9,ya0 hi,ya0 hj]at e';exact(ycq h).mp e'
theorem HG{ys:List Str}(h:ys.Nodup)(hl:ys.length<1000):FP [.lst (ys.map T.str)]=some (.ok (.bl true)):=by
 have e:((ys.length:Int) == (ys.length:Int))=true:=yex _;unfold FP My
 simp![GQ,A4,Iy,hl,zjx h,Hu,e,ya1]
abbrev Lq:Stmt:=AY 25
def Ow:AA->Option Rs :=
 (A7 IB (AE (AB 0) AF))
def Mu:AA->Option Out :=
 (AG (Ar (Bg (BJ (m1 (CD "list") (AB 0))) (m2 (CN λi j=>decide (j<i)) (m1 Bh (AB 0)) (mC G5))) (Bj "BadMachine" (AE (mC (.str "a machine's watches are a list of at most seven")) AF)) Ap)
 (Ar (Bg (BJ (m1 DS (BP 1 [] (An (AB 0)) (AD 0) (mC (.bl true)) Ow))) (BJ (A7 FP (AE (AB 0) AF)))) (Bj "BadMachine" (AE (mC (.str "a machine's watches are unlike names")) AF)) Ap))
def Kc:List T->Option Ru:=Am 1 1 Mu
abbrev OF:Fn:=⟨4,["watches"],Kc⟩
abbrev zab:Gx:=⟨[("MOST_WATCHES",G5)],[],[],[],false,true,true,none,[],[],[],true,[],[],[],[],[],[]⟩
abbrev UA:Gm:=⟨["watches"],(AL Lq).names,[],3,[("is_watch_name",Js),("are_unlike",Fz)],["isinstance","list","len","all"],["BadMachine"],[],[],false,[],[],[],zab⟩
theorem za8:FnScope UA.N OF.ps (AL Lq):=Aq (by decide +kernel)
theorem zaf:Ag 200 UA (A9 Lq)=some Mu:=by ext
theorem Iw(ws:List Str):ws.map T.str=mT ws.length λi=>.str (ws.getD i Str.empty):=Fs (by rw[ya1]) λi hi=>by
 rw[ya4,ya9,ya0 hi]
 rfl
theorem cw_ok{ws:List Str}(h:∀x∈ws,Dd x)(hd:ws.Nodup)(hl:ws.length<=7):Kc [.lst (ws.map T.str)]=some (.ok .non):=by
 have lc:=Cy (n:=ws.length) (me:=Ow) (x:=none) (cs:=[]) (g:=λi=>.str (ws.getD i Str.empty)) (f:=λ_=>.bl true) λi hi=>by
  have hm:ws.getD i Str.empty∈ws:=by
   rw[ya9,ya0 hi];exact yav hi
  unfold Ow
  simp![Pj (h _ hm)]
 rw[<- Iw]at lc;have l1:ws.length<=100000:=by omega
 have e1:decide ((7:Int)<(ws.length:Int))=false:=yea (by omega)
 have ba:((List.range ws.length).map λ_=>true).all id=true:=by simp
 have un:=HG hd (by omega)
 unfold Kc Mu G5
 simp![A4,AV,ya1,lc,l1,e1,Hw,ba,un]
abbrev Lr:Stmt:=AY 27
def Kv:AA->Option Out :=
 (AG (Ar (Bg (BJ (m1 (CD "tuple") (AB 2))) (m2 Ba (m1 Bh (AB 2)) (mC (.int 2)))) (Bj "BadMachine" (AE (mC (.str "a room is a tuple of a name and a stay")) AF)) Ap)
 (Ar (Bg (BJ (A7 ID (AE (BA (AB 2) (mC (.int 0))) AF))) (BJ (A7 IF (AE (BA (AB 2) (mC (.int 1))) (AE (AB 1) (AE (mC NX) AF)))))) (Bj "BadMachine" (AE (mC (.str "a room has a name, and a stay of the machine's watches")) AF)) Ap))
def Ox:AA->Option Rs :=
 (BA (AB 0) (mC (.int 0)))
def Mv:AA->Option Out :=
 (AG (Ar (Bg (BJ (m1 (CD "list") (AB 0))) (m2 Bm (m1 Bh (AB 0)) (mC (.int 0)))) (Bj "BadMachine" (AE (mC (.str "a machine's rooms are a list of one or more")) AF)) Ap)
 (AG (BX (An (AB 0)) (AD 2) Kv)
 (Ar (BJ (A7 FP (AE (BP 1 [] (An (AB 0)) (AD 0) (mC (.bl true)) Ox) AF))) (Bj "BadMachine" (AE (mC (.str "no two rooms have one name")) AF)) Ap)))
def Ke:List T->Option Ru:=Am 2 3 Mv
abbrev OG:Fn:=⟨5,["rooms","watches"],Ke⟩
abbrev zb0:Gx:=⟨[("STAY_WORDS",NX)],[],[],[],false,true,true,none,[],[],[],true,[],[],[],[],[],[]⟩
abbrev UB:Gm:=⟨["rooms","watches","room"],(AL Lr).names,[],4,[("is_room_name",Ju),("is_guard",Jw),("are_unlike",Fz)],["isinstance","list","len","tuple"],["BadMachine"],[],[],false,[],[],[],zb0⟩
theorem zat:FnScope UB.N OG.ps (AL Lr):=Aq (by decide +kernel)
theorem zb6:Ag 200 UB (A9 Lr)=some Mv:=by ext
def DC(ws wd:List Str)(l:List T):Prop:=∀t∈l,∃x y n,t=.tup [.str x,.str y,.int n]/\x∈ws/\y∈wd/\0<=n
theorem DC.sh{ws wd:List Str}{l:List T}(h:DC ws wd l):A5 l=true:=by
 rw[Bs,yas];intro t ht;obtain⟨x,y,n,rfl,_⟩:=h t ht
 rfl
theorem DC.more{ws vs wd:List Str}{l:List T}(h:DC ws wd l)(hs:∀x∈ws,x∈vs):DC vs wd l:=λt ht=>by
 obtain⟨x,y,n,e,h1,h2,h3⟩:=h t ht;exact⟨x,y,n,e,hs x h1,h2,h3⟩
abbrev Hj(wd:List Str):T:=.nd false .rt (wd.map T.str)
theorem zis{ws wd:List Str}(h:Bf ws)(hd:Bf wd){t:T}(ht:∃x y n,t=.tup [.str x,.str y,.int n]/\x∈ws/\y∈wd/\0<=n):Ka [t,.lst (ws.map T.str),Hj wd]=some (.ok (.bl true)):=by
 obtain⟨x,y,n,rfl,h1,h2,h3⟩:=ht;have e1:=Jn (o:=false) (k:=.lst) h (h x h1);have e2:=Jn (o:=false) (k:=.rt) hd (hd y h2);have e3:=zif n;rw[yer h1]at e1;rw[yer h2]at e2;rw[yer h3]at e3;unfold Ka Mq
 simp![G0,A4,AV,e1,e2,e3]
theorem Tc{ws wd:List Str}(h:Bf ws)(hd:Bf wd){l:List T}(hl:l.length<=1000)(hk:DC ws wd l):IF [.lst l,.lst (ws.map T.str),Hj wd]=some (.ok (.bl true)):=by
 have hs:=hk.sh;have es:=AJ l hs;have em:=mT_of l .non
 have sg:∀i,(l.getD i .non).sh=true:=λi=>by
  by_cases hi:i<l.length
  .rw[ya9,ya0 hi];rw[Bs,yas]at hs;exact hs _ (yav hi)
  .rw[ya9,yb6 (by omega)]
   rfl
 have lc:=Cy (n:=l.length) (me:=Ot) (x:=none) (cs:=[some (.lst (ws.map T.str)),some (Hj wd)]) (g:=λi=>l.getD i .non) (f:=λ_=>.bl true) λi hi=>by
  have hm:l.getD i .non∈l:=by
   rw[ya9,ya0 hi];exact yav hi
  have e:=zis h hd (hk _ hm);unfold Ot
  simp![A4,AV,e,Cj _ (sg i),sg i]
 rw[<- em]at lc;have l1:l.length<=100000:=by omega
 have ba:((List.range l.length).map λ_=>true).all id=true:=by simp
 unfold IF Mr
 simp![A4,AV,hs,es,l1,lc,Hw,ba]
def Ep:List Str:=["<","<="]
theorem zmo:NX=Hj Ep:=rfl
theorem k_wds:NW=Hj Ks:=rfl
theorem LX:Bf Ep:=by unfold Bf;decide +kernel
structure RsOk(ws:List Str)(rs:List (Str×List T)):Prop where
 l1:1<=rs.length
 l64:rs.length<=64
 nm:∀r∈rs,Gj r.1/\1<=r.1.cps.size/\r.1.cps.size<=60
 nd:(rs.map (·.1)).Nodup
 lk:∀r∈rs,DC ws Ep r.2/\r.2.length<=1000
abbrev AZ(r:Str×List T):T:=.tup [.str r.1,.lst r.2]
abbrev Dg(rs:List (Str×List T)):T:=.lst (rs.map AZ)
theorem MR{ws:List Str}{rs:List (Str×List T)}(h:RsOk ws rs):A5 (rs.map AZ)=true:=by
 rw[Bs,yas];intro t ht;obtain⟨r,hr,rfl⟩:=yag.mp ht;have:=(h.lk r hr).1.sh;show((!false) && (true && (((!false) && A5 r.2) && true)))=true;rw[this]
 rfl
theorem zjh{ws:List Str}(hw:Bf ws){rs:List (Str×List T)}(h:RsOk ws rs):Ke [Dg rs,.lst (ws.map T.str)]=some (.ok .non):=by
 have sr:=MR h;have er:=AJ _ sr;have hl1:=h.l1;have hl2:=h.l64;have en:(((rs.map AZ).length:Int) == 0)=false:=by rw[yf5,ya1];omega
 obtain⟨τ,e,y,rfl⟩:=DZ (b:=AD 2) (body:=Kv) (ts:=rs.map AZ) (τ:=[some (Dg rs),some (.lst (ws.map T.str)),none]) (λi τ=>∃y,τ=[some (Dg rs),some (.lst (ws.map T.str)),y]) ⟨_,rfl⟩ λi t τ h1 h2=>by
  obtain⟨y,rfl⟩:=h2;obtain⟨r,hr,rfl⟩:=yag.mp (yak h1);obtain⟨n1,n2,n3⟩:=h.nm r hr;obtain⟨k1,k2⟩:=h.lk r hr;have e1:=Qm n1 n2 n3;have e2:=Tc hw LX k2 k1;have e3:=k1.sh;refine⟨[some (Dg rs),some (.lst (ws.map T.str)),some (AZ r)],by simp![],[some (Dg rs),some (.lst (ws.map T.str)),some (AZ r)],?_,_,rfl⟩
  unfold Kv
  simp![zmo,G0,A4,AV,e1,e2,e3,AJ _ e3]
 have lc:=Jg (b:=AD 0) (me:=Ox) (ts:=rs.map AZ) (τ:=[none]) (λ_ τ=>∃y,τ=[y]) (λi=>.str ((rs.map (·.1)).getD i Str.empty)) ⟨none,rfl⟩ λi t τ h1 h2=>by
  obtain⟨y,rfl⟩:=h2;have hi:i<rs.length:=by simpa using (ya5.mp h1).1
  rw[ya4,ya0 hi]at h1;have et:t=AZ rs[i]:=(yar h1).symm;subst et;have k1:=(h.lk rs[i] (yav hi)).1.sh;have eg:(rs.map (·.1)).getD i Str.empty=rs[i].1:=by simp[hi]
  refine⟨[some (AZ rs[i])],by simp![],?_,_,rfl⟩
  rw[eg];unfold Ox
  simp![k1]
 have em:(List.range (rs.map AZ).length).map (λi=>T.str ((rs.map (·.1)).getD i Str.empty))=(rs.map (·.1)).map T.str:=by
  rw[Iw (rs.map (·.1)),ya1,ya1]
  rfl
 rw[em]at lc;have un:=HG h.nd (by rw[ya1];omega)
 have ll:(rs.map AZ).length<=100000:=by rw[ya1];omega
 unfold Ke Mv
 simp![Hu,A4,AV,sr,er,en,e,lc,un,ll]
abbrev Lw:Stmt:=AY 29
def PC:AA->Option Rs :=
 (A7 IB (AE (AB 0) AF))
def Oz:AA->Option Rs :=
 (m2 Dt (AB 0) (AB 1))
def Mz:AA->Option Out :=
 (AG (Ar (Bg (BJ (m1 (CD "list") (AB 0))) (BJ (m1 DS (BP 1 [] (An (AB 0)) (AD 0) (mC (.bl true)) PC)))) (A8 (mC (.bl false))) Ap)
 (A8 (Cw (A7 FP (AE (AB 0) AF)) (m1 DS (BP 1 [1] (An (AB 0)) (AD 0) (mC (.bl true)) Oz)))))
def Kh:List T->Option Ru:=Am 2 2 Mz
abbrev OJ:Fn:=⟨4,["thing","watches"],Kh⟩
abbrev UG:Gm:=⟨["thing","watches"],(AL Lw).names,["watches"],3,[("is_watch_name",Js),("are_unlike",Fz)],["isinstance","list","all"],[],[],[],false,[],[],[],CF⟩
theorem zaw:FnScope UG.N OJ.ps (AL Lw):=Aq (by decide +kernel)
theorem zb9:Ag 200 UG (A9 Lw)=some Mz:=by ext
theorem zm2{ws ns:List Str}(hw:∀x∈ws,Dd x)(hn:∀x∈ns,x∈ws)(hd:ns.Nodup)(hl:ns.length<=100):Kh [.lst (ns.map T.str),.lst (ws.map T.str)]=some (.ok (.bl true)):=by
 have tw:Bf ws:=λx hx=>HD (hw x hx)
 have mem:∀i,i<ns.length->ns.getD i Str.empty∈ns:=λi hi=>by
  rw[ya9,ya0 hi];exact yav hi
 have lc:=Cy (n:=ns.length) (me:=PC) (x:=none) (cs:=[]) (g:=λi=>.str (ns.getD i Str.empty)) (f:=λ_=>.bl true) λi hi=>by
  unfold PC
  simp![Pj (hw _ (hn _ (mem i hi)))]
 have Dq:=Cy (n:=ns.length) (me:=Oz) (x:=none) (cs:=[some (.lst (ws.map T.str))]) (g:=λi=>.str (ns.getD i Str.empty)) (f:=λ_=>.bl true) λi hi=>by
  have e:=Jn (o:=false) (k:=.lst) tw (tw _ (hn _ (mem i hi)));rw[yer (hn _ (mem i hi))]at e;unfold Oz
  simp![A4,AV,e]
 rw[<- Iw]at lc Dq;have l1:ns.length<=100000:=by omega
 have ba:((List.range ns.length).map λ_=>true).all id=true:=by simp
 have un:=HG hd (by omega)
 unfold Kh Mz
 simp![A4,AV,ya1,lc,Dq,l1,Hw,ba,un]
abbrev Li:Stmt:=AY 21
def Jb:AA->Option Out :=
 (AG (Ar (BJ (m1 (CD "str") (AB 0))) (A8 (mC (.bl false))) Ap)
 (A8 (Bg (m2 Bm (AB 0) (mC (.str ""))) (Cw (m2 Dt (BA (AB 0) (m1 Dl (mC (.int 1)))) (CJ (AE (mC (.str "!")) (AE (mC (.str "?")) AF)))) (A7 IE (AE (Bu (DO (AB 0) none (some (m1 Dl (mC (.int 1))))) (DN (AB 0) none (some (m1 Dl (mC (.int 1)))))) AF))))))
def Gp:List T->Option Ru:=Am 1 1 Jb
abbrev OB:Fn:=⟨3,["thing"],Gp⟩
abbrev Tr:Gm:=⟨["thing"],(AL Li).names,[],2,[("is_name",Jv)],["isinstance","str"],[],[],[],false,[],[],[],CF⟩
theorem zd2:FnScope Tr.N OB.ps (AL Li):=Aq (by decide +kernel)
theorem zdf:Ag 200 Tr (A9 Li)=some Jb:=by ext
theorem VP{x:Str}(h:∀c∈Tx.cs x,c<128):PyData.strOk x=true:=by
 unfold PyData.strOk;rw[<- Array.all_toList,yas];intro c hc;have:=h c hc;exact yer (by omega)
def GG(z:Str):Prop:=z=Str.ofString ""\/∃(y:Str) (c:Nat),Ef y/\1<=y.cps.size/\y.cps.size<=8/\(c=33\/c=63)/\Tx.cs z=Tx.cs y++[c]
theorem HP{y:Str}(h:Ef y):∀c∈Tx.cs y,97<=c/\c<=122:=λc hc=>by
 obtain⟨i,hi⟩:=List.getElem?_of_mem hc;have hl:i<y.cps.size:=by simpa using (ya5.mp hi).1
 have:=h i hl;rw[ycp,yb2 hl]at hi;rw[ybw,yb2 hl]at this;cases hi;exact this
theorem zh8{z:Str}(h:GG z):∀c∈Tx.cs z,c<128/\c≠32/\c≠10/\c≠58:=λc hc=>by
 rcases h with rfl|⟨y,d,h1,_,_,hd,e⟩
 .rw[show Tx.cs (Str.ofString "")=[] by decide +kernel]at hc
  cases hc
 .rw[e]at hc
  rcases ybb.mp hc with hc|hc
  .have:=HP h1 c hc
   omega
  .rw[yaa.mp hc]
   omega
theorem L6{z:Str}(h:GG z):PyData.strOk z=true:=VP λc hc=>(zh8 h c hc).1
theorem zkg{z:Str}(h:GG z):Gp [.str z]=some (.ok (.bl true)):=by
 have o0:PyData.strOk (Str.ofString "")=true:=by decide +kernel
 have tl:∀c,(c=33\/c=63)->Dt (.str (Str.mk #[c])) (.tup [.str (Str.ofString "!"),.str (Str.ofString "?")])=some (.bl true):=λc hc=>by
  rcases hc with rfl|rfl<;>ext
 have key:∀z y:Str,PyData.strOk z=true->z≠Str.ofString ""->z.length<=100000->∀c,(c=33\/c=63)->Ab z.cps.toList (-1)=some c->Txt.slice z none (some (-1))=y->Ef y->1<=y.cps.size->y.cps.size<=8->Gp [.str z]=some (.ok (.bl true)):=by
  intro z y hz hne hl c hc ha hs h1 h2 h3;have e:=GB hz o0;rw[yea hne]at e;have en:=Sf h1 h2 h3;unfold Gp Jb
  simp![e,hl,ha,tl c hc,DN,hs,en,show(-(1:Int))=-1 from rfl]
 rcases id h with rfl|⟨y,c,h1,h2,h3,hc,e⟩
 .have e:=GB o0 o0;rw[yer rfl]at e;unfold Gp Jb
  simp![e]
 .have hl:(Tx.cs z).length=(Tx.cs y).length+1:=by rw[e,yac];rfl
  have h3':(Tx.cs y).length<=8:=h3;refine key z y (L6 h) (λq=>?_) (by rw[Tx.cs_len];omega) c hc ?_ ?_ h1 h2 h3
  .rw[q,show Tx.cs (Str.ofString "")=[] by decide +kernel]at hl
   exact absurd hl (by rw[yb4];omega)
  .show Ab (Tx.cs z) (-1)=some c;rw[e];unfold Ab CU;rw[yac,ybi,if_neg (by decide),if_pos (by omega)]
   show(Tx.cs y++[c])[((-1:Int)+(((Tx.cs y).length+1:Nat):Int)).toNat]?=some c;rw[show((-1:Int)+(((Tx.cs y).length+1:Nat):Int)).toNat=(Tx.cs y).length by omega,yaz (ya8 _),Nat.sub_self]
   rfl
  .have e2:Txt.slice z none (some (-1))=StrLaws.sliceText z none (some (-1)):=rfl;rw[e2,StrLaws.sliceText_neg_hi z none (by decide) (by rw[Tx.cs_len,hl];omega)]
   have e3:((-1:Int)+(z.length:Int))=(((Tx.cs y).length:Nat):Int):=by rw[Tx.cs_len,hl];omega
   rw[e3];refine Tx.cs_ext ?_;show Tx.cs (Txt.slice z none (some (((Tx.cs y).length:Nat):Int)))=Tx.cs y;rw[Tx.sl_to (by omega),e,List.take_left' rfl]
abbrev Le:Stmt:=AY 22
def Mh:AA->Option Out :=
 (A8 (DW (m1 (CD "list") (AB 0)) (m1 Bo (AB 0)) (AB 0)))
def IA:List T->Option Ru:=Am 1 1 Mh
abbrev Ny:Fn:=⟨1,["thing"],IA⟩
abbrev Tn:Gm:=⟨["thing"],(AL Le).names,[],0,[],["isinstance","list"],[],[],[],false,[],[],[],CF⟩
theorem zcf:FnScope Tn.N Ny.ps (AL Le):=Aq (by decide +kernel)
theorem zcu:Ag 200 Tn (A9 Le)=some Mh:=by ext
theorem J0(l:List T)(h:A5 l=true):IA [.lst l]=some (.ok (.own l)):=by
 unfold IA Mh
 simp![h,AJ _ h]
abbrev Lu:Stmt:=AY 28
def Kw:AA->Option Out :=
 (AG (Ar (BJ (m1 (EO O3) (AB 3))) (Bj "BadMachine" (AE (mC (.str "a machine's doors are doors")) AF)) Ap)
 (AG (Ar (Bg (m2 Fj (Bd Ax BS 0 (AB 3)) (AB 1)) (m2 Fj (Bd Ax BS 1 (AB 3)) (AB 1))) (Bj "BadMachine" (AE (mC (.str "a door leads from one room of the machine to another")) AF)) Ap)
 (AG (Ar (BJ (A7 IF (AE (Bd Ax BS 2 (AB 3)) (AE (AB 2) (AE (mC NW) AF))))) (Bj "BadMachine" (AE (mC (.str "a door's guard is one of the machine's watches")) AF)) Ap)
 (Ar (Bg (BJ (A7 Kh (AE (Bd Ax BS 3 (AB 3)) (AE (AB 2) AF)))) (BJ (A7 Gp (AE (Bd Ax BS 4 (AB 3)) AF)))) (Bj "BadMachine" (AE (mC (.str "a door sets watches of the machine, each once, and has at most one sign")) AF)) Ap))))
def Mx:AA->Option Out :=
 (AG (Ar (BJ (m1 (CD "list") (AB 0))) (Bj "BadMachine" (AE (mC (.str "a machine's doors are a list")) AF)) Ap)
 (BX (An (AB 0)) (AD 3) Kw))
def Kg:List T->Option Ru:=Am 3 4 Mx
abbrev OI:Fn:=⟨5,["doors","names","watches"],Kg⟩
abbrev zb2:Gx:=⟨[("WORDS",NW)],[("Door",Ax,BS)],[],[],false,true,true,none,[],[],[],true,[],[("Door",O3)],[],[],[],[]⟩
abbrev UD:Gm:=⟨["doors","names","watches","door"],(AL Lu).names,[],4,[("is_guard",Jw),("are_noughts",OJ),("is_sign",OB)],["isinstance","list"],["BadMachine"],[],[],false,[],[],[],zb2⟩
theorem zav:FnScope UD.N OI.ps (AL Lu):=Aq (by decide +kernel)
theorem zb8:Ag 200 UD (A9 Lu)=some Mx:=by ext
structure Dr where
 s:Str
 e:Str
 g:List T
 n:List Str
 z:Str
abbrev AM(d:Dr):T:=.obj (.ins Ax BS) [.str d.s,.str d.e,.lst d.g,.lst (d.n.map T.str),.str d.z]
structure DrOk(ws ns:List Str)(d:Dr):Prop where
 s:d.s∈ns
 e:d.e∈ns
 g:DC ws Ks d.g
 gl:d.g.length<=1000
 n:∀x∈d.n,x∈ws
 nd:d.n.Nodup
 nl:d.n.length<=100
 z:GG d.z
theorem DrOk.more{ws vs ns:List Str}{d:Dr}(h:DrOk ws ns d)(hs:∀x∈ws,x∈vs):DrOk vs ns d:=⟨h.s,h.e,h.g.more hs,h.gl,λx hx=>hs x (h.n x hx),h.nd,h.nl,h.z⟩
theorem Jz{ws ns:List Str}{d:Dr}(h:DrOk ws ns d):(AM d).sh=true:=by
 have:=h.g.sh
 simp![this,AV]
theorem S8{ys:List Str}{x:Str}{o:Bool}{k:Kd}(h:Bf ys)(hx:PyData.strOk x=true):Fj (.str x) (.nd o k (ys.map T.str))=some (.bl (!decide (x∈ys))):=by
 have e:=Jn (o:=o) (k:=k) h hx;unfold Dt at e;unfold Fj;simp only at e ⊢;split at e
 .rename_i hok;rw[if_pos hok];injection e with e
  injection e with e
  rw[e]
 .cases e
theorem zji{ws ns:List Str}(hw:∀x∈ws,Dd x)(hn:Bf ns){ds:List Dr}(h:∀d∈ds,DrOk ws ns d):Kg [.lst (ds.map AM),.lst (ns.map T.str),.lst (ws.map T.str)]=some (.ok .non):=by
 have tw:Bf ws:=λx hx=>HD (hw x hx)
 have sd:A5 (ds.map AM)=true:=by
  rw[Bs,yas];intro t ht;obtain⟨d,hd,rfl⟩:=yag.mp ht;exact Jz (h d hd)
 have ed:=AJ _ sd
 obtain⟨τ,e,y,rfl⟩:=DZ (b:=AD 3) (body:=Kw) (ts:=ds.map AM) (τ:=[some (.lst (ds.map AM)),some (.lst (ns.map T.str)),some (.lst (ws.map T.str)),none]) (λi τ=>∃y,τ=[some (.lst (ds.map AM)),some (.lst (ns.map T.str)),some (.lst (ws.map T.str)),y]) ⟨_,rfl⟩ λi t τ h1 h2=>by
  obtain⟨y,rfl⟩:=h2;obtain⟨d,hd,rfl⟩:=yag.mp (yak h1);have k:=h d hd;have e1:=S8 (o:=false) (k:=.lst) hn (hn _ k.s);have e2:=S8 (o:=false) (k:=.lst) hn (hn _ k.e);rw[yer k.s]at e1;rw[yer k.e]at e2;have e3:=Tc tw wd_tx k.gl k.g;have e4:=zm2 hw k.n k.nd k.nl;have e5:=zkg k.z;have e6:=k.g.sh;have ci:List.lookup Ax O3=some true:=rfl;refine⟨[some (.lst (ds.map AM)),some (.lst (ns.map T.str)),some (.lst (ws.map T.str)),some (AM d)],by simp![],[some (.lst (ds.map AM)),some (.lst (ns.map T.str)),some (.lst (ws.map T.str)),some (AM d)],?_,_,rfl⟩
  unfold Kw
  simp![k_wds,EO,ci,A4,AV,e1,e2,e3,e4,e5,e6,AJ _ e6]
 unfold Kg Mx
 simp![A4,AV,sd,ed,e]
abbrev JL:Stmt:=Cb 23 0
def Je:AA->Option Out :=
 (AG (DI Ax BS 0 0 (AB 1))
 (AG (DI Ax BS 1 0 (AB 2))
 (AG (DI Ax BS 2 0 (A7 IA (AE (AB 3) AF)))
 (AG (DI Ax BS 3 0 (A7 IA (AE (AB 4) AF)))
 (DI Ax BS 4 0 (AB 5))))))
def GJ:List T->Option Ru:=EY Ax BS 6 6 Je
abbrev OW:Fn:=⟨2,["self","start","end","guard","noughts","sign"],GJ⟩
abbrev zc4:Gx:=⟨[],[],[],[],false,true,true,some (Ax,BS),[],[],[],true,[],[],[],[],[],[]⟩
abbrev Nl:Gm:=⟨["self","start","end","guard","noughts","sign"],(AL JL).names,[],1,[("own_copy",Ny)],[],[],[],[],false,[],[],[],zc4⟩
theorem zbx:FnScope Nl.N OW.ps (AL JL):=Aq (by decide +kernel)
theorem zca:Ag 200 Nl (A9 JL)=some Je:=by ext
theorem di_ok{ws ns:List Str}{d:Dr}(h:DrOk ws ns d):GJ [.str d.s,.str d.e,.lst d.g,.lst (d.n.map T.str),.str d.z]=some (.ok (AM d)):=by
 have hg:=h.g.sh;have e1:=J0 d.g hg;have e2:=J0 (d.n.map T.str) (AV _);refine MN λp=>?_
 unfold EX Je
 simp![e1,e2,hg,AJ _ hg,A4,AV]
abbrev JI:Stmt:=Cb 24 0
def PF:AA->Option Rs :=
 (AB 0)
def LA:AA->Option Out :=
 (HV AW Ai 1 0 (AB 4) (m1 Bo (AB 5)))
def NG:AA->Option Out :=
 (AG (Eu (A7 Kc (AE (AB 1) AF)))
 (AG (Eu (A7 Ke (AE (AB 2) (AE (AB 1) AF))))
 (AG (Eu (A7 Kg (AE (AB 3) (AE (BP 2 [] (An (AB 2)) (Aa 2 (AK (AD 0) (AK (AD 1) Ac))) (mC (.bl true)) PF) (AE (AB 1) AF)))))
 (AG (Ar (Bg (m2 (CN λi j=>decide (j<i)) (m1 Bh (AB 2)) (mC G6)) (m2 (CN λi j=>decide (j<i)) (m1 Bh (AB 3)) (mC FG))) (Bj "TooMany" (AE (mC (.str "a machine has at most 64 rooms and at most 200 doors")) AF)) Ap)
 (AG (DI AW Ai 0 0 (m1 Bo (AB 1)))
 (AG (DI AW Ai 1 0 Jf)
 (AG (BX (An (AB 2)) (Aa 2 (AK (AD 4) (AK (AD 5) Ac))) LA)
 (DI AW Ai 2 0 (m1 Bo (AB 3))))))))))
def GI:List T->Option Ru:=EY AW Ai 4 6 NG
abbrev OO:Fn:=⟨6,["self","watches","rooms","doors"],GI⟩
abbrev zao:Gx:=⟨[("MOST_ROOMS",G6),("MOST_DOORS",FG)],[],[],[],false,true,true,some (AW,Ai),[],[],[],true,[],[],[],[],[],[]⟩
abbrev Ni:Gm:=⟨["self","watches","rooms","doors","name","stay"],(AL JI).names,[],5,[("check_watches",OF),("check_rooms",OG),("check_doors",OI)],["len","list"],["TooMany"],[],[],false,[],[],[],zao⟩
theorem zak:FnScope Ni.N OO.ps (AL JI):=Aq (by decide +kernel)
theorem zar:Ag 200 Ni (A9 JI)=some NG:=by ext
structure Mc where
 ws:List Str
 rs:List (Str×List T)
 ds:List Dr
abbrev FD(M:Mc):T:=.obj (.ins AW Ai) [.lst (M.ws.map T.str),.obj (.sdc (M.rs.map (·.1))) (M.rs.map λr=>.lst r.2),.lst (M.ds.map AM)]
structure McOk(M:Mc):Prop where
 w:∀x∈M.ws,Dd x
 wd:M.ws.Nodup
 wl:M.ws.length<=7
 r:RsOk M.ws M.rs
 d:∀d∈M.ds,DrOk M.ws (M.rs.map (·.1)) d
 dl:M.ds.length<=200
theorem McOk.tw{M:Mc}(h:McOk M):Bf M.ws:=λx hx=>HD (h.w x hx)
theorem McOk.tn{M:Mc}(h:McOk M):Bf (M.rs.map (·.1)):=λx hx=>by
 obtain⟨r,hr,rfl⟩:=yag.mp hx;exact Qn (h.r.nm r hr).1
theorem McOk.sd{M:Mc}(h:McOk M):A5 (M.ds.map AM)=true:=by
 rw[Bs,yas];intro t ht;obtain⟨d,hd,rfl⟩:=yag.mp ht;exact Jz (h.d d hd)
theorem McOk.ss{M:Mc}(h:McOk M):A5 (M.rs.map λr=>T.lst r.2)=true:=by
 rw[Bs,yas];intro t ht;obtain⟨r,hr,rfl⟩:=yag.mp ht;show((!false) && A5 r.2)=true;rw[(h.r.lk r hr).1.sh]
 rfl
theorem McOk.sh{M:Mc}(h:McOk M):(FD M).sh=true:=by
 simp![AV,h.ss,h.sd]
theorem Sh{M:Mc}(h:McOk M):GI [.lst (M.ws.map T.str),Dg M.rs,.lst (M.ds.map AM)]=some (.ok (FD M)):=by
 have cw:=cw_ok h.w h.wd h.wl;have cr:=zjh h.tw h.r;have cd:=zji h.w h.tn h.d;have sr:=MR h.r;have er:=AJ _ sr;have sd:=h.sd;have ed:=AJ _ sd;have h1:=h.r.l1;have h64:=h.r.l64;have h200:=h.dl
 have lc:=Jg (b:=Aa 2 (AK (AD 0) (AK (AD 1) Ac))) (me:=PF) (ts:=M.rs.map AZ) (τ:=[none,none]) (λ_ τ=>∃x y,τ=[x,y]) (λi=>.str ((M.rs.map (·.1)).getD i Str.empty)) ⟨none,none,rfl⟩ λi t τ h1 h2=>by
  obtain⟨x,y,rfl⟩:=h2;have hi:i<M.rs.length:=by simpa using (ya5.mp h1).1
  rw[ya4,ya0 hi]at h1;have et:t=AZ M.rs[i]:=(yar h1).symm;subst et;have eg:(M.rs.map (·.1)).getD i Str.empty=M.rs[i].1:=by simp[hi]
  refine⟨[some (.str M.rs[i].1),some (.lst M.rs[i].2)],by simp![],?_,_,_,rfl⟩
  rw[eg];unfold PF
  simp![]
 have em:(List.range (M.rs.map AZ).length).map (λi=>T.str ((M.rs.map (·.1)).getD i Str.empty))=(M.rs.map (·.1)).map T.str:=by
  rw[Iw (M.rs.map (·.1)),ya1,ya1]
  rfl
 rw[em]at lc;have ll:(M.rs.map AZ).length<=100000:=by rw[ya1];omega
 have g1:decide ((64:Int)<((M.rs.map AZ).length:Int))=false:=yea (by rw[ya1];omega)
 have g2:decide ((200:Int)<((M.ds.map AM).length:Int))=false:=yea (by rw[ya1];omega)
 refine MN λp=>?_
 obtain⟨τ,e,x,y,rfl⟩:=DZ (b:=Aa 2 (AK (AD 4) (AK (AD 5) Ac))) (body:=LA) (ts:=M.rs.map AZ) (τ:=[some (.oob p AW Ai [.own (M.ws.map T.str),.osd [] []]),some (.lst (M.ws.map T.str)),some (Dg M.rs),some (.lst (M.ds.map AM)),none,none])
  (λi τ=>∃x y,τ=[some (.oob p AW Ai [.own (M.ws.map T.str),.osd ((M.rs.take i).map (·.1)) ((M.rs.take i).map λr=>.lst r.2)]),some (.lst (M.ws.map T.str)),some (Dg M.rs),some (.lst (M.ds.map AM)),x,y]) ⟨none,none,by rw[List.take_zero];rfl⟩ λi t τ h1 h2=>by
  obtain⟨x,y,rfl⟩:=h2;have hi:i<M.rs.length:=by simpa using (ya5.mp h1).1
  rw[ya4,ya0 hi]at h1;have et:t=AZ M.rs[i]:=(yar h1).symm;subst et;have k1:=(h.r.lk _ (yav hi)).1.sh
  have hno:M.rs[i].1∉(M.rs.take i).map (·.1):=λhm=>by
   rw[ydy]at hm;obtain⟨j,hj,ej⟩:=List.mem_iff_getElem.mp hm;rw[ybp,ya1]at hj;have hnd:=h.r.nd;rw[List.getElem_take]at ej;have e2:(M.rs.map (·.1))[j]'(by rw[ya1];omega)=(M.rs.map (·.1))[i]'(by rw[ya1];exact hi):=by rw[ej,ydb]
   have:=(ycq hnd).mp e2
   omega
  have hlen:((M.rs.take i).map (·.1)).length<100000:=by
   rw[ya1,ybp]
   omega
  have et2:M.rs.take (i+1)=M.rs.take i++[M.rs[i]]:=by rw[List.take_append_getElem]
  refine⟨[some (.oob p AW Ai [.own (M.ws.map T.str),.osd ((M.rs.take i).map (·.1)) ((M.rs.take i).map λr=>.lst r.2)]),some (.lst (M.ws.map T.str)),some (Dg M.rs),some (.lst (M.ds.map AM)),some (.str M.rs[i].1),some (.lst M.rs[i].2)],by simp![],[some (.oob p AW Ai [.own (M.ws.map T.str),.osd ((M.rs.take (i+1)).map (·.1)) ((M.rs.take (i+1)).map λr=>.lst r.2)]),some (.lst (M.ws.map T.str)),some (Dg M.rs),some (.lst (M.ds.map AM)),some (.str M.rs[i].1),some (.lst M.rs[i].2)],?_,_,_,rfl⟩
  rw[et2,yat,yat];unfold LA
  simp![k1,AJ _ k1,hno,hlen]
 rw[ya1,ybg]at e;have es:=AJ _ h.ss;unfold EX NG G6 FG
 simp![A4,AV,cw,cr,cd,sr,er,sd,ed,lc,ll,g1,g2,e,es]
abbrev JF:Stmt:=Cb 24 1
def NC:AA->Option Out :=
 (A8 (Bu (m1 Bo (Bd AW Ai 0 (AB 0))) (EN (Bd AW Ai 0 (AB 0)))))
def ET:List T->Option Ru:=Am 1 1 NC
abbrev OL:Fn:=⟨1,["self"],ET⟩
abbrev za3:Gx:=⟨[],[("Machine",AW,Ai)],[],[],false,true,true,none,[],[],[],true,[],[],[],[],[],[]⟩
abbrev Nf:Gm:=⟨["self"],(AL JF).names,[],0,[],["list"],[],[],[],false,[],[],[],za3⟩
theorem za2:FnScope Nf.N OL.ps (AL JF):=Aq (by decide +kernel)
theorem za6:Ag 200 Nf (A9 JF)=some NC:=by ext
theorem zij{M:Mc}(h:McOk M):ET [FD M]=some (.ok (.own (M.ws.map T.str))):=by
 unfold ET NC
 simp![A4,AV,h.ss,h.sd,AJ _ h.ss,AJ _ h.sd]
abbrev JH:Stmt:=Cb 24 2
def NF:AA->Option Out :=
 (A8 (Bu (m1 Bo (Bd AW Ai 1 (AB 0))) (EN (Bd AW Ai 1 (AB 0)))))
def Dx:List T->Option Ru:=Am 1 1 NF
abbrev ON:Fn:=⟨1,["self"],Dx⟩
abbrev zac:Gx:=⟨[],[("Machine",AW,Ai)],[],[],false,true,true,none,[],[],[],true,[],[],[],[],[],[]⟩
abbrev Nh:Gm:=⟨["self"],(AL JH).names,[],0,[],["list"],[],[],[],false,[],[],[],zac⟩
theorem za9:FnScope Nh.N ON.ps (AL JH):=Aq (by decide +kernel)
theorem zag:Ag 200 Nh (A9 JH)=some NF:=by ext
theorem zim{M:Mc}(h:McOk M):Dx [FD M]=some (.ok (.own ((M.rs.map (·.1)).map T.str))):=by
 unfold Dx NF
 simp![EN,A4,AV,h.ss,h.sd,AJ _ h.ss,AJ _ h.sd]
abbrev JJ:Stmt:=Cb 24 3
def NH:AA->Option Out :=
 (A8 (Bu (m1 Bo (Bd AW Ai 2 (AB 0))) (EN (Bd AW Ai 2 (AB 0)))))
def EU:List T->Option Ru:=Am 1 1 NH
abbrev Jy:Fn:=⟨1,["self"],EU⟩
abbrev zad:Gx:=⟨[],[("Machine",AW,Ai)],[],[],false,true,true,none,[],[],[],true,[],[],[],[],[],[]⟩
abbrev Nj:Gm:=⟨["self"],(AL JJ).names,[],0,[],["list"],[],[],[],false,[],[],[],zad⟩
theorem zaa:FnScope Nj.N Jy.ps (AL JJ):=Aq (by decide +kernel)
theorem zah:Ag 200 Nj (A9 JJ)=some NH:=by ext
theorem zio{M:Mc}(h:McOk M):EU [FD M]=some (.ok (.own (M.ds.map AM))):=by
 unfold EU NH
 simp![A4,AV,h.ss,h.sd,AJ _ h.ss,AJ _ h.sd]
abbrev JG:Stmt:=Cb 24 4
def ND:AA->Option Out :=
 (A8 (m1 Bo (Hg (Bd AW Ai 1 (AB 0)) (AB 1))))
def Ei:List T->Option Ru:=Am 2 2 ND
abbrev OM:Fn:=⟨1,["self","room"],Ei⟩
abbrev zan:Gx:=⟨[],[("Machine",AW,Ai)],[],[],false,true,true,none,[],[],[],true,[],[],[],[],[],[]⟩
abbrev Ng:Gm:=⟨["self","room"],(AL JG).names,[],0,[],["list"],[],[],[],false,[],[],[],zan⟩
theorem zaj:FnScope Ng.N OM.ps (AL JG):=Aq (by decide +kernel)
theorem zaq:Ag 200 Ng (A9 JG)=some ND:=by ext
theorem zgd{ws:List Str}(hd:ws.Nodup){i:Nat}(hi:i<ws.length):FI ws ws[i]=some i:=by
 unfold FI;rw[ybl];refine⟨hi,@decide_eq_true _ (Classical.propDecidable _) rfl,λj hj q=>?_⟩
 have:=@of_decide_eq_true _ (Classical.propDecidable _) q;have:=(ycq hd).mp this
 omega
theorem Sg{M:Mc}(h:McOk M){i:Nat}(hi:i<M.rs.length):Ei [FD M,.str M.rs[i].1]=some (.ok (.own M.rs[i].2)):=by
 have e:=zgd h.r.nd (i:=i) (by rw[ya1];exact hi)
 rw[ydb]at e;have e2:(M.rs.map λr=>T.lst r.2)[i]?=some (.lst M.rs[i].2):=by rw[ya4,ya0 hi];rfl
 have k:=(h.r.lk _ (yav hi)).1.sh;unfold Ei ND
 simp![Hg,A4,AV,h.ss,h.sd,AJ _ h.ss,AJ _ h.sd,e,e2,k,AJ _ k]
abbrev JM:Stmt:=Cb 23 1
def NO:AA->Option Out :=
 (A8 (Bu (m1 Bo (Bd Ax BS 2 (AB 0))) (EN (Bd Ax BS 2 (AB 0)))))
def Gu:List T->Option Ru:=Am 1 1 NO
abbrev U0:Fn:=⟨1,["self"],Gu⟩
abbrev zc5:Gx:=⟨[],[("Door",Ax,BS)],[],[],false,true,true,none,[],[],[],true,[],[],[],[],[],[]⟩
abbrev Nm:Gm:=⟨["self"],(AL JM).names,[],0,[],["list"],[],[],[],false,[],[],[],zc5⟩
theorem zby:FnScope Nm.N U0.ps (AL JM):=Aq (by decide +kernel)
theorem zcb:Ag 200 Nm (A9 JM)=some NO:=by ext
theorem zje{d:Dr}(h:A5 d.g=true):Gu [AM d]=some (.ok (.own d.g)):=by
 unfold Gu NO
 simp![A4,AV,h,AJ _ h]
abbrev JK:Stmt:=Cb 23 2
def NN:AA->Option Out :=
 (A8 (Bu (m1 Bo (Bd Ax BS 3 (AB 0))) (EN (Bd Ax BS 3 (AB 0)))))
def Gs:List T->Option Ru:=Am 1 1 NN
abbrev UZ:Fn:=⟨1,["self"],Gs⟩
abbrev zc3:Gx:=⟨[],[("Door",Ax,BS)],[],[],false,true,true,none,[],[],[],true,[],[],[],[],[],[]⟩
abbrev Nk:Gm:=⟨["self"],(AL JK).names,[],0,[],["list"],[],[],[],false,[],[],[],zc3⟩
theorem zbw:FnScope Nk.N UZ.ps (AL JK):=Aq (by decide +kernel)
theorem zc9:Ag 200 Nk (A9 JK)=some NN:=by ext
theorem zjd{d:Dr}(h:A5 d.g=true):Gs [AM d]=some (.ok (.own (d.n.map T.str))):=by
 unfold Gs NN
 simp![A4,AV,h,AJ _ h]
abbrev Lx:Stmt:=AY 35
def Kx:AA->Option Out :=
 (EB 1 (Bt AW Ai ET (AB 2) AF))
def NA:AA->Option Out :=
 (AG (CI 1 (BO AF))
 (AG (BX (An (AB 0)) (AD 2) Kx)
 (A8 (AB 1))))
def Gq:List T->Option Ru:=Am 1 3 NA
abbrev Jx:Fn:=⟨2,["machines"],Gq⟩
abbrev zb3:Gx:=⟨[],[],[("watches",AW,Ai,OL)],[],false,true,true,none,[],[],[],true,[],[],[],[],[],[]⟩
abbrev UH:Gm:=⟨["machines","watches","machine"],(AL Lx).names,[],1,[],[],[],["watches"],[],false,[],[],[],zb3⟩
theorem zax:FnScope UH.N Jx.ps (AL Lx):=Aq (by decide +kernel)
theorem zba:Ag 200 UH (A9 Lx)=some NA:=by ext
theorem Eb{α A:Type}{b:T->AA->Option AA}{body:AA->Option Out}(f:α->T)(S:List A->AA->Prop)(g:α->List A)(N:Nat):∀(L:List α) (a:List A) (τ:AA),S a τ->a.length+(L.flatMap g).length<=N->(∀x∈L,∀a τ,S a τ->a.length+(g x).length<=N->∃τ1,b (f x) τ=some τ1/\∃τ2,body τ1=some (.nx τ2)/\S (a++g x) τ2)->∃τ',B8 b body (L.map f) τ=some (.nx τ')/\S (a++L.flatMap g) τ'
 |[],a,τ,h,_,_=>⟨τ,rfl,by rw[ybt,yaw];exact h⟩
 |x::L,a,τ,h,hN,hs=>by
  rw[ybc,yac]at hN;obtain⟨τ1,e1,τ2,e2,h2⟩:=hs x (ya7 ..) a τ h (by omega)
  obtain⟨τ',e,h'⟩:=Eb f S g N L (a++g x) τ2 h2 (by rw[yac];omega) λy hy=>hs y (ya6 _ hy)
  refine⟨τ',?_,by rw[ybc,<- ybq];exact h'⟩
  rw[yae];unfold B8;simp only[e1,e2];exact e
theorem Jr{α A:Type}{b:T->AA->Option AA}{body:AA->Option Out}(f:α->T)(S:List A->AA->Prop)(g:α->List A)(N:Nat)(c:Str):∀(L:List α) (a:List A) (τ:AA),S a τ->a.length<=N ->
  (∀x∈L,∀a τ,S a τ->a.length<=N->∃τ1,b (f x) τ=some τ1/\((a.length+(g x).length<=N/\∃τ2,body τ1=some (.nx τ2)/\S (a++g x) τ2)\/(N<a.length+(g x).length/\∃τ2,body τ1=some (.xc c τ2)))) ->
  (a.length+(L.flatMap g).length<=N/\∃τ',B8 b body (L.map f) τ=some (.nx τ')/\S (a++L.flatMap g) τ')\/(N<a.length+(L.flatMap g).length/\∃τ',B8 b body (L.map f) τ=some (.xc c τ'))
 |[],a,τ,h,hN,_=>.inl ⟨by rw[ybt];exact hN,τ,rfl,by rw[ybt,yaw];exact h⟩
 |x::L,a,τ,h,hN,hs=>by
  rw[ybc,yac,<- ybq,yae];obtain⟨τ1,e1,⟨k,τ2,e2,h2⟩|⟨k,τ2,e2⟩⟩:=hs x (ya7 ..) a τ h hN
  .rcases Jr f S g N c L (a++g x) τ2 h2 (by rw[yac];exact k) λy hy=>hs y (ya6 _ hy) with ⟨k2,τ',e,h'⟩|⟨k2,τ',e⟩
   .rw[yac]at k2;refine .inl ⟨by omega,τ',?_,h'⟩
    unfold B8;simp only[e1,e2];exact e
   .rw[yac]at k2;refine .inr ⟨by omega,τ',?_⟩
    unfold B8;simp only[e1,e2];exact e
  .refine .inr ⟨by omega,τ2,?_⟩
   unfold B8;simp only[e1,e2]
theorem C4{α:Type}{b:T->AA->Option AA}{me:AA->Option Rs}(f g:α->T)(I:AA->Prop):∀(L:List α) (τ:AA),I τ->(∀x∈L,∀τ,I τ->∃τ1,b (f x) τ=some τ1/\me τ1=some (.v (g x) false)/\I τ1)->BK b (mC (.bl true)) me (L.map f) τ=some (L.map g)
 |[],_,_,_=>rfl
 |x::L,τ,h,hs=>by
  obtain⟨τ1,e1,e2,h1⟩:=hs x (ya7 ..) τ h;have k:=C4 f g I L τ1 h1 λu hu=>hs u (ya6 _ hu)
  have f1:mC (.bl true) τ1=some (.v (.bl true) false):=rfl;rw[yae,yae];unfold BK;simp only[e1,f1,e2,k]
theorem Ck{α:Type}{f:α->T}{L:List α}(h:∀x∈L,(f x).sh=true):A5 (L.map f)=true:=by
 rw[Bs,yas];intro t ht;obtain⟨x,hx,rfl⟩:=yag.mp ht;exact h x hx
theorem sq{f g:AA->Option Out}{τ τ':AA}{r:Option Out}(h:f τ=some (.nx τ'))(h2:g τ'=r):AG f g τ=r:=by
 unfold AG;rw[h];exact h2
def AI(M:Mc):T:=FD M
theorem Fp(M:Mc):CM AW Ai (AI M)=some [.lst (M.ws.map T.str),.obj (.sdc (M.rs.map (·.1))) (M.rs.map λr=>.lst r.2),.lst (M.ds.map AM)]:=(show CM AW Ai (FD M)=(if AW=AW/\Ai=Ai then some [.lst (M.ws.map T.str),.obj (.sdc (M.rs.map (·.1))) (M.rs.map λr=>.lst r.2),.lst (M.ds.map AM)] else none) from rfl).trans (if_pos ⟨rfl,rfl⟩)
theorem M7{M:Mc}(h:McOk M):ET [AI M]=some (.ok (.own (M.ws.map T.str))):=zij h
theorem E4{M:Mc}(h:McOk M):(AI M).sh=true:=h.sh
theorem EM{Ms:List Mc}(h:∀M∈Ms,McOk M):A5 (Ms.map AI)=true:=Ck λM hM=>(h M hM).sh
theorem VO{Ms:List Mc}(h:∀M∈Ms,McOk M)(hl:(Ms.flatMap Mc.ws).length<=1000):Gq [.lst (Ms.map AI)]=some (.ok (.own ((Ms.flatMap Mc.ws).map T.str))):=by
 have hs:=EM h
 obtain⟨τ,e,y,rfl⟩:=Eb (b:=AD 2) (body:=Kx) AI (λ(a:List Str) τ=>∃y,τ=[some (.lst (Ms.map AI)),some (.own (a.map T.str)),y]) Mc.ws 1000 Ms [] _ ⟨none,rfl⟩ (by simpa using hl) λM hM a τ hS hN=>by
  obtain⟨y,rfl⟩:=hS;have k:=h M hM;have k1:=E4 k;have k2:=M7 k;have l1:a.length+M.ws.length<=100000:=by omega
  refine⟨[some (.lst (Ms.map AI)),some (.own (a.map T.str)),some (AI M)],by simp![],_,?_,some (AI M),rfl⟩
  unfold Kx
  simp![-CM,Fp,k1,Cj _ k1,k2,A4,ya1,l1,yat]
 rw[yce,ybe]at e;unfold Gq NA
 simp![hs,AJ _ hs,e]
abbrev Ls:Stmt:=AY 34
def Oy:AA->Option Rs :=
 (m1 (EO Ge) (AB 0))
def Mw:AA->Option Out :=
 (AG (Ar (Bg (BJ (m1 (CD "list") (AB 0))) (BJ (Dp DX DX (mC (.int 1)) (m1 Bh (AB 0)) (mC NY)))) (Bj "BadMachine" (AE (mC (.str "one to six machines are put together")) AF)) Ap)
 (AG (Ar (BJ (m1 DS (BP 1 [] (An (AB 0)) (AD 0) (mC (.bl true)) Oy))) (Bj "BadMachine" (AE (mC (.str "only machines are put together")) AF)) Ap)
 (AG (Ad (A7 Gq (AE (AB 0) AF)) (AD 1))
 (Ar (Bg (m2 (CN λi j=>decide (j<i)) (m1 Bh (AB 1)) (mC G5)) (BJ (A7 FP (AE (AB 1) AF)))) (Bj "BadMachine" (AE (mC (.str "machines put together have at most seven watches, all unlike")) AF)) Ap))))
def Kf:List T->Option Ru:=Am 1 2 Mw
abbrev OH:Fn:=⟨3,["machines"],Kf⟩
abbrev zb1:Gx:=⟨[("MOST_PARTS",NY),("MOST_WATCHES",G5)],[],[],[],false,true,true,none,[],[],[],true,[],[("Machine",Ge)],[],[],[],[]⟩
abbrev UC:Gm:=⟨["machines","watches"],(AL Ls).names,[],2,[("all_watches",Jx),("are_unlike",Fz)],["isinstance","list","len","all"],["BadMachine"],[],[],false,[],[],[],zb1⟩
theorem zau:FnScope UC.N OH.ps (AL Ls):=Aq (by decide +kernel)
theorem zb7:Ag 200 UC (A9 Ls)=some Mw:=by ext
structure MsOk(Ms:List Mc):Prop where
 l1:1<=Ms.length
 l6:Ms.length<=6
 m:∀M∈Ms,McOk M
 wl:(Ms.flatMap Mc.ws).length<=7
 wd:(Ms.flatMap Mc.ws).Nodup
theorem PQ{α:Type}:∀L:List α,DR (L.map λ_=>T.bl true)=some (L.map λ_=>true)
 |[]=>rfl
 |a::r=>by
  rw[yae,yae];unfold DR;rw[PQ r]
theorem cp_ok{Ms:List Mc}(h:MsOk Ms):Kf [.lst (Ms.map AI)]=some (.ok .non):=by
 have hs:=EM h.m;have aw:=VO h.m (by have:=h.wl;omega)
 have un:=HG h.wd (by have:=h.wl;omega)
 have l1:=h.l1;have l6:=h.l6
 have lc:BK (AD 0) (mC (.bl true)) Oy (Ms.map AI) [none]=some (Ms.map λ_=>T.bl true):=C4 AI (λ_=>T.bl true) (λτ=>∃a,τ=[a]) Ms _ ⟨none,rfl⟩ λM hM τ hI=>by
  obtain⟨a,rfl⟩:=hI;have k:=E4 (h.m M hM);have ci:EO Ge (AI M)=some (.bl true):=rfl;exact⟨[some (AI M)],by simp![],by unfold Oy;simp![k,Cj _ k,ci],_,rfl⟩
 have ba:=PQ Ms;have sb:=AJ _ (Ck (f:=λ_=>T.bl true) (L:=Ms) λ_ _=>rfl)
 have al:(Ms.map λ_=>true).all id=true:=by simp
 have e1:decide ((1:Int)<=(Ms.length:Int))=true:=yer (by omega)
 have e2:decide ((Ms.length:Int)<=6)=true:=yer (by omega)
 have e3:decide ((7:Int)<((Ms.flatMap Mc.ws).length:Int))=false:=yea (by have:=h.wl;omega)
 have ll:Ms.length<=100000:=by omega
 unfold Kf Mw NY G5
 simp![hs,AJ _ hs,ya1,e1,e2,ll,lc,sb,ba,al,aw,A4,AV,e3,un]
abbrev Ly:Stmt:=AY 36
def PD:AA->Option Rs :=
 (m2 B5 (AB 1) (BO (CK (AB 0) AF)))
def Ky:AA->Option Out :=
 (EB 3 (BP 1 [4] (An (Bt AW Ai Dx (AB 2) AF)) (AD 0) (mC (.bl true)) PD))
def Kz:AA->Option Out :=
 (AG (CI 3 (BO AF))
 (AG (BX (An (AB 1)) (AD 4) Ky)
 (AG (Ar (m2 (CN λi j=>decide (j<i)) (m1 Bh (AB 3)) (mC G6)) (Bj "TooMany" (AE (mC (.str "the whole would have more than 64 rooms")) AF)) Ap)
 (AG (DH 3) (Ad (AB 3) (AD 1))))))
def NB:AA->Option Out :=
 (AG (Ad (BO (CK (BO AF) AF)) (AD 1))
 (AG (BX (An (AB 0)) (AD 2) Kz)
 (A8 (AB 1))))
def Ki:List T->Option Ru:=Am 1 5 NB
abbrev OK:Fn:=⟨2,["machines"],Ki⟩
abbrev zb4:Gx:=⟨[("MOST_ROOMS",G6)],[],[("rooms",AW,Ai,ON)],[],false,true,true,none,[],[],[],true,[],[],[],[],[],[]⟩
abbrev UI:Gm:=⟨["machines","takings","machine","longer","taking"],(AL Ly).names,["taking"],1,[],["len"],["TooMany"],["longer"],[],false,[],[],[],zb4⟩
theorem zay:FnScope UI.N OK.ps (AL Ly):=Aq (by decide +kernel)
theorem zbb:Ag 200 UI (A9 Ly)=some NB:=by ext
abbrev A3(t:List Str):T:=.lst (t.map T.str)
def Bc(ts:List (List Str))(rs:List Str):List (List Str):=ts.flatMap λt=>rs.map λr=>t++[r]
def BN(rss:List (List Str)):List (List Str):=rss.foldl Bc [[]]
theorem LL(rss:List (List Str))(rs:List Str):BN (rss++[rs])=Bc (BN rss) rs:=by
 unfold BN;rw[ye1]
 rfl
theorem fold_mem:∀(rss ts:List (List Str)) (t:List Str),t∈rss.foldl Bc ts->∃u∈ts,∃v:List Str,t=u++v/\v.length=rss.length/\∀(i:Nat) (r:Str),v[i]?=some r->∃rs,rss[i]?=some rs/\r∈rs
 |[],ts,t,h=>⟨t,h,[],(yaw t).symm,rfl,λi r z=>by simp at z⟩
 |rs::rss,ts,t,h=>by
  obtain⟨u,hu,v,rfl,hl,hv⟩:=fold_mem rss (Bc ts rs) t h;obtain⟨w,hw,hu⟩:=yb0.mp hu;obtain⟨r,hr,rfl⟩:=yag.mp hu;refine⟨w,hw,r::v,by rw[ybq];rfl,by rw[yao,yao,hl],λi x z=>?_⟩
  cases i with
  |zero=>simp at z;subst z;exact⟨rs,rfl,hr⟩
  |succ i=>simpa using hv i x (by simpa using z)
theorem Il{rss:List (List Str)}{t:List Str}(h:t∈BN rss):t.length=rss.length/\∀(i:Nat) (r:Str),t[i]?=some r->∃rs,rss[i]?=some rs/\r∈rs:=by
 obtain⟨u,hu,v,rfl,hl,hv⟩:=fold_mem rss [[]] t h;rw[yaa.mp hu,ybe];exact⟨hl,hv⟩
def Mc.nm(M:Mc):List Str:=M.rs.map (·.1)
theorem M8{M:Mc}(h:McOk M):Dx [AI M]=some (.ok (.own (M.nm.map T.str))):=zim h
theorem GS(ts:List (List Str)):A5 (ts.map A3)=true:=Ck λt _=>by
 show((!false) && A5 (t.map T.str))=true;rw[AV]
 rfl
theorem zk0(t:List Str):(A3 t).sh=true:=by
 show((!false) && A5 (t.map T.str))=true;rw[AV]
 rfl
theorem Ik{α:Type}{L:List α}{i:Nat}(hi:i<L.length):L.take (i+1)=L.take i++[L[i]]:=by rw[List.take_append_getElem]
theorem at_ok{Ms:List Mc}(h:MsOk Ms)(hk:∀i,i<=Ms.length->(BN ((Ms.take i).map Mc.nm)).length<=64):Ki [.lst (Ms.map AI)]=some (.ok (.lst ((BN (Ms.map Mc.nm)).map A3))):=by
 have hs:=EM h.m
 obtain⟨τ,e,y2,y3,y4,rfl⟩:=DZ (b:=AD 2) (body:=Kz) (ts:=Ms.map AI) (τ:=[some (.lst (Ms.map AI)),some (.lst [.lst []]),none,none,none]) (λi τ=>∃y2 y3 y4,τ=[some (.lst (Ms.map AI)),some (.lst ((BN ((Ms.take i).map Mc.nm)).map A3)),y2,y3,y4]) ⟨_,_,_,rfl⟩ λi t τ h1 h2=>by
  obtain⟨y2,y3,y4,rfl⟩:=h2;have hi:i<Ms.length:=by simpa using (ya5.mp h1).1
  rw[ya4,ya0 hi]at h1;have et:t=AI Ms[i]:=(yar h1).symm;subst et;have k:=h.m _ (yav hi);have k1:=E4 k;have k2:=M8 k;have hl:=hk (i+1) (by omega)
  have en:BN ((Ms.take (i+1)).map Mc.nm)=Bc (BN ((Ms.take i).map Mc.nm)) Ms[i].nm:=by rw[Ik hi,yat,yae,yce,LL]
  rw[en]at hl ⊢;have hnl:Ms[i].nm.length<=64:=by unfold Mc.nm;rw[ya1];exact k.r.l64
  have tl:∀t∈BN ((Ms.take i).map Mc.nm),t.length<=6:=λt ht=>by
   have:=(Il ht).1;rw[ya1,ybp]at this;have:=h.l6
   omega
  generalize hts:BN ((Ms.take i).map Mc.nm)=ts at *;have sts:=GS ts
  obtain⟨τ2,e2,z4,rfl⟩:=Eb (b:=AD 4) (body:=Ky) A3 (λ(a:List (List Str)) τ=>∃z,τ=[some (.lst (Ms.map AI)),some (.lst (ts.map A3)),some (AI Ms[i]),some (.own (a.map A3)),z]) (λt=>Ms[i].nm.map λr=>t++[r]) 64 ts [] [some (.lst (Ms.map AI)),some (.lst (ts.map A3)),some (AI Ms[i]),some (.own []),y4] ⟨y4,rfl⟩ (by rw[yb4,ye8];exact hl) λt ht a τ hS hN=>by
   obtain⟨z,rfl⟩:=hS;rw[ya1]at hN;have t6:=tl t ht;have ts1:=zk0 t;have a1:t.length+1<=100000:=by omega
   have a2:a.length+Ms[i].nm.length<=100000:=by omega
   have a3:Ms[i].nm.length<=100000:=by omega
   have lc:BK (AD 0) (mC (.bl true)) PD (Ms[i].nm.map T.str) [none,some (A3 t)]=some (Ms[i].nm.map λr=>T.own ((t++[r]).map T.str)):=C4 T.str (λr=>T.own ((t++[r]).map T.str)) (λτ=>∃a,τ=[a,some (A3 t)]) _ _ ⟨none,rfl⟩ λr _ τ hI=>by
    obtain⟨x,rfl⟩:=hI;exact⟨[some (.str r),some (A3 t)],by simp![],by unfold PD;simp![A4,AV,ya1,a1,yat],_,rfl⟩
   have so:BD (Ms[i].nm.map λr=>T.own ((t++[r]).map T.str))=(Ms[i].nm.map λr=>t++[r]).map A3:=by
    rw[Cu,yap,yap];refine ych λr _=>?_
    show T.nd false .lst (BD ((t++[r]).map T.str))=_;rw[A4]
    rfl
   refine⟨[some (.lst (Ms.map AI)),some (.lst (ts.map A3)),some (AI Ms[i]),some (.own (a.map A3)),some (A3 t)],by simp![],[some (.lst (Ms.map AI)),some (.lst (ts.map A3)),some (AI Ms[i]),some (.own ((a++Ms[i].nm.map λr=>t++[r]).map A3)),some (A3 t)],?_,_,rfl⟩
   rw[yat];unfold Ky
   simp![-CM,Fp,k1,Cj _ k1,k2,AV,A4,ya1,a2,a3,lc,so]
  rw[ybe]at e2;have eb:ts.flatMap (λt=>Ms[i].nm.map λr=>t++[r])=Bc ts Ms[i].nm:=rfl
  rw[eb]at e2;have g64:decide ((64:Int)<((Bc ts Ms[i].nm).length:Int))=false:=yea (by omega)
  refine⟨[some (.lst (Ms.map AI)),some (.lst (ts.map A3)),some (AI Ms[i]),y3,y4],by simp![],[some (.lst (Ms.map AI)),some (.lst ((Bc ts Ms[i].nm).map A3)),some (AI Ms[i]),some (.lst ((Bc ts Ms[i].nm).map A3)),z4],?_,_,_,_,rfl⟩
  have st2:=GS (Bc ts Ms[i].nm);unfold Kz G6
  simp![sts,AJ _ sts,e2,ya1,g64,AJ _ st2,st2]
 rw[ya1,ybg]at e;have st:=GS (BN (Ms.map Mc.nm));unfold Ki NB
 simp![hs,AJ _ hs,e,AJ _ st]
abbrev L9:Stmt:=AY 37
def Me:AA->Option Out :=
 (A8 (FE (mC (.str "/")) (AB 0)))
def GH:List T->Option Ru:=Am 1 1 Me
abbrev Hr:Fn:=⟨1,["taking"],GH⟩
abbrev Tf:Gm:=⟨["taking"],(AL L9).names,[],0,[],[],[],[],[],false,[],[],[],CF⟩
theorem zbf:FnScope Tf.N Hr.ps (AL L9):=Aq (by decide +kernel)
theorem zbo:Ag 200 Tf (A9 L9)=some Me:=by ext
def BL(t:List Str):Str:=Txt.join "/" t
theorem sum_le{α:Type}{f:α->Str}{m:Nat}:∀{l:List α},(∀a∈l,(f a).length<=m)->((l.map f).map (·.length)).sum<=l.length * m
 |[],_=>yba _
 |a::l,h=>by
  have h1:=h a (ya7 ..);have h2:=sum_le (l:=l) λb hb=>h b (ya6 _ hb)
  rw[yae,yae,List.sum_cons,yao,ydq,ydr]
  omega
theorem TZ{t:List Str}(hl:t.length<=6)(hs:∀r∈t,r.length<=60):(t.map (·.length)).sum+t.length * (Str.ofString "/").length<=BE:=by
 have h1:=sum_le (f:=id) (m:=60) (l:=t) hs;rw[List.map_id]at h1;have h2:(Str.ofString "/").length=1:=by decide +kernel
 rw[h2];unfold BE
 omega
theorem IM{t:List Str}{o:Bool}(hl:t.length<=6)(hs:∀r∈t,r.length<=60):GH [.nd o .lst (t.map T.str)]=some (.ok (.str (BL t))):=by
 have h1:=TZ hl hs;unfold GH Me;cases o<;>simp![FE,Iy,h1,BL]
abbrev Lp:Stmt:=AY 33
def Ov:AA->Option Rs :=
 (A7 GH (AE (AB 0) AF))
def Ou:AA->Option Rs :=
 (A7 ID (AE (AB 0) AF))
def Mt:AA->Option Out :=
 (AG (Eu (A7 Kf (AE (AB 0) AF)))
 (AG (Ad (A7 Ki (AE (AB 0) AF)) (AD 1))
 (AG (Ad (BP 1 [] (An (AB 1)) (AD 0) (mC (.bl true)) Ov) (AD 2))
 (AG (Ar (Bg (BJ (A7 FP (AE (AB 2) AF))) (BJ (m1 DS (BP 1 [] (An (AB 2)) (AD 0) (mC (.bl true)) Ou)))) (Bj "BadMachine" (AE (mC (.str "a room of the whole would have a name twice, or a name of more than sixty signs")) AF)) Ap)
 (A8 (AB 1))))))
def Kb:List T->Option Ru:=Am 1 3 Mt
abbrev OE:Fn:=⟨4,["machines"],Kb⟩
abbrev Tz:Gm:=⟨["machines","takings","names"],(AL Lp).names,[],3,[("check_parts",OH),("all_takings",OK),("whole_name",Hr),("are_unlike",Fz),("is_room_name",Ju)],["all"],["BadMachine"],[],[],false,[],[],[],CF⟩
theorem za1:FnScope Tz.N OE.ps (AL Lp):=Aq (by decide +kernel)
theorem za5:Ag 200 Tz (A9 Lp)=some Mt:=by ext
structure RmOk(Ms:List Mc):Prop where
 k:∀i,i<=Ms.length->(BN ((Ms.take i).map Mc.nm)).length<=64
 s:∀M∈Ms,∀r∈M.nm,r.length<=60
 n:∀t∈BN (Ms.map Mc.nm),Gj (BL t)/\1<=(BL t).cps.size/\(BL t).cps.size<=60
 d:((BN (Ms.map Mc.nm)).map BL).Nodup
abbrev Ah(Ms:List Mc):List (List Str):=BN (Ms.map Mc.nm)
theorem RmOk.t{Ms:List Mc}(h:RmOk Ms)(hm:MsOk Ms){t:List Str}(ht:t∈Ah Ms):t.length=Ms.length/\t.length<=6/\(∀r∈t,r.length<=60)/\∀(i:Nat) (r:Str),t[i]?=some r->∃M,Ms[i]?=some M/\r∈M.nm:=by
 obtain⟨h1,h2⟩:=Il ht;rw[ya1]at h1
 have h3:∀(i:Nat) (r:Str),t[i]?=some r->∃M,Ms[i]?=some M/\r∈M.nm:=λi r e=>by
  obtain⟨rs,e1,e2⟩:=h2 i r e;rw[ya4]at e1;obtain⟨M,e3,rfl⟩:=ya2.mp e1;exact⟨M,e3,e2⟩
 refine⟨h1,by rw[h1];exact hm.l6,λr hr=>?_,h3⟩
 obtain⟨i,e⟩:=ybj.mp hr;obtain⟨M,e1,e2⟩:=h3 i r e;exact h.s M (yak e1) r e2
theorem ct_ok{Ms:List Mc}(h:MsOk Ms)(hr:RmOk Ms):Kb [.lst (Ms.map AI)]=some (.ok (.lst ((Ah Ms).map A3))):=by
 have hs:=EM h.m;have cp:=cp_ok h;have at':=at_ok h hr.k;have st:=GS (Ah Ms);have l64:(Ah Ms).length<=64:=by have:=hr.k Ms.length (ya8 _);rwa[ybg]at this
 have ll:(Ah Ms).length<=100000:=by omega
 have lc:BK (AD 0) (mC (.bl true)) Ov ((Ah Ms).map A3) [none]=some (((Ah Ms).map BL).map T.str):=by
  rw[yap]
  exact C4 A3 (λt=>T.str (BL t)) (λτ=>∃a,τ=[a]) _ _ ⟨none,rfl⟩ λt ht τ hI=>by
   obtain⟨x,rfl⟩:=hI;obtain⟨_,k1,k2,_⟩:=hr.t h ht;exact⟨[some (A3 t)],by simp![],by unfold Ov;simp![AV,A4,IM k1 k2],_,rfl⟩
 have Dq:BK (AD 0) (mC (.bl true)) Ou (((Ah Ms).map BL).map T.str) [none]=some ((Ah Ms).map λ_=>T.bl true):=by
  rw[yap]
  exact C4 (λt=>T.str (BL t)) (λ_=>T.bl true) (λτ=>∃a,τ=[a]) _ _ ⟨none,rfl⟩ λt ht τ hI=>by
   obtain⟨x,rfl⟩:=hI;obtain⟨n1,n2,n3⟩:=hr.n t ht;exact⟨[some (.str (BL t))],by simp![],by unfold Ou;simp![Qm n1 n2 n3],_,rfl⟩
 have un:=HG hr.d (by rw[ya1];omega)
 have ba:=PQ (Ah Ms);have al:((Ah Ms).map λ_=>true).all id=true:=by simp
 have sb:=AJ _ (Ck (f:=λ_=>T.bl true) (L:=Ah Ms) λ_ _=>rfl)
 unfold Kb Mt
 simp![hs,AJ _ hs,cp,at',st,AJ _ st,ya1,ll,lc,Dq,A4,AV,un,sb,ba,al]
abbrev L8:Stmt:=AY 38
def Kt:AA->Option Out :=
 (EB 2 (Bt AW Ai Ei (AB 3) (AE (AB 4) AF)))
def Md:AA->Option Out :=
 (AG (CI 2 (BO AF))
 (AG (BX (E8 (AE (AB 0) (AE (AB 1) AF))) (Aa 2 (AK (AD 3) (AK (AD 4) Ac))) Kt)
 (A8 (AB 2))))
def K4:List T->Option Ru:=Am 2 5 Md
abbrev Nt:Fn:=⟨2,["machines","taking"],K4⟩
abbrev zbk:Gx:=⟨[],[],[("stay",AW,Ai,OM)],[],false,true,true,none,[],[],[],true,[],[],[],[],[],[]⟩
abbrev Te:Gm:=⟨["machines","taking","stay","machine","room"],(AL L8).names,[],1,[],["zip"],[],["stay"],[],false,[],[],[],zbk⟩
theorem zbe:FnScope Te.N Nt.ps (AL L8):=Aq (by decide +kernel)
theorem zbn:Ag 200 Te (A9 L8)=some Md:=by ext
def CH(M:Mc)(r:Str):List T:=((M.rs.find? λx=>decide (x.1=r)).map (·.2)).getD []
theorem Iv{M:Mc}(h:McOk M){r:Str}(hr:r∈M.nm):Ei [AI M,.str r]=some (.ok (.own (CH M r)))/\A5 (CH M r)=true/\(CH M r).length<=1000/\DC M.ws Ep (CH M r):=by
 obtain⟨x,hx,rfl⟩:=yag.mp (show r∈M.rs.map (·.1) from hr)
 obtain⟨y,hy⟩:∃y,M.rs.find? (λz=>decide (z.1=x.1))=some y:=by
  cases hf:M.rs.find? (λz=>decide (z.1=x.1)) with
  |some y=>exact⟨y,rfl⟩
  |none=>exact absurd (List.find?_eq_none.mp hf x hx) (by simp)
 have hy1:y.1=x.1:=by simpa using List.find?_some hy
 have hym:=ycw hy;have es:CH M x.1=y.2:=by unfold CH;rw[hy];rfl
 obtain⟨i,hi,rfl⟩:=yct hym;obtain⟨k1,k2⟩:=h.r.lk _ hym;rw[es,<- hy1];exact⟨Sg h hi,k1.sh,k2,k1⟩
def DF(Ms:List Mc)(t:List Str):List T:=(Ms.zip t).flatMap λx=>CH x.1 x.2
theorem Pf{α β:Type}(f:α->T)(g:β->T):∀(a:List α) (b:List β),FT (a.map f) (b.map g)=(a.zip b).map λx=>T.tup [f x.1,g x.2]
 |[],b=>by cases b<;>rfl
 |x::a,[]=>rfl
 |x::a,y::b=>by
  rw[yae,yae,ycl,yae,<- Pf f g a b]
  rfl
theorem Ec{α β:Type}{g:α->List β}{m:Nat}:∀{L:List α},(∀x∈L,(g x).length<=m)->(L.flatMap g).length<=L.length * m
 |[],_=>yba _
 |a::L,h=>by
  have h1:=h a (ya7 ..);have h2:=Ec (L:=L) λb hb=>h b (ya6 _ hb)
  rw[ybc,yac,yao,ydq,ydr]
  omega
theorem Kp{Ms:List Mc}(h:MsOk Ms)(hr:RmOk Ms){t:List Str}(ht:t∈Ah Ms){x:Mc×Str}(hx:x∈Ms.zip t):x.1∈Ms/\x.2∈x.1.nm:=by
 obtain⟨_,_,_,k⟩:=hr.t h ht;obtain⟨i,e⟩:=ybj.mp hx;rw[List.getElem?_zip_eq_some]at e;obtain⟨M,e1,e2⟩:=k i _ e.2;rw[e.1]at e1;cases e1;exact⟨yak e.1,e2⟩
theorem zju{Ms:List Mc}(h:MsOk Ms)(hr:RmOk Ms){t:List Str}(ht:t∈Ah Ms):K4 [.lst (Ms.map AI),A3 t]=some (.ok (.own (DF Ms t))):=by
 have hs:=EM h.m;have key:=λ(x:Mc×Str) hx=>(Kp h hr ht (x:=x) hx)
 have zl:(Ms.zip t).length<=6:=by rw[List.length_zip];have:=h.l6;omega
 have wl:([]:List T).length+((Ms.zip t).flatMap λx=>CH x.1 x.2).length<=6000:=by
  have:=Ec (g:=λx:Mc×Str=>CH x.1 x.2) (m:=1000) (L:=Ms.zip t) λx hx=>(Iv (h.m _ (key x hx).1) (key x hx).2).2.2.1
  rw[yb4]
  omega
 obtain⟨τ,e,y,z,rfl⟩:=Eb (b:=Aa 2 (AK (AD 3) (AK (AD 4) Ac))) (body:=Kt) (λx:Mc×Str=>T.tup [AI x.1,.str x.2]) (λ(a:List T) τ=>∃y z,τ=[some (.lst (Ms.map AI)),some (A3 t),some (.own a),y,z]) (λx=>CH x.1 x.2) 6000 (Ms.zip t) [] [some (.lst (Ms.map AI)),some (A3 t),some (.own []),none,none] ⟨none,none,rfl⟩ wl λx hx a τ hS hN=>by
  obtain⟨y,z,rfl⟩:=hS;obtain⟨k1,k2⟩:=key x hx;have k3:=E4 (h.m _ k1);obtain⟨g1,g2,_,_⟩:=Iv (h.m _ k1) k2;have l1:a.length+(CH x.1 x.2).length<=100000:=by omega
  refine⟨[some (.lst (Ms.map AI)),some (A3 t),some (.own a),some (AI x.1),some (.str x.2)],by simp![],[some (.lst (Ms.map AI)),some (A3 t),some (.own (a++CH x.1 x.2)),some (AI x.1),some (.str x.2)],?_,_,_,rfl⟩
  unfold Kt
  simp![-CM,Fp,k3,Cj _ k3,g1,g2,AJ _ g2,l1]
 rw[ybe]at e;unfold K4 Md
 simp![hs,AJ _ hs,AV,A4,Pf,e]
 rfl
abbrev La:Stmt:=AY 42
def IP:AA->Option Out :=
 (AG (Ad (BA (Bt AW Ai EU (BA (AB 0) (AB 6)) AF) (AB 7)) (AD 8))
 (AG (HU 3 (AB 6) (Bd Ax BS 1 (AB 8)))
 (AG (EB 4 (Bt Ax BS Gu (AB 8) AF))
 (EB 5 (Bt Ax BS Gs (AB 8) AF)))))
def Mf:AA->Option Out :=
 (AG (CI 3 (m1 Bo (AB 2)))
 (AG (CI 4 (BO AF))
 (AG (CI 5 (BO AF))
 (AG (BX (An (AB 1)) (Aa 2 (AK (AD 6) (AK (AD 7) Ac))) IP)
 (AG (DH 3) (AG (DH 4) (AG (DH 5) (A8 (E5 GJ [(.str "")] (AE (A7 GH (AE (AB 2) AF)) (AE (A7 GH (AE (AB 3) AF)) (AE (AB 4) (AE (AB 5) AF)))))))))))))
def K5:List T->Option Ru:=Am 3 9 Mf
abbrev Nu:Fn:=⟨4,["machines","share","taking"],K5⟩
abbrev zbl:Gx:=⟨[],[("Door",Ax,BS)],[("doors",AW,Ai,Jy),("asks",Ax,BS,U0),("sets",Ax,BS,UZ)],[("Door",OW,[(4,[(.str "")])])],false,true,true,none,[],[],[],true,[],[],[],[],[],[]⟩
abbrev Tg:Gm:=⟨["machines","share","taking","ends","guard","noughts","at","number","door"],(AL La).names,[],3,[("whole_name",Hr)],["list"],[],["ends","guard","noughts"],[],false,[],[],[],zbl⟩
theorem zbg:FnScope Tg.N Nu.ps (AL La):=Aq (by decide +kernel)
theorem zbp:Ag 200 Tg (A9 La)=some Mf:=by ext
def d0:Dr:=⟨"","",[],[],""⟩
def Az(D:List (List Dr))(i k:Nat):Dr:=(D.getD i []).getD k d0
abbrev EG(p:Nat×Nat):T:=.tup [.int (p.1:Int),.int (p.2:Int)]
abbrev C9(s:List (Nat×Nat)):T:=.lst (s.map EG)
theorem Ez(s:List (Nat×Nat)):A5 (s.map EG)=true:=Ck λ_ _=>rfl
theorem GY(s:List (Nat×Nat)):BD (s.map EG)=s.map EG:=AJ _ (Ez s)
def Gi(D:List (List Dr))(s:List (Nat×Nat)):Prop:=∀p∈s,p.1<D.length/\p.2<(D.getD p.1 []).length
abbrev Af(Ms:List Mc):List (List Dr):=Ms.map Mc.ds
theorem zjf{Ms:List Mc}{i k:Nat}(h1:i<(Af Ms).length)(h2:k<((Af Ms).getD i []).length):∃M,Ms[i]?=some M/\M.ds[k]?=some (Az (Af Ms) i k):=by
 rw[ya1]at h1;have e:(Af Ms).getD i []=Ms[i].ds:=by rw[ya9,ya4,ya0 h1];rfl
 rw[e]at h2;refine⟨Ms[i],ya0 h1,?_⟩;unfold Az;rw[e,ya0 h2,ya9,ya0 h2]
 rfl
theorem zmu{n i:Nat}(h:i<n):CU n (i:Int)=some i:=by unfold CU;simp;omega
theorem M9{M:Mc}(h:McOk M):EU [AI M]=some (.ok (.own (M.ds.map AM))):=zio h
theorem KG{Ms:List Mc}(h:∀M∈Ms,McOk M){p:Nat×Nat}{s:List (Nat×Nat)}(hs:Gi (Af Ms) s)(hp:p∈s):∃M∈Ms,Ms[p.1]?=some M/\M.ds[p.2]?=some (Az (Af Ms) p.1 p.2)/\DrOk M.ws M.nm (Az (Af Ms) p.1 p.2):=by
 obtain⟨h1,h2⟩:=hs p hp;obtain⟨M,e1,e2⟩:=zjf h1 h2;have hM:=yak e1;exact⟨M,hM,e1,e2,(h M hM).d _ (yak e2)⟩
def FL(D:List (List Dr))(s:List (Nat×Nat))(t:List Str):List Str:=s.foldl (λe p=>e.set p.1 (Az D p.1 p.2).e) t
def FJ(D:List (List Dr))(s:List (Nat×Nat)):List T:=s.flatMap λp=>(Az D p.1 p.2).g
def EJ(D:List (List Dr))(s:List (Nat×Nat)):List Str:=s.flatMap λp=>(Az D p.1 p.2).n
def GO(D:List (List Dr))(w:List (Nat×Nat)×List Str):Dr:=⟨BL w.2,BL (FL D w.1 w.2),FJ D w.1,EJ D w.1,""⟩
theorem O0(D:List (List Dr)):∀(s:List (Nat×Nat)) (t:List Str),(FL D s t).length=t.length
 |[],_=>rfl
 |p::s,t=>by
  show(FL D s (t.set p.1 _)).length=_;rw[O0 D s,yc7]
theorem OZ(D:List (List Dr)):∀(s:List (Nat×Nat)) (t:List Str) (i:Nat) (r:Str),(FL D s t)[i]?=some r->t[i]?=some r\/∃p∈s,p.1=i/\r=(Az D p.1 p.2).e
 |[],_,i,r,h=>.inl h
 |p::s,t,i,r,h=>by
  rcases OZ D s (t.set p.1 (Az D p.1 p.2).e) i r h with h|⟨q,h1,h2⟩
  .by_cases hi:p.1=i
   .by_cases hl:i<t.length
    .rw[hi,yam hl]at h;refine .inr ⟨p,ya7 ..,hi,?_⟩;rw[hi];exact(yar h).symm
    .rw[yb6 (by rw[yc7];omega)]at h
     cases h
   .rw[yan hi]at h;exact .inl h
  .exact .inr ⟨q,ya6 _ h1,h2⟩
theorem Pl{Ms:List Mc}(h:∀M∈Ms,McOk M){x1 x2:Option T}:∀(s:List (Nat×Nat)) (e:List Str) (g:List T) (n:List Str) (y6 y7 y8:Option T),Gi (Af Ms) s->e.length=Ms.length->g.length+s.length * 1000<=100000->n.length+s.length * 1000<=100000->∃z6 z7 z8,
  B8 (Aa 2 (AK (AD 6) (AK (AD 7) Ac))) IP (s.map EG) [some (.lst (Ms.map AI)),x1,x2,some (.own (e.map T.str)),some (.own g),some (.own (n.map T.str)),y6,y7,y8]=some (.nx [some (.lst (Ms.map AI)),x1,x2,some (.own ((FL (Af Ms) s e).map T.str)),some (.own (g++FJ (Af Ms) s)),some (.own ((n++EJ (Af Ms) s).map T.str)),z6,z7,z8])
 |[],e,g,n,y6,y7,y8,_,_,_,_=>⟨y6,y7,y8,by unfold FJ EJ;rw[ybt,ybt,yaw,yaw];rfl⟩
 |p::s,e,g,n,y6,y7,y8,hs,he,hg,hn=>by
  rw[yao,ydq,ydr]at hg hn;obtain⟨M,hM,e1,e2,k⟩:=KG h hs (ya7 ..);generalize hd:Az (Af Ms) p.1 p.2=d at *;have sm:=EM h;have k1:=E4 (h M hM);have kd:=M9 (h M hM);have a1:Ab (Ms.map AI) (p.1:Int)=some (AI M):=Dw (by rw[ya4,e1];rfl)
  have a2:Ab (M.ds.map AM) (p.2:Int)=some (AM d):=Dw (by rw[ya4,e2];rfl)
  have a3:CU e.length (p.1:Int)=some p.1:=zmu (by rw[he];exact(ya5.mp e1).1)
  have sg:=k.g.sh;have sd:=Jz k;have f1:=zje sg;have f2:=zjd sg;have gl:=k.gl;have nl:=k.nl;have l1:g.length+d.g.length<=100000:=by omega
  have l2:n.length+d.n.length<=100000:=by omega
  obtain⟨z6,z7,z8,ih⟩:=Pl h (x1:=x1) (x2:=x2) s (e.set p.1 d.e) (g++d.g) (n++d.n) (some (.int (p.1:Int))) (some (.int (p.2:Int))) (some (AM d)) (λq hq=>hs q (ya6 _ hq)) (by rw[yc7];exact he) (by rw[yac];omega) (by rw[yac];omega)
  have body:IP [some (.lst (Ms.map AI)),x1,x2,some (.own (e.map T.str)),some (.own g),some (.own (n.map T.str)),some (.int (p.1:Int)),some (.int (p.2:Int)),y8]=some (.nx [some (.lst (Ms.map AI)),x1,x2,some (.own ((e.set p.1 d.e).map T.str)),some (.own (g++d.g)),some (.own ((n++d.n).map T.str)),some (.int (p.1:Int)),some (.int (p.2:Int)),some (AM d)]):=by
   have q1:(e.set p.1 d.e).map T.str=(e.map T.str).set p.1 (.str d.e):=List.map_set;rw[q1,yat];unfold IP;refine sq (τ':=[some (.lst (Ms.map AI)),x1,x2,some (.own (e.map T.str)),some (.own g),some (.own (n.map T.str)),some (.int (p.1:Int)),some (.int (p.2:Int)),some (AM d)]) ?_ ?_
   .simp![-CM,sm,Fp,k1,Cj _ k1,a1,kd,a2,sg,AJ _ sg,AV,A4]
   .simp![sg,AJ _ sg,AV,A4,ya1,a3,f1,f2,l1,l2]
  refine⟨z6,z7,z8,?_⟩;have bind:Aa 2 (AK (AD 6) (AK (AD 7) Ac)) (EG p) [some (.lst (Ms.map AI)),x1,x2,some (.own (e.map T.str)),some (.own g),some (.own (n.map T.str)),y6,y7,y8]=some [some (.lst (Ms.map AI)),x1,x2,some (.own (e.map T.str)),some (.own g),some (.own (n.map T.str)),some (.int (p.1:Int)),some (.int (p.2:Int)),y8]:=by simp![]
  rw[yae];unfold B8;simp only[bind,body];rw[ih];unfold FJ EJ FL;rw[ybc,ybc,List.foldl_cons,hd,ybq,ybq]
theorem wd_ok{Ms:List Mc}(h:MsOk Ms)(hr:RmOk Ms){t:List Str}(ht:t∈Ah Ms){s:List (Nat×Nat)}(hs:Gi (Af Ms) s)(hl:s.length<=2):K5 [.lst (Ms.map AI),C9 s,A3 t]=some (.ok (AM (GO (Af Ms) (s,t)))):=by
 obtain⟨t1,t2,t3,t4⟩:=hr.t h ht;obtain⟨z6,z7,z8,e⟩:=Pl h.m (x1:=some (C9 s)) (x2:=some (A3 t)) s t [] [] none none none hs t1 (by rw[yb4];omega) (by rw[yb4];omega)
 rw[ybe,ybe,yce]at e;have sm:=EM h.m;have n1:=IM (o:=false) t2 t3
 have n2:=IM (t:=FL (Af Ms) s t) (o:=false) (by rw[O0];exact t2) λr hr'=>by
  obtain⟨i,q⟩:=ybj.mp hr'
  rcases OZ _ s t i r q with q|⟨p,hp,_,rfl⟩
  .exact t3 r (yak q)
  .obtain⟨M,hM,_,_,k⟩:=KG h.m hs hp;exact hr.s M hM _ k.e
 have sg:A5 (FJ (Af Ms) s)=true:=by
  rw[Bs,yas];intro u hu;obtain⟨p,hp,hu⟩:=yb0.mp hu;obtain⟨M,hM,_,_,k⟩:=KG h.m hs hp;have:=k.g.sh;rw[Bs,yas]at this;exact this u hu
 have oc1:=J0 _ sg;have oc2:=J0 ((EJ (Af Ms) s).map T.str) (AV _)
 have di:GJ [.str (BL t),.str (BL (FL (Af Ms) s t)),.lst (FJ (Af Ms) s),.lst ((EJ (Af Ms) s).map T.str),.str ""]=some (.ok (AM (GO (Af Ms) (s,t)))):=by
  refine MN λp=>?_
  unfold EX Je GO
  simp![oc1,oc2,sg,AJ _ sg,A4,AV]
 unfold K5 Mf
 simp![sm,AJ _ sm,AV,A4,Ez,GY,e,sg,AJ _ sg,n1,n2,di]
abbrev Ld:Stmt:=AY 40
def HE:AA->Option Out :=
 (Ar (Cw (m2 Ba (AB 6) (AB 1)) (m2 Bm (Bd Ax BS 4 (AB 9)) (AB 4))) (Df 5 (BO (CK (CJ (AE (AB 1) (AE (AB 2) AF))) (CK (CJ (AE (AB 6) (AE (AB 8) AF))) AF)))) Ap)
def Ku:AA->Option Out :=
 (BX (Cq (AE (AB 7) AF)) (Aa 2 (AK (AD 8) (AK (AD 9) Ac))) HE)
def G2:AA->Option Out :=
 (AG (Ad (Bd Ax BS 4 (BA (BA (AB 0) (AB 1)) (AB 2))) (AD 3))
 (AG (Ar (m2 Bm (AB 3) (mC (.str ""))) (A8 (BO (CK (BO (CK (CJ (AE (AB 1) (AE (AB 2) AF))) AF)) AF))) Ap)
 (AG (Ar (Ft (AB 3) (mC (.str "?"))) (A8 (BO AF)) Ap)
 (AG (Ad (m2 B5 (Bu (DO (AB 3) none (some (m1 Dl (mC (.int 1))))) (DN (AB 3) none (some (m1 Dl (mC (.int 1)))))) (mC (.str "?"))) (AD 4))
 (AG (CI 5 (BO AF))
 (AG (BX (Cq (AE (AB 0) AF)) (Aa 2 (AK (AD 6) (AK (AD 7) Ac))) Ku)
 (A8 (AB 5))))))))
def Gn:List T->Option Ru:=Am 3 10 G2
abbrev Nx:Fn:=⟨1,["lists","at","number"],Gn⟩
abbrev zc2:Gx:=⟨[],[("Door",Ax,BS)],[],[],false,true,true,none,[],[],[],true,[],[],[],[],[],[]⟩
abbrev Tj:Gm:=⟨["lists","at","number","sign","answer","told","other_at","doors","other_number","door"],(AL Ld).names,[],0,[],["enumerate"],[],["told"],[],false,[],[],[],zc2⟩
theorem zbu:FnScope Tj.N Nx.ps (AL Ld):=Aq (by decide +kernel)
theorem zc7:Ag 200 Tj (A9 Ld)=some G2:=by ext
theorem zgg{x y:Str}{c:Nat}(hc:c∈Tx.cs y)(hx:c∉Tx.cs x):Txt.endswith x y=false:=by
 unfold Txt.endswith;rw[Bool.and_eq_false_iff];right;rw[StrLaws.subAt_eq,yf5];intro z;have hc':c∈y.cps.toList:=hc;rw[<- z]at hc';exact hx (List.mem_of_mem_drop (List.mem_of_mem_take hc'))
theorem zjb{x y z:Str}(h:Tx.cs z=Tx.cs x++Tx.cs y):Txt.endswith z y=true:=by
 have hl:(Tx.cs z).length=(Tx.cs x).length+(Tx.cs y).length:=by rw[h,yac]
 unfold Txt.endswith;rw[ya3];refine⟨yer ?_,?_⟩
 .rw[Tx.cs_len,Tx.cs_len]
  omega
 .rw[StrLaws.subAt_eq,yeu];show((Tx.cs z).drop (z.length - y.length)).take y.length=Tx.cs y;rw[Tx.cs_len,Tx.cs_len,hl,Nat.add_sub_cancel,h,List.drop_left' rfl];exact ybg
theorem MU:Tx.cs (Str.ofString "?")=[63]:=by decide +kernel
def Cf(z:Str):Str:=Txt.slice z none (some (-1))++"?"
def Ce(D:List (List Dr))(i k:Nat):List (List (Nat×Nat)):=if (Az D i k).z="" then [[(i,k)]] else if Txt.endswith (Az D i k).z "?"=true then [] else
 (List.range D.length).flatMap λj=>(List.range (D.getD j []).length).flatMap λm=>if j≠i/\(Az D j m).z=Cf (Az D i k).z then [[(i,k),(j,m)]] else []
theorem Nb{D:List (List Dr)}{i k:Nat}(h1:i<D.length)(h2:k<(D.getD i []).length){s:List (Nat×Nat)}(hs:s∈Ce D i k):Gi D s/\s.length<=2/\(s=[(i,k)]\/∃j m,j≠i/\s=[(i,k),(j,m)]):=by
 unfold Ce at hs;split at hs
 .rw[yaa.mp hs];exact⟨λp hp=>by rw[yaa.mp hp];exact⟨h1,h2⟩,ycd 1,.inl rfl⟩
 .split at hs
  .cases hs
  .obtain⟨j,hj,hs⟩:=yb0.mp hs;obtain⟨m,hm,hs⟩:=yb0.mp hs;split at hs
   .rename_i hc;rw[yaa.mp hs];refine⟨λp hp=>?_,ya8 _,.inr ⟨j,m,hc.1,rfl⟩⟩
    rcases yai.mp hp with rfl|hp
    .exact⟨h1,h2⟩
    .rw[yaa.mp hp];exact⟨ybh.mp hj,ybh.mp hm⟩
   .cases hs
def BB(D:List (List Dr)):T:=.lst (D.map λl=>.lst (l.map AM))
structure DsOk(D:List (List Dr)):Prop where
 l:D.length<=100
 k:∀l∈D,l.length<=200
 g:∀l∈D,∀d∈l,A5 d.g=true
 z:∀l∈D,∀d∈l,GG d.z
theorem DsOk.sl{D:List (List Dr)}(h:DsOk D){l:List Dr}(hl:l∈D):A5 (l.map AM)=true:=Ck λd hd=>by
 have:=h.g l hl d hd
 simp![this,AV]
theorem DsOk.sh{D:List (List Dr)}(h:DsOk D):A5 (D.map λl=>T.lst (l.map AM))=true:=Ck λl hl=>by
 show((!false) && A5 (l.map AM))=true;rw[h.sl hl]
 rfl
theorem KA{D:List (List Dr)}{i:Nat}(h1:i<D.length):∃l∈D,D.getD i []=l/\Ab (D.map λl=>T.lst (l.map AM)) (i:Int)=some (.lst (l.map AM)) :=
 ⟨D[i],yav h1,by rw[ya9,ya0 h1];rfl,Dw (by rw[ya4,ya0 h1];rfl)⟩
theorem Uo{D:List (List Dr)}{i k:Nat}(h1:i<D.length)(h2:k<(D.getD i []).length):∃l∈D,D.getD i []=l/\Az D i k∈l/\Ab (D.map λl=>T.lst (l.map AM)) (i:Int)=some (.lst (l.map AM))/\Ab (l.map AM) (k:Int)=some (AM (Az D i k)):=by
 obtain⟨l,hl,e,a⟩:=KA h1;rw[e]at h2;have ed:Az D i k=l[k]:=by unfold Az;rw[e,ya9,ya0 h2];rfl
 exact⟨l,hl,e,by rw[ed];exact yav h2,a,Dw (by rw[ya4,ya0 h2,ed];rfl)⟩
theorem Qc{z:Str}(h:GG z)(hz:z≠""):∃(y:Str) (c:Nat),Ef y/\y.cps.size<=8/\(c=33\/c=63)/\Tx.cs z=Tx.cs y++[c]/\Txt.slice z none (some (-1))=y/\Txt.endswith z "?"=decide (c=63)/\z.length<=9/\Ab z.cps.toList (-1)=some c:=by
 rcases h with h|⟨y,c,h1,h2,h3,hc,e⟩
 .exact absurd h hz
 .have hl:(Tx.cs z).length=(Tx.cs y).length+1:=by rw[e,yac];rfl
  have h3':(Tx.cs y).length<=8:=h3;refine⟨y,c,h1,h3,hc,e,?_,?_,by rw[Tx.cs_len];omega,?_⟩
  .have e2:Txt.slice z none (some (-1))=StrLaws.sliceText z none (some (-1)):=rfl;rw[e2,StrLaws.sliceText_neg_hi z none (by decide) (by rw[Tx.cs_len,hl];omega)]
   have e3:((-1:Int)+(z.length:Int))=(((Tx.cs y).length:Nat):Int):=by rw[Tx.cs_len,hl];omega
   rw[e3];refine Tx.cs_ext ?_;show Tx.cs (Txt.slice z none (some (((Tx.cs y).length:Nat):Int)))=Tx.cs y;rw[Tx.sl_to (by omega),e,List.take_left' rfl]
  .rcases hc with rfl|rfl
   .refine zgg (c:=63) (by rw[MU];decide) λq=>?_
    rw[e]at q
    rcases ybb.mp q with q|q
    .have:=HP h1 63 q
     omega
    .cases yaa.mp q
   .exact zjb (x:=y) (by rw[e,MU])
  .show Ab (Tx.cs z) (-1)=some c;rw[e];unfold Ab CU;rw[yac,ybi,if_neg (by decide),if_pos (by omega)]
   show(Tx.cs y++[c])[((-1:Int)+(((Tx.cs y).length+1:Nat):Int)).toNat]?=some c;rw[show((-1:Int)+(((Tx.cs y).length+1:Nat):Int)).toNat=(Tx.cs y).length by omega,yaz (ya8 _),Nat.sub_self]
   rfl
theorem OY{α:Type}(f:α->T)(d:α)(L:List α):C6 0 (L.map f)=(List.range L.length).map λ(j:Nat)=>T.tup [.int (j:Int),f (L.getD j d)]:=by
 have e:L.map f=mT L.length λj=>f (L.getD j d):=Fs (by simp) λj hj=>by
  rw[ya4,ya0 hj,ya9,ya0 hj]
  rfl
 rw[e,zjc]
 rfl
theorem em_ok:PyData.strOk (Str.ofString "")=true:=by decide +kernel
theorem an_ok{z:Str}(h:GG z)(hz:z≠""):PyData.strOk (Cf z)=true:=by
 obtain⟨y,c,h1,_,_,_,e,_⟩:=Qc h hz;refine VP λx hx=>?_
 unfold Cf at hx;rw[e,Tx.cs_app]at hx
 rcases ybb.mp hx with hx|hx
 .have:=HP h1 x hx
  omega
 .rw[show Tx.cs (Str.ofString "?")=[63] from MU]at hx;rw[yaa.mp hx]
  decide
abbrev JC(s:List (Nat×Nat)):T:=.own (s.map EG)
abbrev sO(D:List (List Dr))(i k:Nat)(z:Str)(a:List (List (Nat×Nat)))(x6 x7 x8 x9:Option T):AA:=[some (BB D),some (.int (i:Int)),some (.int (k:Int)),some (.str z),some (.str (Cf z)),some (.own (a.map JC)),x6,x7,x8,x9]
theorem so_ok{D:List (List Dr)}(h:DsOk D){i k:Nat}(h1:i<D.length)(h2:k<(D.getD i []).length):Gn [BB D,.int (i:Int),.int (k:Int)]=some (.ok (.own ((Ce D i k).map JC))):=by
 have hs:=h.sh;obtain⟨l,hl,_,hd,a1,a2⟩:=Uo h1 h2;have sl:=h.sl hl;have sg:=h.g l hl _ hd;have hz:=h.z l hl _ hd;generalize hdd:Az D i k=d at *;have q0:=GB (L6 hz) em_ok
 by_cases z0:d.z=""
 .have eg:Ce D i k=[[(i,k)]]:=by unfold Ce;rw[hdd,if_pos z0]
  rw[yer (show d.z=Str.ofString "" from z0)]at q0;rw[eg];unfold Gn G2 BB
  simp![hs,AJ _ hs,a1,a2,sl,sg,AJ _ sg,AV,q0]
  rfl
 .rw[yea (show ¬ d.z=Str.ofString "" from z0)]at q0;obtain⟨y,c,y1,y2,hc,ez,es,ee,zl,_⟩:=Qc hz z0
  by_cases c63:c=63
  .rw[yer c63]at ee;have eg:Ce D i k=[]:=by unfold Ce;rw[hdd,if_neg z0,if_pos ee]
   rw[eg];unfold Gn G2 BB
   simp![hs,AJ _ hs,a1,a2,sl,sg,AJ _ sg,AV,q0,Ft,ee]
  .rw[yea c63]at ee;have eg:Ce D i k=(List.range D.length).flatMap λj=>(List.range (D.getD j []).length).flatMap λm=>if j≠i/\(Az D j m).z=Cf d.z then [[(i,k),(j,m)]] else []:=by unfold Ce;rw[hdd,if_neg z0,if_neg (by rw[ee];exact ybm)]
   have an:=an_ok hz z0
   have il:∀j,j<D.length->((List.range (D.getD j []).length).flatMap λm=>if j≠i/\(Az D j m).z=Cf d.z then [[(i,k),(j,m)]] else []).length<=200:=λj hj=>by
    obtain⟨lj,hlj,ej,_⟩:=KA hj
    have:=Ec (g:=λm=>if j≠i/\(Az D j m).z=Cf d.z then [[(i,k),(j,m)]] else []) (m:=1) (L:=List.range (D.getD j []).length) λm _=>by
     split
     .exact ya8 1
     .exact yba 1
    rw[yb9,ej,Nat.mul_one]at this;rw[ej];exact yaf this (h.k lj hlj)
   have tl:=Ec (g:=λj=>(List.range (D.getD j []).length).flatMap λm=>if j≠i/\(Az D j m).z=Cf d.z then [[(i,k),(j,m)]] else []) (m:=200) (L:=List.range D.length) λj hj=>il j (ybh.mp hj)
   rw[yb9]at tl;have hlD:=h.l
   obtain⟨τ,e,y6,y7,y8,y9,rfl⟩:=Eb (b:=Aa 2 (AK (AD 6) (AK (AD 7) Ac))) (body:=Ku) (λ(j:Nat)=>T.tup [.int (j:Int),.lst ((D.getD j []).map AM)]) (λ(a:List (List (Nat×Nat))) τ=>∃y6 y7 y8 y9,τ=(sO D i k d.z a y6 y7 y8 y9)) (λj=>(List.range (D.getD j []).length).flatMap λm=>if j≠i/\(Az D j m).z=Cf d.z then [[(i,k),(j,m)]] else []) 20000 (List.range D.length) [] [some (BB D),some (.int (i:Int)),some (.int (k:Int)),some (.str d.z),some (.str (Cf d.z)),some (.own []),none,none,none,none] ⟨none,none,none,none,rfl⟩ (by rw[yb4];omega) λj hj a τ hS hN=>by
    obtain⟨y6,y7,y8,y9,rfl⟩:=hS;have hj:=ybh.mp hj;obtain⟨lj,hlj,ej,_⟩:=KA hj;have slj:=h.sl hlj;rw[ej]at hN ⊢
    obtain⟨τ2,e2,z8,z9,rfl⟩:=Eb (b:=Aa 2 (AK (AD 8) (AK (AD 9) Ac))) (body:=HE) (λ(m:Nat)=>T.tup [.int (m:Int),AM (lj.getD m d0)]) (λ(a:List (List (Nat×Nat))) τ=>∃y8 y9,τ=(sO D i k d.z a (some (.int (j:Int))) (some (.lst (lj.map AM))) y8 y9)) (λm=>if j≠i/\(Az D j m).z=Cf d.z then [[(i,k),(j,m)]] else []) 20000 (List.range lj.length) a (sO D i k d.z a (some (.int (j:Int))) (some (.lst (lj.map AM))) y8 y9) ⟨y8,y9,rfl⟩ hN λm hm a τ hS hN=>by
     obtain⟨y8,y9,rfl⟩:=hS;have hm:=ybh.mp hm;have em:lj.getD m d0=Az D j m:=by unfold Az;rw[ej]
     have hdm:Az D j m∈lj:=by rw[<- em,ya9,ya0 hm];exact yav hm
     rw[em];have sgm:=h.g lj hlj _ hdm;have q1:=GB (L6 (h.z lj hlj _ hdm)) an;generalize Az D j m=dm at *;refine⟨(sO D i k d.z a (some (.int (j:Int))) (some (.lst (lj.map AM))) (some (.int (m:Int))) (some (AM dm))),by simp![],_,?_,some (.int (m:Int)),some (AM dm),rfl⟩
     by_cases hji:j=i
     .rw[if_neg (λz=>z.1 hji),yaw]
      have n1:((j:Int) == (i:Int))=true:=by rw[hji];exact yex _
      unfold HE
      simp![G0,n1]
     .have n1:((j:Int) == (i:Int))=false:=by rw[yf5];exact λz=>hji (Int.ofNat.inj z)
      by_cases hzz:dm.z=Cf d.z
      .rw[yer hzz]at q1;rw[if_pos ⟨hji,hzz⟩]at hN ⊢;have ll:a.length<100000:=by rw[ybi]at hN;omega
       unfold sO;rw[yat];unfold HE
       simp![G0,n1,sgm,AJ _ sgm,AV,q1,ya1,ll]
       rfl
      .rw[yea hzz]at q1;rw[if_neg (λz=>hzz z.2),yaw]
       unfold HE
       simp![G0,n1,sgm,AJ _ sgm,AV,q1]
    refine⟨(sO D i k d.z a (some (.int (j:Int))) (some (.lst (lj.map AM))) y8 y9),by simp![],_,?_,some (.int (j:Int)),some (.lst (lj.map AM)),z8,z9,rfl⟩
    unfold Ku
    simp![Cq,slj,AJ _ slj,OY AM d0,e2]
   rw[ybe]at e;have sy:Txt.slice d.z none (some (-1))++Str.ofString "?"=Cf d.z:=rfl;have ls:d.z.length<=100000:=by omega
   have l9:(Txt.slice d.z none (some (-1))).length+(Str.ofString "?").length<=100000:=by
    rw[es,Tx.cs_len,show(Str.ofString "?").length=1 by decide +kernel]
    have:(Tx.cs y).length<=8:=y2
    omega
   have en:C6 0 (D.map λl=>T.lst (l.map AM))=(List.range D.length).map λ(j:Nat)=>T.tup [.int (j:Int),.lst ((D.getD j []).map AM)]:=OY (λl:List Dr=>T.lst (l.map AM)) [] D
   rw[eg]
   have key:G2 [some (BB D),some (.int (i:Int)),some (.int (k:Int)),none,none,none,none,none,none,none]=some (.rt (.own (((List.range D.length).flatMap λj=>(List.range (D.getD j []).length).flatMap λm=>if j≠i/\(Az D j m).z=Cf d.z then [[(i,k),(j,m)]] else []).map JC))):=by
    unfold G2;refine sq (τ':=[some (BB D),some (.int (i:Int)),some (.int (k:Int)),some (.str d.z),none,none,none,none,none,none]) (by unfold BB;simp![hs,AJ _ hs,a1,a2,sl,sg,AJ _ sg,AV]) ?_
    refine sq (τ':=[some (BB D),some (.int (i:Int)),some (.int (k:Int)),some (.str d.z),none,none,none,none,none,none]) (by simp![q0]) ?_
    refine sq (τ':=[some (BB D),some (.int (i:Int)),some (.int (k:Int)),some (.str d.z),none,none,none,none,none,none]) (by simp![Ft,ee]) ?_
    refine sq (τ':=[some (BB D),some (.int (i:Int)),some (.int (k:Int)),some (.str d.z),some (.str (Cf d.z)),none,none,none,none,none]) (by simp![DN,ls,show(-(1:Int))=-1 from rfl,l9,sy]) ?_
    refine sq (τ':=[some (BB D),some (.int (i:Int)),some (.int (k:Int)),some (.str d.z),some (.str (Cf d.z)),some (.own []),none,none,none,none]) (by simp![]) ?_
    refine sq (τ':=_) (by rw[<- e];unfold BB;simp![Cq,hs,AJ _ hs,en]) ?_
    simp![]
   unfold Gn;have sD:(BB D).share=BB D:=by unfold BB;simp![hs,AJ _ hs]
   simp![key]
abbrev Lc:Stmt:=AY 41
def Oj:AA->Option Rs :=
 (m2 Bm (Bd Ax BS 0 (BA (BA (AB 2) (AB 0)) (AB 1))) (BA (AB 3) (AB 0)))
def Mg:AA->Option Out :=
 (A8 (m1 DS (BP 2 [0,2] (An (AB 1)) (Aa 2 (AK (AD 0) (AK (AD 1) Ac))) (mC (.bl true)) Oj)))
def K6:List T->Option Ru:=Am 3 3 Mg
abbrev Nw:Fn:=⟨1,["lists","share","taking"],K6⟩
abbrev zaz:Gx:=⟨[],[("Door",Ax,BS)],[],[],false,true,true,none,[],[],[],true,[],[],[],[],[],[]⟩
abbrev Ti:Gm:=⟨["lists","share","taking"],(AL Lc).names,["lists","taking"],0,[],["all"],[],[],[],false,[],[],[],zaz⟩
theorem zas:FnScope Ti.N Nw.ps (AL Lc):=Aq (by decide +kernel)
theorem zb5:Ag 200 Ti (A9 Lc)=some Mg:=by ext
def Eo(D:List (List Dr))(s:List (Nat×Nat))(t:List Str):Bool:=s.all λp=>decide ((Az D p.1 p.2).s=t.getD p.1 "")
theorem VF{α:Type}(f:α->Bool):∀L:List α,DR (L.map λx=>T.bl (f x))=some (L.map f)
 |[]=>rfl
 |a::r=>by
  rw[yae,yae];unfold DR;rw[VF f r]
theorem Ue{D:List (List Dr)}(h:DsOk D):(BB D).share=BB D/\(BB D).sh=true:=by
 have hs:=h.sh;unfold BB;constructor<;>simp![hs,AJ _ hs]
theorem sf_ok{D:List (List Dr)}(h:DsOk D)(ht:∀l∈D,∀d∈l,PyData.strOk d.s=true){s:List (Nat×Nat)}(hs:Gi D s)(hl:s.length<=2){t:List Str}(tl:t.length=D.length)(tx:Bf t):K6 [BB D,C9 s,A3 t]=some (.ok (.bl (Eo D s t))):=by
 obtain⟨d1,d2⟩:=Ue h;have hD:=h.sh
 have lc:BK (Aa 2 (AK (AD 0) (AK (AD 1) Ac))) (mC (.bl true)) Oj (s.map EG) [none,none,some (BB D),some (A3 t)]=some (s.map λp=>T.bl (decide ((Az D p.1 p.2).s=t.getD p.1 ""))):=C4 EG (λp=>T.bl (decide ((Az D p.1 p.2).s=t.getD p.1 ""))) (λτ=>∃a b,τ=[a,b,some (BB D),some (A3 t)]) _ _ ⟨none,none,rfl⟩ λp hp τ hI=>by
  obtain⟨a,b,rfl⟩:=hI;obtain⟨k1,k2⟩:=hs p hp;obtain⟨l,hl,_,hd,a1,a2⟩:=Uo k1 k2;have sl:=h.sl hl;have sg:=h.g l hl _ hd;have it:p.1<t.length:=by omega
  have a3:Ab (t.map T.str) (p.1:Int)=some (.str (t.getD p.1 "")):=Dw (by rw[ya4,ya0 it,ya9,ya0 it];rfl)
  have q:=GB (ht l hl _ hd) (tx (t.getD p.1 "") (by rw[ya9,ya0 it];exact yav it))
  generalize Az D p.1 p.2=d at *;refine⟨[some (.int (p.1:Int)),some (.int (p.2:Int)),some (BB D),some (A3 t)],by simp![],?_,_,_,rfl⟩
  unfold Oj BB
  simp![hD,a1,a2,sl,sg,AV,a3,q]
 have ba:=VF (λp:Nat×Nat=>decide ((Az D p.1 p.2).s=t.getD p.1 "")) s
 have sb:=AJ _ (Ck (f:=λp:Nat×Nat=>T.bl (decide ((Az D p.1 p.2).s=t.getD p.1 ""))) (L:=s) λ_ _=>rfl)
 have al:(s.map λp=>decide ((Az D p.1 p.2).s=t.getD p.1 "")).all id=Eo D s t:=by unfold Eo;rw[List.all_map];rfl
 have ll:s.length<=100000:=by omega
 have c0:Gh [some (BB D),some (C9 s),some (A3 t)] 0=some (BB D):=by unfold Gh;simp only[List.getElem?_cons_zero,d2,yeo]
 unfold K6 Mg
 simp![d1,d2,AV,A4,Ez,GY,ya1,ll,lc,sb,ba,al]
abbrev L7:Stmt:=AY 39
def Og:AA->Option Rs :=
 (Bt AW Ai EU (AB 0) AF)
def N8:AA->Option Rs :=
 (A7 K6 (AE (AB 1) (AE (AB 2) (AE (AB 0) AF))))
def Of:AA->Option Rs :=
 (CJ (AE (AB 2) (AE (AB 0) AF)))
def FU:AA->Option Out :=
 (AG (EB 3 (BP 1 [2,7] (An (AB 1)) (AD 0) N8 Of))
 (Ar (m2 (CN λi j=>decide (j<i)) (m1 Bh (AB 3)) (mC FG)) (Bj "TooMany" (AE (mC (.str "the whole would have more than 200 doors")) AF)) Ap))
def FV:AA->Option Out :=
 (BX (An (A7 Gn (AE (AB 2) (AE (AB 4) (AE (AB 6) AF))))) (AD 7) FU)
def FW:AA->Option Out :=
 (BX (Cd (AE (m1 Bh (AB 5)) AF)) (AD 6) FV)
def J8:AA->Option Out :=
 (AG (Ad (BP 1 [] (An (AB 0)) (AD 0) (mC (.bl true)) Og) (AD 2))
 (AG (CI 3 (BO AF))
 (AG (BX (Cq (AE (AB 2) AF)) (Aa 2 (AK (AD 4) (AK (AD 5) Ac))) FW)
 (A8 (AB 3)))))
def Gk:List T->Option Ru:=Am 2 8 J8
abbrev Nr:Fn:=⟨2,["machines","takings"],Gk⟩
abbrev zbj:Gx:=⟨[("MOST_DOORS",FG)],[],[("doors",AW,Ai,Jy)],[],false,true,true,none,[],[],[],true,[],[],[],[],[],[]⟩
abbrev Td:Gm:=⟨["machines","takings","lists","ways","at","doors","number","share"],(AL L7).names,["lists","share"],1,[("shares_of",Nx),("starts_from",Nw)],["enumerate","range","len"],["TooMany"],["ways"],[],false,[],[],[],zbj⟩
theorem zbd:FnScope Td.N Nr.ps (AL L7):=Aq (by decide +kernel)
theorem zbm:Ag 200 Td (A9 L7)=some J8:=by ext
theorem Sz{α:Type}{b:T->AA->Option AA}{mt me:AA->Option Rs}(f g:α->T)(p:α->Bool)(I:AA->Prop):∀(L:List α) (τ:AA),I τ->(∀x∈L,∀τ,I τ->∃τ1 bb,b (f x) τ=some τ1/\mt τ1=some (.v (.bl (p x)) bb)/\(p x=true->me τ1=some (.v (g x) false))/\I τ1)->BK b mt me (L.map f) τ=some ((L.filter p).map g)
 |[],_,_,_=>rfl
 |x::L,τ,h,hs=>by
  obtain⟨τ1,bb,e1,e2,e3,h1⟩:=hs x (ya7 ..) τ h;have k:=Sz f g p I L τ1 h1 λu hu=>hs u (ya6 _ hu)
  rw[yae,ye5];unfold BK;cases hp:p x with
  |true=>simp only[e1,e2,hp,e3 hp,k,yeo];rfl
  |false=>simp only[e1,e2,hp,k,yc6,yep]
abbrev DE(w:List (Nat×Nat)×List Str):T:=.tup [C9 w.1,A3 w.2]
def CO(D:List (List Dr))(ts:List (List Str))(s:List (Nat×Nat)):List (List (Nat×Nat)×List Str):=(ts.filter (Eo D s)).map λt=>(s,t)
def EW(D:List (List Dr))(ts:List (List Str))(i k:Nat):List (List (Nat×Nat)×List Str):=(Ce D i k).flatMap (CO D ts)
def GN(D:List (List Dr))(ts:List (List Str))(i:Nat):List (List (Nat×Nat)×List Str):=(List.range (D.getD i []).length).flatMap (EW D ts i)
def Ct(D:List (List Dr))(ts:List (List Str)):List (List (Nat×Nat)×List Str):=(List.range D.length).flatMap (GN D ts)
theorem Ph{D:List (List Dr)}{ts:List (List Str)}{w:List (Nat×Nat)×List Str}(h:w∈Ct D ts):w.2∈ts/\∃i k,i<D.length/\k<(D.getD i []).length/\w.1∈Ce D i k/\Eo D w.1 w.2=true:=by
 obtain⟨i,hi,h⟩:=yb0.mp h;obtain⟨k,hk,h⟩:=yb0.mp h;obtain⟨s,hs,h⟩:=yb0.mp h;obtain⟨t,ht,rfl⟩:=yag.mp h;obtain⟨h1,h2⟩:=ydf.mp ht;exact⟨h1,i,k,ybh.mp hi,ybh.mp hk,hs,h2⟩
theorem Kq(w:List (Nat×Nat)×List Str):(DE w).sh=true:=by simp![Ez,AV]
theorem ds_of{Ms:List Mc}(h:MsOk Ms):DsOk (Af Ms)/\∀l∈Af Ms,∀d∈l,PyData.strOk d.s=true:=by
 have key:∀l∈Af Ms,∃M∈Ms,M.ds=l:=λl hl=>by
  obtain⟨M,hM,rfl⟩:=yag.mp hl;exact⟨M,hM,rfl⟩
 refine⟨⟨by rw[ya1];have:=h.l6;omega,λl hl=>?_,λl hl d hd=>?_,λl hl d hd=>?_⟩,λl hl d hd=>?_⟩<;>obtain⟨M,hM,rfl⟩:=key l hl
 .exact(h.m M hM).dl
 .exact((h.m M hM).d d hd).g.sh
 .exact((h.m M hM).d d hd).z
 .exact(h.m M hM).tn _ ((h.m M hM).d d hd).s
abbrev sW(Ms:List Mc)(ts:List (List Str))(D:List (List Dr))(a:List (List (Nat×Nat)×List Str))(x4 x5 x6 x7:Option T):AA:=[some (.lst (Ms.map AI)),some (.lst (ts.map A3)),some (BB D),some (.own (a.map DE)),x4,x5,x6,x7]
theorem ww_ok{Ms:List Mc}(h:MsOk Ms)(hr:RmOk Ms):((Ct (Af Ms) (Ah Ms)).length<=200/\Gk [.lst (Ms.map AI),.lst ((Ah Ms).map A3)]=some (.ok (.own ((Ct (Af Ms) (Ah Ms)).map DE))))\/(200<(Ct (Af Ms) (Ah Ms)).length/\Gk [.lst (Ms.map AI),.lst ((Ah Ms).map A3)]=some (.exc "TooMany")):=by
 obtain⟨hD,hD2⟩:=ds_of h;obtain⟨d1,d2⟩:=Ue hD;have sD:=hD.sh;have sm:=EM h.m;have st:=GS (Ah Ms);have l64:(Ah Ms).length<=64:=by have:=hr.k Ms.length (ya8 _);rwa[ybg]at this
 have tl:∀t∈Ah Ms,t.length=(Af Ms).length/\Bf t:=λt ht=>by
  obtain⟨k1,_,_,k4⟩:=hr.t h ht;refine⟨by rw[ya1];exact k1,λx hx=>?_⟩
  obtain⟨i,e⟩:=ybj.mp hx;obtain⟨M,e1,e2⟩:=k4 i x e;exact(h.m M (yak e1)).tn x e2
 generalize hts:Ah Ms=ts at *;have eD:(Af Ms).length=Ms.length:=ya1 _;generalize hDD:Af Ms=D at *
 have Cy:BK (AD 0) (mC (.bl true)) Og (Ms.map AI) [none]=some (Ms.map λM=>T.own (M.ds.map AM)):=C4 AI (λM=>T.own (M.ds.map AM)) (λτ=>∃a,τ=[a]) Ms _ ⟨none,rfl⟩ λM hM τ hI=>by
  obtain⟨a,rfl⟩:=hI;have k1:=E4 (h.m M hM);exact⟨[some (AI M)],by simp![],by unfold Og;simp![-CM,Fp,k1,Cj _ k1,M9 (h.m M hM)],_,rfl⟩
 have so:T.lst (BD (Ms.map λM=>T.own (M.ds.map AM)))=BB D:=by
  rw[<- hDD];unfold BB;rw[Cu,yap,yap];refine congrArg T.lst (ych λM hM=>?_)
  show T.nd false .lst (BD (M.ds.map AM))=T.lst (M.ds.map AM);rw[AJ _ (h.m M hM).sd]
 have one:∀(i k:Nat) (l:List Dr) (s:List (Nat×Nat)),Gi D s->s.length<=2->∀a:List (List (Nat×Nat)×List Str),a.length<=200 ->
   let τ:=λ(a:List (List (Nat×Nat)×List Str))=>(sW Ms ts D a (some (.int (i:Int))) (some (.lst (l.map AM))) (some (.int (k:Int))) (some (C9 s)))
   (a.length+(CO D ts s).length<=200/\FU (τ a)=some (.nx (τ (a++CO D ts s))))\/(200<a.length+(CO D ts s).length/\FU (τ a)=some (.xc "TooMany" (τ (a++CO D ts s)))):=λi k l s hs hl a ha=>by
  have lc:BK (AD 0) N8 Of (ts.map A3) [none,some (BB D),some (C9 s)]=some ((ts.filter (Eo D s)).map λt=>DE (s,t)):=Sz A3 (λt=>DE (s,t)) (Eo D s) (λτ=>∃a,τ=[a,some (BB D),some (C9 s)]) ts _ ⟨none,rfl⟩ λt ht τ hI=>by
   obtain⟨x,rfl⟩:=hI;obtain⟨k1,k2⟩:=tl t ht;have sf:=sf_ok hD hD2 hs hl k1 k2;refine⟨[some (A3 t),some (BB D),some (C9 s)],false,by simp![],?_,λ_=>?_,_,rfl⟩
   .unfold N8
    simp![d1,d2,Ez,GY,AV,A4,sf]
   .unfold Of
    simp![Ez,GY,AV,A4]
  have e1:(ts.filter (Eo D s)).map (λt=>DE (s,t))=(CO D ts s).map DE:=by unfold CO;rw[yap];rfl
  have fl:(CO D ts s).length<=64:=by unfold CO;rw[ya1];exact yaf (List.length_filter_le _ _) l64
  have sw:=Ck (f:=DE) (L:=CO D ts s) λw _=>Kq w
  have l1:ts.length<=100000:=by omega
  have l2:a.length+(CO D ts s).length<=100000:=by omega
  rw[e1]at lc
  have dc:decide ((200:Int)<((((a++CO D ts s).map DE).length:Nat):Int))=decide (200<a.length+(CO D ts s).length):=by
   rw[ya1,yac];exact decide_eq_decide.mpr (by omega)
  have ext:FU (sW Ms ts D a (some (.int (i:Int))) (some (.lst (l.map AM))) (some (.int (k:Int))) (some (C9 s)))=Ar (BQ (g2 (CN λi j=>decide (j<i))) (AE (BQ (g1 Bh) (AE (AB 3) AF)) (AE (mC FG) AF))) (Bj "TooMany" (AE (mC (.str "the whole would have more than 200 doors")) AF)) Ap (sW Ms ts D (a++CO D ts s) (some (.int (i:Int))) (some (.lst (l.map AM))) (some (.int (k:Int))) (some (C9 s))):=by
   unfold FU;refine sq ?_ rfl;unfold sW;rw[yat]
   simp![d2,st,AJ _ st,Ez,ya1,l1,lc,l2,sw,AJ _ sw]
  have swa:=AJ _ (Ck (f:=DE) (L:=a++CO D ts s) λw _=>Kq w)
  by_cases hc:200<a.length+(CO D ts s).length
  .rw[yer hc]at dc;refine .inr ⟨hc,ext.trans ?_⟩;unfold FG
   simp![swa,dc]
  .rw[yea hc]at dc;refine .inl ⟨by omega,ext.trans ?_⟩
   unfold FG
   simp![swa,dc]
 have two:∀(i k:Nat) (l:List Dr),i<D.length->D.getD i []=l->k<l.length->∀(a:List (List (Nat×Nat)×List Str)) (y:Option T),a.length<=200 ->
   (a.length+(EW D ts i k).length<=200/\∃z,FV (sW Ms ts D a (some (.int (i:Int))) (some (.lst (l.map AM))) (some (.int (k:Int))) y)=some (.nx (sW Ms ts D (a++EW D ts i k) (some (.int (i:Int))) (some (.lst (l.map AM))) (some (.int (k:Int))) z)))\/(200<a.length+(EW D ts i k).length/\∃τ,FV (sW Ms ts D a (some (.int (i:Int))) (some (.lst (l.map AM))) (some (.int (k:Int))) y)=some (.xc "TooMany" τ)):=λi k l hi hl hk a y ha=>by
  have so':=so_ok hD hi (k:=k) (by rw[hl];exact hk)
  have ss:BD ((Ce D i k).map JC)=(Ce D i k).map C9:=by
   rw[Cu,yap];refine ych λs _=>?_
   show T.nd false .lst (BD (s.map EG))=_;rw[GY]
  have fc:=Jr (b:=AD 7) (body:=FU) C9 (λ(a:List (List (Nat×Nat)×List Str)) τ=>∃z,τ=(sW Ms ts D a (some (.int (i:Int))) (some (.lst (l.map AM))) (some (.int (k:Int))) z)) (CO D ts) 200 "TooMany" (Ce D i k) a (sW Ms ts D a (some (.int (i:Int))) (some (.lst (l.map AM))) (some (.int (k:Int))) y) ⟨y,rfl⟩ ha λs hs a τ hS ha=>by
   obtain⟨z,rfl⟩:=hS;obtain⟨g1,g2,_⟩:=Nb hi (by rw[hl];exact hk) hs
   refine⟨(sW Ms ts D a (some (.int (i:Int))) (some (.lst (l.map AM))) (some (.int (k:Int))) (some (C9 s))),by simp![],?_⟩
   rcases one i k l s g1 g2 a ha with ⟨o1,o2⟩|⟨o1,o2⟩
   .exact .inl ⟨o1,_,o2,_,rfl⟩
   .exact .inr ⟨o1,_,o2⟩
  have e4:FV (sW Ms ts D a (some (.int (i:Int))) (some (.lst (l.map AM))) (some (.int (k:Int))) y)=B8 (AD 7) FU ((Ce D i k).map C9) (sW Ms ts D a (some (.int (i:Int))) (some (.lst (l.map AM))) (some (.int (k:Int))) y):=by
   unfold FV
   simp![d1,d2,so',ss]
  rw[e4]
  rcases fc with ⟨o1,τ,o2,z,rfl⟩|⟨o1,τ,o2⟩
  .exact .inl ⟨o1,z,o2⟩
  .exact .inr ⟨o1,τ,o2⟩
 have fc:=Jr (b:=Aa 2 (AK (AD 4) (AK (AD 5) Ac))) (body:=FW) (λ(j:Nat)=>T.tup [.int (j:Int),.lst ((D.getD j []).map AM)]) (λ(a:List (List (Nat×Nat)×List Str)) τ=>∃y4 y5 y6 y7,τ=(sW Ms ts D a y4 y5 y6 y7)) (GN D ts) 200 "TooMany" (List.range D.length) [] [some (.lst (Ms.map AI)),some (.lst (ts.map A3)),some (BB D),some (.own []),none,none,none,none] ⟨none,none,none,none,rfl⟩ (yba _) λi hi a τ hS ha=>by
  obtain⟨y4,y5,y6,y7,rfl⟩:=hS;have hi:=ybh.mp hi;obtain⟨l,hl,el,_⟩:=KA hi;have sl:=hD.sl hl;have lk:=hD.k l hl;refine⟨(sW Ms ts D a (some (.int (i:Int))) (some (.lst (l.map AM))) y6 y7),by rw[el];simp![],?_⟩
  have fc:=Jr (b:=AD 6) (body:=FV) (λ(k:Nat)=>T.int (k:Int)) (λ(a:List (List (Nat×Nat)×List Str)) τ=>∃y6 y7,τ=(sW Ms ts D a (some (.int (i:Int))) (some (.lst (l.map AM))) y6 y7)) (EW D ts i) 200 "TooMany" (List.range l.length) a (sW Ms ts D a (some (.int (i:Int))) (some (.lst (l.map AM))) y6 y7) ⟨y6,y7,rfl⟩ ha λk hk a τ hS ha=>by
   obtain⟨y6,y7,rfl⟩:=hS;refine⟨(sW Ms ts D a (some (.int (i:Int))) (some (.lst (l.map AM))) (some (.int (k:Int))) y7),by simp![],?_⟩
   rcases two i k l hi el (ybh.mp hk) a y7 ha with ⟨o1,z,o2⟩|⟨o1,τ,o2⟩
   .exact .inl ⟨o1,_,o2,_,_,rfl⟩
   .exact .inr ⟨o1,τ,o2⟩
  have ok:DL (l.length:Int)=true:=Fi (by omega)
  have er:DJ 0 l.length=(List.range l.length).map λ(k:Nat)=>T.int (k:Int):=EZ
  have e3:FW (sW Ms ts D a (some (.int (i:Int))) (some (.lst (l.map AM))) y6 y7)=B8 (AD 6) FV ((List.range l.length).map λ(k:Nat)=>T.int (k:Int)) (sW Ms ts D a (some (.int (i:Int))) (some (.lst (l.map AM))) y6 y7):=by
   unfold FW
   simp![sl,AJ _ sl,ya1,ok,er]
  rw[e3,show GN D ts i=(List.range l.length).flatMap (EW D ts i) by unfold GN;rw[el]]
  rcases fc with ⟨o1,τ,o2,z6,z7,rfl⟩|⟨o1,τ,o2⟩
  .exact .inl ⟨o1,_,o2,_,_,_,_,rfl⟩
  .exact .inr ⟨o1,τ,o2⟩
 have en:C6 0 (D.map λl=>T.lst (l.map AM))=(List.range D.length).map λ(j:Nat)=>T.tup [.int (j:Int),.lst ((D.getD j []).map AM)]:=OY (λl:List Dr=>T.lst (l.map AM)) [] D
 have lM:Ms.length<=100000:=by have:=h.l6;omega
 have key:J8 [some (.lst (Ms.map AI)),some (.lst (ts.map A3)),none,none,none,none,none,none]=AG (λ_=>B8 (Aa 2 (AK (AD 4) (AK (AD 5) Ac))) FW ((List.range D.length).map λ(j:Nat)=>T.tup [.int (j:Int),.lst ((D.getD j []).map AM)]) [some (.lst (Ms.map AI)),some (.lst (ts.map A3)),some (BB D),some (.own []),none,none,none,none]) (A8 (AB 3)) []:=by
  unfold J8;refine sq (τ':=[some (.lst (Ms.map AI)),some (.lst (ts.map A3)),some (BB D),none,none,none,none,none]) (by simp![sm,AJ _ sm,ya1,lM,Cy,so]) ?_
  refine sq (τ':=[some (.lst (Ms.map AI)),some (.lst (ts.map A3)),some (BB D),some (.own []),none,none,none,none]) (by simp![]) ?_
  unfold AG
  have:BX (Cq (AE (AB 2) AF)) (Aa 2 (AK (AD 4) (AK (AD 5) Ac))) FW [some (.lst (Ms.map AI)),some (.lst (ts.map A3)),some (BB D),some (.own []),none,none,none,none]=B8 (Aa 2 (AK (AD 4) (AK (AD 5) Ac))) FW ((List.range D.length).map λ(j:Nat)=>T.tup [.int (j:Int),.lst ((D.getD j []).map AM)]) [some (.lst (Ms.map AI)),some (.lst (ts.map A3)),some (BB D),some (.own []),none,none,none,none]:=by
   unfold BB
   simp![Cq,sD,AJ _ sD,en]
  rw[this]
 rw[yb4,ye8]at fc
 rcases fc with ⟨o1,τ,o2,y4,y5,y6,y7,rfl⟩|⟨o1,τ,o2⟩
 .refine .inl ⟨o1,?_⟩;rw[ybe]at o2;unfold Gk
  simp![key,o2]
  rfl
 .refine .inr ⟨o1,?_⟩;unfold Gk
  simp![key,o2]
abbrev Lb:Stmt:=AY 32
def Oi:AA->Option Rs :=
 (CJ (AE (A7 GH (AE (AB 0) AF)) (AE (A7 K4 (AE (AB 1) (AE (AB 0) AF))) AF)))
def Oh:AA->Option Rs :=
 (A7 K5 (AE (AB 2) (AE (AB 0) (AE (AB 1) AF))))
def J9:AA->Option Out :=
 (AG (Ad (A7 Kb (AE (AB 0) AF)) (AD 1))
 (AG (Ad (BP 1 [0] (An (AB 1)) (AD 0) (mC (.bl true)) Oi) (AD 2))
 (AG (Ad (BP 2 [0] (An (A7 Gk (AE (AB 0) (AE (AB 1) AF)))) (Aa 2 (AK (AD 0) (AK (AD 1) Ac))) (mC (.bl true)) Oh) (AD 3))
 (A8 (E5 GI [] (AE (A7 Gq (AE (AB 0) AF)) (AE (AB 2) (AE (AB 3) AF))))))))
def Eh:List T->Option Ru:=Am 1 4 J9
abbrev Nv:Fn:=⟨8,["machines"],Eh⟩
abbrev zcp:Gx:=⟨[],[],[],[("Machine",OO,[(3,[])])],false,true,true,none,[],[],[],true,[],[],[],[],[],[]⟩
abbrev Th:Gm:=⟨["machines","takings","rooms","doors"],(AL Lb).names,["machines"],7,[("checked_takings",OE),("whole_name",Hr),("whole_stay",Nt),("whole_ways",Nr),("whole_door",Nu),("all_watches",Jx)],[],[],[],[],false,[],[],[],zcp⟩
theorem zce:FnScope Th.N Nv.ps (AL Lb):=Aq (by decide +kernel)
theorem zct:Ag 200 Th (A9 Lb)=some J9:=by ext
theorem QD:∀(rss ts:List (List Str)) (u v:List Str),u∈ts->v.length=rss.length->(∀(i:Nat) (r:Str),v[i]?=some r->∃rs,rss[i]?=some rs/\r∈rs)->u++v∈rss.foldl Bc ts
 |[],ts,u,[],hu,_,_=>by rw[yaw];exact hu
 |[],_,_,_::_,_,h,_=>by cases h
 |_::_,_,_,[],_,h,_=>by cases h
 |rs::rss,ts,u,r::v,hu,hl,hv=>by
  obtain⟨rs',e,hr⟩:=hv 0 r rfl;cases e;have:=QD rss (Bc ts rs) (u++[r]) v (yb0.mpr ⟨u,hu,yag.mpr ⟨r,hr,rfl⟩⟩) (by simpa using hl) λi x e=>by simpa using hv (i+1) x (by simpa using e)
  rw[ybq]at this;exact this
theorem zk1{rss:List (List Str)}{t:List Str}(hl:t.length=rss.length)(h:∀(i:Nat) (r:Str),t[i]?=some r->∃rs,rss[i]?=some rs/\r∈rs):t∈BN rss:=QD rss [[]] [] t (yaa.mpr rfl) hl h
theorem QC:∀(rss ts:List (List Str)),ts≠[]->(∀rs∈rss,rs≠[])->rss.foldl Bc ts≠[]
 |[],_,h,_=>h
 |rs::rss,ts,h,hr=>by
  refine QC rss (Bc ts rs) (λz=>?_) λx hx=>hr x (ya6 _ hx)
  obtain⟨t,ht⟩:=List.exists_mem_of_ne_nil ts h;obtain⟨r,hr'⟩:=List.exists_mem_of_ne_nil rs (hr rs (ya7 ..));have:t++[r]∈Bc ts rs:=yb0.mpr ⟨t,ht,yag.mpr ⟨r,hr',rfl⟩⟩;rw[z]at this;cases this
def Al(Ms:List Mc):Mc:=⟨Ms.flatMap Mc.ws,(Ah Ms).map λt=>(BL t,DF Ms t),(Ct (Af Ms) (Ah Ms)).map (GO (Af Ms))⟩
structure FwOk(Ms:List Mc):Prop where
 y:∀M∈Ms,∀r∈M.rs,r.2.length<=100
 g:∀M∈Ms,∀d∈M.ds,d.g.length<=100
 n:∀M∈Ms,∀d∈M.ds,d.n.length<=40
theorem zh1{M:Mc}(hy:∀r∈M.rs,r.2.length<=100)(r:Str):(CH M r).length<=100:=by
 unfold CH;cases hf:M.rs.find? (λx=>decide (x.1=r)) with
 |none=>exact yba _
 |some x=>exact hy x (ycw hf)
theorem zjv{Ms:List Mc}(hd:(Ms.flatMap Mc.ws).Nodup){i j:Nat}{M N:Mc}(h1:Ms[i]?=some M)(h2:Ms[j]?=some N)(hij:i≠j){x y:Str}(hx:x∈M.ws)(hy:y∈N.ws):x≠y:=by
 have:=(ydd.mp hd).2;obtain⟨i1,rfl⟩:=ya5.mp h1;obtain⟨j1,rfl⟩:=ya5.mp h2
 rcases Nat.lt_or_gt_of_ne hij with h|h
 .exact List.pairwise_iff_getElem.mp this i j i1 j1 h x hx y hy
 .exact λz=>List.pairwise_iff_getElem.mp this j i j1 i1 h y hy x hx z.symm
theorem Pk{Ms:List Mc}(h:MsOk Ms)(hr:RmOk Ms)(hf:FwOk Ms)(hw:(Ct (Af Ms) (Ah Ms)).length<=200):McOk (Al Ms):=by
 have hin:∀M∈Ms,∀x∈M.ws,x∈Ms.flatMap Mc.ws:=λM hM x hx=>yb0.mpr ⟨M,hM,hx⟩
 have en:(Al Ms).rs.map (·.1)=(Ah Ms).map BL:=by unfold Al;rw[yap];rfl
 refine⟨λx hx=>?_,h.wd,h.wl,⟨?_,?_,λr hr'=>?_,by rw[en];exact hr.d,λr hr'=>?_⟩,λd hd=>?_,by unfold Al;rw[ya1];exact hw⟩
 .obtain⟨M,hM,hx⟩:=yb0.mp hx;exact(h.m M hM).w x hx
 .show 1<=((Ah Ms).map _).length;rw[ya1];refine ydo.mpr (QC _ _ (by simp) λrs hrs=>?_)
  obtain⟨M,hM,rfl⟩:=yag.mp hrs;have:=(h.m M hM).r.l1;exact λz=>by unfold Mc.nm at z;rw[List.map_eq_nil_iff]at z;rw[z]at this;exact absurd this (by decide)
 .show((Ah Ms).map _).length<=64;rw[ya1];have:=hr.k Ms.length (ya8 _)
  rwa[ybg]at this
 .obtain⟨t,ht,rfl⟩:=yag.mp hr';exact hr.n t ht
 .obtain⟨t,ht,rfl⟩:=yag.mp hr';have key:=λ(x:Mc×Str) hx=>(Kp h hr ht (x:=x) hx)
  refine⟨λu hu=>?_,?_⟩
  .obtain⟨x,hx,hu⟩:=yb0.mp hu;obtain⟨k1,k2⟩:=key x hx;exact(Iv (h.m _ k1) k2).2.2.2.more (hin _ k1) u hu
  .have:=Ec (g:=λx:Mc×Str=>CH x.1 x.2) (m:=100) (L:=Ms.zip t) λx hx=>zh1 (hf.y _ (key x hx).1) _
   have zl:(Ms.zip t).length<=6:=by rw[List.length_zip];have:=h.l6;omega
   show((Ms.zip t).flatMap λx=>CH x.1 x.2).length<=1000
   omega
 .obtain⟨w,hwm,rfl⟩:=yag.mp hd;obtain⟨ht,i,k,hi,hk,hs,_⟩:=Ph hwm;obtain⟨g1,g2,g3⟩:=Nb hi hk hs;obtain⟨t1,t2,t3,t4⟩:=hr.t h ht;have at':=λp hp=>KG h.m g1 (p:=p) hp
  rw[en];refine⟨yag.mpr ⟨_,ht,rfl⟩,yag.mpr ⟨_,zk1 ?_ λi r e=>?_,rfl⟩,λu hu=>?_,?_,λx hx=>?_,?_,?_,.inl rfl⟩
  .rw[O0,t1,ya1]
  .rcases OZ _ _ _ i r e with e|⟨p,hp,rfl,rfl⟩
   .obtain⟨M,e1,e2⟩:=t4 i r e;exact⟨M.nm,by rw[ya4,e1];rfl,e2⟩
   .obtain⟨M,hM,e1,_,kk⟩:=at' p hp;exact⟨M.nm,by rw[ya4,e1];rfl,kk.e⟩
  .obtain⟨p,hp,hu⟩:=yb0.mp hu;obtain⟨M,hM,_,_,kk⟩:=at' p hp;exact kk.g.more (hin M hM) u hu
  .have:=Ec (g:=λp:Nat×Nat=>(Az (Af Ms) p.1 p.2).g) (m:=100) (L:=w.1) λp hp=>by
    obtain⟨M,hM,_,e2,_⟩:=at' p hp;exact hf.g M hM _ (yak e2)
   show(FJ (Af Ms) w.1).length<=1000;unfold FJ
   omega
  .obtain⟨p,hp,hx⟩:=yb0.mp hx;obtain⟨M,hM,_,_,kk⟩:=at' p hp;exact hin M hM x (kk.n x hx)
  .show(EJ (Af Ms) w.1).Nodup;unfold EJ
   rcases g3 with e|⟨j,m,hj,e⟩
   .rw[e]at at' ⊢;obtain⟨M,hM,_,_,kk⟩:=at' (i,k) (yaa.mpr rfl)
    simpa using kk.nd
   .rw[e]at at' ⊢;obtain⟨M,hM,e1,_,kk⟩:=at' (i,k) (ya7 ..);obtain⟨N,hN,e2,_,kk2⟩:=at' (j,m) (ya6 _ (yaa.mpr rfl));rw[ybc,ybc,ybt,yaw];exact List.nodup_append.mpr ⟨kk.nd,kk2.nd,λx hx y hy=>zjv h.wd e1 e2 (yb1 hj) (kk.n x hx) (kk2.n y hy)⟩
  .have:=Ec (g:=λp:Nat×Nat=>(Az (Af Ms) p.1 p.2).n) (m:=40) (L:=w.1) λp hp=>by
    obtain⟨M,hM,_,e2,_⟩:=at' p hp;exact hf.n M hM _ (yak e2)
   show(EJ (Af Ms) w.1).length<=100;unfold EJ
   omega
theorem zjz{Ms:List Mc}(h:MsOk Ms)(hr:RmOk Ms)(hf:FwOk Ms):((Ct (Af Ms) (Ah Ms)).length<=200/\Eh [.lst (Ms.map AI)]=some (.ok (AI (Al Ms))))\/(200<(Ct (Af Ms) (Ah Ms)).length/\Eh [.lst (Ms.map AI)]=some (.exc "TooMany")):=by
 have sm:=EM h.m;have ct:=ct_ok h hr;have st:=GS (Ah Ms);have l64:(Ah Ms).length<=64:=by have:=hr.k Ms.length (ya8 _);rwa[ybg]at this
 have ll:(Ah Ms).length<=100000:=by omega
 have ss:∀t∈Ah Ms,A5 (DF Ms t)=true:=λt ht=>by
  rw[Bs,yas];intro u hu;obtain⟨x,hx,hu⟩:=yb0.mp hu;obtain⟨k1,k2⟩:=Kp h hr ht hx;have:=(Iv (h.m _ k1) k2).2.1;rw[Bs,yas]at this;exact this u hu
 have Cy:BK (AD 0) (mC (.bl true)) Oi ((Ah Ms).map A3) [none,some (.lst (Ms.map AI))]=some ((Ah Ms).map λt=>AZ (BL t,DF Ms t)):=C4 A3 (λt=>AZ (BL t,DF Ms t)) (λτ=>∃a,τ=[a,some (.lst (Ms.map AI))]) _ _ ⟨none,rfl⟩ λt ht τ hI=>by
  obtain⟨a,rfl⟩:=hI;obtain⟨_,k1,k2,_⟩:=hr.t h ht;have w1:=IM (o:=false) k1 k2;have w2:=zju h hr ht;exact⟨[some (A3 t),some (.lst (Ms.map AI))],by simp![],by unfold Oi;simp![sm,AJ _ sm,AV,A4,w1,w2,AJ _ (ss t ht)],_,rfl⟩
 have er:(Ah Ms).map (λt=>AZ (BL t,DF Ms t))=(Al Ms).rs.map AZ:=by unfold Al;rw[yap];rfl
 rw[er]at Cy
 have sr:A5 ((Al Ms).rs.map AZ)=true:=Ck λr hr'=>by
  obtain⟨t,ht,rfl⟩:=yag.mp hr'
  simp![ss t ht]
 rcases ww_ok h hr with ⟨w1,w2⟩|⟨w1,w2⟩
 .have ok:=Pk h hr hf w1;have mi:GI [.lst ((Al Ms).ws.map T.str),Dg (Al Ms).rs,.lst ((Al Ms).ds.map AM)]=some (.ok (AI (Al Ms))):=Sh ok;have aw:Gq [.lst (Ms.map AI)]=some (.ok (.own ((Al Ms).ws.map T.str))):=VO h.m (by have:=h.wl;omega)
  have sw:=Ck (f:=DE) (L:=Ct (Af Ms) (Ah Ms)) λw _=>Kq w
  have Dq:BK (Aa 2 (AK (AD 0) (AK (AD 1) Ac))) (mC (.bl true)) Oh ((Ct (Af Ms) (Ah Ms)).map DE) [none,none,some (.lst (Ms.map AI))]=some ((Al Ms).ds.map AM):=by
   have e0:(Al Ms).ds.map AM=(Ct (Af Ms) (Ah Ms)).map λw=>AM (GO (Af Ms) w):=by unfold Al;rw[yap];rfl
   rw[e0]
   exact C4 DE (λw=>AM (GO (Af Ms) w)) (λτ=>∃a b,τ=[a,b,some (.lst (Ms.map AI))]) _ _ ⟨none,none,rfl⟩ λw hw τ hI=>by
    obtain⟨a,b,rfl⟩:=hI;obtain⟨ht,i,k,hi,hk,hs,_⟩:=Ph hw;obtain⟨g1,g2,_⟩:=Nb hi hk hs;have wd:=wd_ok h hr ht g1 g2;exact⟨[some (C9 w.1),some (A3 w.2),some (.lst (Ms.map AI))],by simp![],by unfold Oh;simp![sm,AJ _ sm,AV,A4,Ez,GY,wd],_,_,rfl⟩
  have l2:(Ct (Af Ms) (Ah Ms)).length<=100000:=by omega
  have sd:=ok.sd;refine .inl ⟨w1,?_⟩;unfold Eh J9
  simp![sm,AJ _ sm,ct,st,AJ _ st,ya1,ll,Cy,sr,AJ _ sr,w2,sw,AJ _ sw,l2,Dq,sd,AJ _ sd,aw,A4,AV,mi]
 .refine .inr ⟨w1,?_⟩;unfold Eh J9
  simp![sm,AJ _ sm,ct,st,AJ _ st,ya1,ll,Cy,sr,AJ _ sr,w2]
abbrev MA:Stmt:=AY 47
def IU:AA->Option Out :=
 (Ar (m2 Ba (AB 1) (BO AF)) (AG (Ad (m2 B3 (m2 DB (AB 0) (m2 B5 (mC (.int 3)) (m2 Dm (mC (.int 4)) (AB 4)))) (mC (.int 1000003))) (AD 5))
 (Df 3 (CJ (AE (BA (AB 1) (m2 B3 (AB 5) (m1 Bh (AB 1)))) (AE (BA (BO (CK (mC (.str "<")) (CK (mC (.str "<=")) AF))) (m2 B3 (m2 DB (AB 5) (mC (.int 7))) (mC (.int 2)))) (AE (m2 B5 (m2 Dm (m2 B3 (m2 DB (AB 5) (mC (.int 14))) (mC (.int 4))) (AB 2)) (m2 B3 (m2 DB (AB 5) (mC (.int 56))) (mC (.int 3)))) AF)))))) Ap)
def NI:AA->Option Out :=
 (AG (CI 3 (BO AF))
 (AG (BX (Cd (AE (m2 B3 (AB 0) (mC (.int 3))) AF)) (AD 4) IU)
 (A8 (AB 3))))
def Kj:List T->Option Ru:=Am 3 6 NI
abbrev OQ:Fn:=⟨1,["_law_number","_law_watches","_law_unit"],Kj⟩
abbrev UK:Gm:=⟨["_law_number","_law_watches","_law_unit","_law_looks","_law_k","_law_one"],(AL MA).names,[],0,[],["range","len"],[],["_law_looks"],[],false,[],[],[],CF⟩
theorem zfc:FnScope UK.N OQ.ps (AL MA):=Aq (by decide +kernel)
theorem zgl:Ag 200 UK (A9 MA)=some NI:=by ext
theorem M6{α:Type}(l:List α)(hl:l≠[])(i:Int):∃x∈l,Ab l (i.fmod (l.length:Int))=some x:=by
 have hp:0<l.length:=ydo.mpr hl;have h0:=yb3 i (show(0:Int)<(l.length:Int) by omega)
 have h1:=ybn i (show(0:Int)<(l.length:Int) by omega)
 have h2:(i.fmod (l.length:Int)).toNat<l.length:=by omega
 exact⟨l[(i.fmod (l.length:Int)).toNat],yav h2,KR h0 (ya0 h2)⟩
theorem PX{α:Type}(f:α->T){l:List α}{i:Int}{x:α}(h:Ab l i=some x):Ab (l.map f) i=some (f x):=by
 unfold Ab at h ⊢;rw[ya1];cases hi:CU l.length i with
 |none=>rw[hi]at h;cases h
 |some j =>
  rw[hi]at h;have h':l[j]?=some x:=h;show(l.map f)[j]?=some (f x);rw[ya4,h']
  rfl
theorem zmf{α:Type}{l:List α}(h:l≠[]):((l.length:Nat):Int)≠0:=λz=>h (yc1.mp (Int.ofNat.inj z))
theorem Qi{a b:Int}(h1:0<=a)(h2:a<=100)(h3:0<=b)(h4:b<=100):CZ (a+b)=true:=EC (Int.lt_of_lt_of_le (show(-(10 ^ 70):Int)<0 by decide +kernel) (Int.add_nonneg h1 h3)) (Int.lt_of_le_of_lt (Int.add_le_add h2 h4) (by decide +kernel))
theorem Ed{l:List Str}(h:Bf l):Fit (.lst (l.map T.str)) 1:=Fit.nd λt ht=>by
 obtain⟨x,hx,rfl⟩:=yag.mp ht;exact Fit.str (h x hx) 0
theorem zm6{l:List Str}(h:Bf l):Ba (.lst (l.map T.str)) (.lst [])=some (.bl (!decide (l=[]))):=by
 cases l with
 |nil=>rfl
 |cons a r =>
  rw[(U6 (Ed h) (Fit.nd (o:=false) (k:=.lst) (l:=[]) (n:=0) λ_ z=>by cases z) (by decide)).2,yea (ye9 a r)]
  have e:¬ ((T.lst ((a::r).map T.str)).data=(T.lst []).data):=λz=>by
   have z':PyData.list (BV ((a::r).map T.str))=PyData.list (BV []):=z;injection z' with z'
   cases z'
  rw[@decide_eq_false _ (Classical.propDecidable _) e]
def Eg(x:Str):Prop:=Ef x/\1<=x.cps.size/\x.cps.size<=8
theorem zh5{x:Str}(h:Eg x):Dd x:=.inr h
theorem zh3{x:Str}(h:Ef x):Gj x:=λi hi=>.inr (h i hi)
def C1(c:Int)(a n:Nat):List Str:=(List.range' a n).map (Au c)
theorem zm3(c:Int)(k:Nat):Eg (Au c k):=by
 refine⟨λi hi=>?_,zm4 c k,zii c k⟩
 refine zm5 c k _ ?_;show(Au c k).cps.getD i 0∈(Au c k).cps.toList;rw[ybw,yb2 hi];exact Array.getElem_mem_toList hi
theorem M3{c:Int}{a n:Nat}{x:Str}(h:x∈C1 c a n):Eg x:=by
 obtain⟨k,_,rfl⟩:=yag.mp h;exact zm3 c k
theorem ze7{c:Int}{l:List Nat}(h:l.Nodup)(hl:∀k∈l,k<26):(l.map (Au c)).Nodup:=by
 refine ye2.mpr (h.imp_of_mem λ{a b} ha hb hab e=>hab (zg4 (hl a ha) (hl b hb) e))
theorem zdx(a n:Nat):(List.range' a n).Nodup:=List.nodup_range'
theorem M4{c:Int}{a n:Nat}(h:a+n<=26):(C1 c a n).Nodup:=ze7 (zdx a n) λk hk=>by
 have:=(List.mem_range'_1.mp hk)
 omega
theorem J6(c:Int)(a n:Nat):(C1 c a n).length=n:=by unfold C1;rw[ya1,List.length_range']
theorem zn4(c:Int){a n:Nat}(h:a+n<=26):Bv (((List.range 26).map (Au c)).map T.str) (some (a:Int)) (some ((a:Int)+(n:Int)))=(C1 c a n).map T.str:=by
 rw[Uy,Uy];unfold C1
 congr 2
 unfold Bv;have e1:HT.sIx (List.range 26).length 0 (some (a:Int))=a:=by rw[yb9];simp[HT.sIx];omega
 have e2:HT.sIx (List.range 26).length (List.range 26).length (some ((a:Int)+(n:Int)))=a+n:=by rw[yb9];simp[HT.sIx];omega
 rw[e1,e2];refine yd6 λi=>?_
 by_cases hi:i<n
 .rw[ycy (by omega),yd0,yc3 (by omega),List.getElem?_range' hi]
  simp
 .rw[yb6 (by rw[ybp];omega),yb6 (by rw[List.length_range'];omega)]
theorem QE(ts:List (List Str))(rs:List Str):(Bc ts rs).length=ts.length * rs.length:=by
 unfold Bc
 induction ts with
 |nil=>rw[ybt,yb4,Nat.zero_mul]
 |cons t ts ih=>rw[ybc,yac,ih,ya1,yao,ydq,ydr,Nat.add_comm]
theorem zg3(c:Int):(mT 26 λk=>T.str (Au c k))=((List.range 26).map (Au c)).map T.str:=by rw[yap];rfl
theorem zgv(a b:List (List Str)):BN (a++b)=b.foldl Bc (BN a):=by unfold BN;rw[ye1]
theorem UX:∀(rss ts:List (List Str)),(∀rs∈rss,rs≠[])->ts.length<=(rss.foldl Bc ts).length
 |[],_,_=>ya8 _
 |rs::rss,ts,h=>by
  refine yaf ?_ (UX rss (Bc ts rs) λx hx=>h x (ya6 _ hx))
  rw[QE];exact Nat.le_mul_of_pos_right _ (ydo.mpr (h rs (ya7 ..)))
theorem zgw{ts:List (List Str)}{rs:List Str}(h1:ts.Nodup)(h2:rs.Nodup):(Bc ts rs).Nodup:=by
 unfold Bc;refine ydd.mpr ⟨λt _=>ye2.mpr (h2.imp λ{a b} hab e=>hab ?_),h1.imp λ{a b} hab x hx y hy e=>hab ?_⟩
 .have:=List.append_cancel_left e;injection this
 .obtain⟨r,_,rfl⟩:=yag.mp hx;obtain⟨r',_,rfl⟩:=yag.mp hy;exact(List.append_inj' e rfl).1
theorem UW:∀(rss ts:List (List Str)),ts.Nodup->(∀rs∈rss,rs.Nodup)->(rss.foldl Bc ts).Nodup
 |[],_,h,_=>h
 |rs::rss,ts,h,hr=>UW rss (Bc ts rs) (zgw h (hr rs (ya7 ..))) λx hx=>hr x (ya6 _ hx)
theorem Ji(t:List Str):Tx.cs (BL t)=Tx.joinL 47 (t.map Tx.cs):=by
 have e:(Str.ofString "/")=⟨#[47]⟩:=Tx.cs_ext (by decide +kernel)
 have j:BL t=Str.join (Str.ofString "/") t:=eq_of_beq (PyProof.Rows.join_plain_closes _ _);rw[j,e,Tx.cs_join]
theorem TX{c x:Nat}:∀{l:List (List Nat)},x∈Tx.joinL c l->x=c\/∃p∈l,x∈p
 |[],h=>by cases h
 |[a],h=>.inr ⟨a,yaa.mpr rfl,h⟩
 |a::b::r,h=>by
  have h':x∈a++c::Tx.joinL c (b::r):=h
  rcases ybb.mp h' with h'|h'
  .exact .inr ⟨a,ya7 ..,h'⟩
  .rcases yai.mp h' with h'|h'
   .exact .inl h'
   .rcases TX h' with h'|⟨p,hp,h'⟩
    .exact .inl h'
    .exact .inr ⟨p,ya6 _ hp,h'⟩
theorem TY{c m:Nat}:∀{l:List (List Nat)},(∀p∈l,p.length<=m)->(Tx.joinL c l).length<=l.length * (m+1)
 |[],_=>yba _
 |[a],h=>by
  have:=h a (yaa.mpr rfl);show a.length<=1 * (m+1)
  omega
 |a::b::r,h=>by
  have h1:=h a (ya7 ..);have h2:=TY (c:=c) (l:=b::r) λp hp=>h p (ya6 _ hp)
  show(a++c::Tx.joinL c (b::r)).length<=_;rw[yac,yao,yao (a:=a),ydq,ydr]
  omega
theorem Qa{x:Str}(h:Eg x):∀c∈Tx.cs x,c≠47:=λc hc z=>by
 have:=HP h.1 c hc
 omega
theorem jn_ok{t:List Str}(h0:t≠[])(hl:t.length<=6)(h:∀r∈t,Eg r):Gj (BL t)/\1<=(BL t).cps.size/\(BL t).cps.size<=60:=by
 have sz:(BL t).cps.size=(Tx.joinL 47 (t.map Tx.cs)).length:=by rw[<- Ji];rfl
 refine⟨λi hi=>?_,?_,?_⟩
 .have hm:(BL t).cps.getD i 0∈Tx.cs (BL t):=by
   rw[ybw,yb2 hi];exact Array.getElem_mem_toList hi
  rw[Ji]at hm
  rcases TX hm with hm|⟨p,hp,hm⟩
  .exact .inl hm
  .obtain⟨r,hr,rfl⟩:=yag.mp hp;exact .inr (HP (h r hr).1 _ hm)
 .rw[sz];cases t with
  |nil=>exact absurd rfl h0
  |cons a r =>
   have ha:1<=(Tx.cs a).length:=(h a (ya7 ..)).2.1;cases r with
   |nil=>exact ha
   |cons b r =>
    show 1<=(Tx.cs a++47::Tx.joinL 47 ((b::r).map Tx.cs)).length;rw[yac]
    omega
 .rw[sz]
  have:=TY (c:=47) (m:=8) (l:=t.map Tx.cs) λp hp=>by
   obtain⟨r,hr,rfl⟩:=yag.mp hp;exact(h r hr).2.2
  rw[ya1]at this
  omega
theorem zmp{t u:List Str}(ht:t≠[])(hu:u≠[])(h1:∀r∈t,Eg r)(h2:∀r∈u,Eg r)(e:BL t=BL u):t=u:=by
 have e':=congrArg Tx.cs e;rw[Ji,Ji]at e';refine Tx.map_cs_inj (Tx.joinL_inj (by simpa using ht) (by simpa using hu) (λp hp z=>?_) (λp hp z=>?_) e')
 .obtain⟨r,hr,rfl⟩:=yag.mp hp;exact Qa (h1 r hr) 47 z rfl
 .obtain⟨r,hr,rfl⟩:=yag.mp hp;exact Qa (h2 r hr) 47 z rfl
theorem zn3{α:Type}(l:List α)(k:Nat):Bv l none (some (k:Int))=l.take k:=by
 unfold Bv;rw[HT.sIx_none,HT.sIx_nat,List.drop_zero,Nat.sub_zero]
 by_cases h:k<=l.length
 .rw[Nat.min_eq_left h]
 .rw[Nat.min_eq_right (by omega),ycn (ya8 _),ycn (by omega)]
theorem Uz{α:Type}(l:List α){k:Nat}(h:k<=l.length):Bv l (some (k:Int)) none=l.drop k:=by
 unfold Bv;rw[HT.sIx_none,HT.sIx_nat,Nat.min_eq_left h];refine ycn ?_;rw[List.length_drop]
 omega
theorem zh2{ws:List Str}(tw:Bf ws)(x u:Int)(hu:0<=u):∃g:List T,DC ws Ep g/\g.length<=2/\Kj [.int x,.lst (ws.map T.str),.int u]=some (.ok (.own g)):=by
 have hne:=zm6 tw;obtain⟨q,hq⟩:=ybo (yb3 x (show(0:Int)<3 by decide))
 have hq3:=ybn x (show(0:Int)<3 by decide)
 rw[hq]at hq3
 obtain⟨τ,e,g,hl,hg,y4,y5,rfl⟩:=DZ (b:=AD 4) (body:=IU) (ts:=mT q λi=>.int (i:Int)) (τ:=[some (.int x),some (.lst (ws.map T.str)),some (.int u),some (.own []),none,none])
  (λi τ=>∃g:List T,g.length<=i/\DC ws Ep g/\∃y4 y5,τ=[some (.int x),some (.lst (ws.map T.str)),some (.int u),some (.own g),y4,y5]) ⟨[],ya8 0,λ_ z=>(by cases z),none,none,rfl⟩ λi t τ h1 h2=>by
   obtain⟨hi,rfl⟩:=Fq h1;obtain⟨g,hl,hg,y4,y5,rfl⟩:=h2
   by_cases h0:ws=[]
   .refine⟨[some (.int x),some (.lst (ws.map T.str)),some (.int u),some (.own g),some (.int (i:Int)),y5],(by simp![]),[some (.int x),some (.lst (ws.map T.str)),some (.int u),some (.own g),some (.int (i:Int)),y5],?_,g,Nat.le_succ_of_le hl,hg,_,_,rfl⟩
    rw[yer h0]at hne;unfold IU
    simp![A4,AV,hne]
   .rw[yea h0]at hne;have m4:DM 4 (i:Int)=true:=G1 (Ew (by decide) (by decide))
    have n0:(3+4 * (i:Int)=0)=False:=eq_false (by omega)
    have s0:CZ (3+4 * (i:Int))=true:=Qi (by decide) (by decide) (by lia) (by lia)
    obtain⟨b,hb⟩:∃b,(x.fdiv (3+4 * (i:Int))).fmod 1000003=b:=⟨_,rfl⟩;obtain⟨w,hw,ew⟩:=M6 ws h0 b;obtain⟨o,ho,eo⟩:=M6 Ep (by decide) (b.fdiv 7)
    have ew':=PX T.str ew;have eo':Ab [T.str "<",T.str "<="] ((b.fdiv 7).fmod 2)=some (.str o):=PX T.str eo;have l0:=zmf h0;have s7:CZ 7=true:=EC (by decide) (by decide)
    have s14:CZ 14=true:=EC (by decide) (by decide)
    have s56:CZ 56=true:=EC (by decide) (by decide)
    have r0:=yb3 (b.fdiv 14) (show(0:Int)<4 by decide)
    have r1:=ybn (b.fdiv 14) (show(0:Int)<4 by decide)
    have r2:=yb3 (b.fdiv 56) (show(0:Int)<3 by decide)
    have m5:DM ((b.fdiv 14).fmod 4) u=true:=G1 (Ew (by omega) (by omega))
    have nn:0<=(b.fdiv 14).fmod 4 * u+(b.fdiv 56).fmod 3:=Int.add_nonneg (Int.mul_nonneg r0 hu) r2;have ll:g.length<100000:=by omega
    refine⟨[some (.int x),some (.lst (ws.map T.str)),some (.int u),some (.own g),some (.int (i:Int)),y5],(by simp![]),[some (.int x),some (.lst (ws.map T.str)),some (.int u),some (.own (g++[.tup [.str w,.str o,.int ((b.fdiv 14).fmod 4 * u+(b.fdiv 56).fmod 3)]])),some (.int (i:Int)),some (.int b)],?_,_,(by rw[yac,ybi];exact ye3 hl),λt ht=>?_,_,_,rfl⟩
    .unfold IU
     simp![A4,AV,hne,m4,n0,s0,hb,ya1,l0,s7,s14,s56,ew',eo',m5,ll]
    .rcases ybb.mp ht with ht|ht
     .exact hg t ht
     .rw[yaa.mp ht];exact⟨w,o,_,rfl,hw,ho,nn⟩
 rw[Cc]at hl;have ok:DL (q:Int)=true:=Fi (by omega)
 have er:DJ 0 q=mT q λi=>.int (i:Int):=EZ
 refine⟨g,hg,by omega,?_⟩
 unfold Kj NI
 simp![hq,ok,er,e,A4,AV]
abbrev MC:Stmt:=AY 48
def PK:AA->Option Rs :=
 (CJ (AE (BA (AB 2) (m2 B5 (AB 1) (AB 0))) (AE (A7 Kj (AE (BA (AB 5) (m2 B5 (mC (.int 4)) (AB 0))) (AE (AB 4) (AE (AB 3) AF)))) AF)))
def IV:AA->Option Out :=
 (AG (Ad (A7 Gr (AE (m2 B5 (A7 Ej (AE (AB 0) (AE (m2 B5 (mC (.int 3)) (AB 6)) AF))) (AB 6)) (AE (mC (.int 9)) AF))) (AD 7))
 (AG (Ad (Bu (DO (AB 4) none (some (m2 B3 (BA (AB 7) (mC (.int 0))) (mC (.int 3))))) (DN (AB 4) none (some (m2 B3 (BA (AB 7) (mC (.int 0))) (mC (.int 3)))))) (AD 8))
 (AG (Ad (Bu (DO (AB 4) (some (m1 Bh (AB 8))) none) (DN (AB 4) (some (m1 Bh (AB 8))) none)) (AD 4))
 (AG (Ad (m2 B5 (mC (.int 1)) (m2 B3 (BA (AB 7) (mC (.int 1))) (m2 Hf (mC (.int 4)) (AB 5)))) (AD 9))
 (AG (Ad (m2 DB (AB 5) (AB 9)) (AD 5))
 (AG (Ad (BA (BO (CK (mC (.int 0)) (CK (m2 B3 (m2 Dm (mC (.int 3)) (AB 6)) (mC (.int 8))) (CK (m2 B3 (BA (AB 7) (mC (.int 2))) (mC (.int 8))) AF)))) (m2 B3 (BA (AB 7) (mC (.int 3))) (mC (.int 3)))) (AD 10))
 (AG (Ad (BP 1 [10,1,2,8,7] (Cd (AE (AB 9) AF)) (AD 0) (mC (.bl true)) PK) (AD 11))
 (Df 3 (CJ (AE (AB 8) (AE (AB 11) (AE (m2 B3 (BA (AB 7) (mC (.int 8))) (mC (.int 3))) AF))))))))))))
def KO:AA->Option Rs :=
 (CJ (AE (AB 0) (AE (AB 1) (AE (mC (.int 0)) AF))))
def Jd:AA->Option Out :=
 (AG (Ad (A7 IH (AE (A7 Ej (AE (AB 0) (AE (mC (.int 0)) AF))) (AE (mC (.int 26)) AF))) (AD 1))
 (AG (Ad (m2 B5 (mC (.int 1)) (m2 B3 (A7 Ej (AE (AB 0) (AE (mC (.int 1)) AF))) (m2 Ff (mC (.int 10)) (mC (.int 40))))) (AD 2))
 (AG (CI 3 (BO AF))
 (AG (Ad (Bu (DO (AB 1) (some (mC (.int 12))) (some (mC (.int 19)))) (DN (AB 1) (some (mC (.int 12))) (some (mC (.int 19))))) (AD 4))
 (AG (Ar (m2 Bm (m2 B3 (m2 DB (A7 Ej (AE (AB 0) (AE (mC (.int 2)) AF))) (mC (.int 7))) (mC (.int 3))) (mC (.int 1))) (Ad (m2 B5 (BO (CK (mC (.str "/")) AF)) (Bu (DO (AB 4) (some (mC (.int 1))) none) (DN (AB 4) (some (mC (.int 1))) none))) (AD 4)) Ap)
 (AG (Ad (mC (.int 64)) (AD 5))
 (AG (BX (Cd (AE (m2 B5 (mC (.int 1)) (m2 B3 (A7 Ej (AE (AB 0) (AE (mC (.int 2)) AF))) (mC (.int 5)))) AF)) (AD 6) IV)
 (AG (Ar (m2 (CN λi j=>decide (i<j)) (AB 5) (mC (.int 5))) (AG (DH 3) (A8 (BP 3 [] (An (AB 3)) (Aa 3 (AK (AD 0) (AK (AD 1) (AK (AD 2) Ac)))) (mC (.bl true)) KO))) Ap)
 (A8 (AB 3))))))))))
def IG:List T->Option Ru:=Am 1 12 Jd
abbrev OS:Fn:=⟨2,["_law_script"],IG⟩
abbrev UM:Gm:=⟨["_law_script","_law_names_here","_law_unit","_law_parts_here","_law_free","_law_left","_law_k","_law_xs","_law_watches","_law_many","_law_first","_law_rooms_here"],(AL MC).names,["_law_names_here","_law_unit","_law_xs","_law_watches","_law_first"],1,[("_law_names",OT),("_law_cell_at",OV),("_law_stream",OP),("_law_stay",OQ)],["range","len","min"],[],["_law_parts_here"],[],false,[],[],[],CF⟩
theorem zdv:FnScope UM.N OS.ps (AL MC):=Aq (by decide +kernel)
theorem zel:Ag 200 UM (A9 MC)=some Jd:=by ext
structure Pt where
 ws:List Str
 rs:List (Str×List T)
 dn:Nat
abbrev AU(P:Pt):T:=.tup [.lst (P.ws.map T.str),.lst (P.rs.map AZ),.int (P.dn:Int)]
def Pt.nm(P:Pt):List Str:=P.rs.map (·.1)
structure PtOk(P:Pt):Prop where
 w:∀x∈P.ws,Dd x
 wl:P.ws.length<=2
 r:∀x∈P.nm,Eg x
 rd:P.nm.Nodup
 r0:1<=P.rs.length
 rl:P.rs.length<=4
 y:∀r∈P.rs,DC P.ws Ep r.2/\r.2.length<=2
 d:P.dn<=2
theorem PtOk.sr{P:Pt}(h:PtOk P):A5 (P.rs.map AZ)=true:=Ck λr hr=>by
 have:=(h.y r hr).1.sh
 simp![this]
theorem pt_sh{P:Pt}(h:PtOk P):(AU P).sh=true:=by
 have:=h.sr
 simp![this,AV]
theorem MV{Ps:List Pt}(h:∀P∈Ps,PtOk P):A5 (Ps.map AU)=true:=Ck λP hP=>pt_sh (h P hP)
structure PsI(F:List Str)(i:Nat)(Ps:List Pt)(fr:List Str)(lf:Nat):Prop where
 l:Ps.length=i
 p:∀P∈Ps,PtOk P
 w:Ps.flatMap Pt.ws++fr=F
 t:lf * (BN (Ps.map Pt.nm)).length<=64
 l1:1<=lf
theorem zdo(fr:List Str)(a:Nat):fr.take a++fr.drop (fr.take a).length=fr:=by
 rw[ybp]
 by_cases h:a<=fr.length
 .rw[Nat.min_eq_left h,List.take_append_drop]
 .rw[Nat.min_eq_right (by omega),ycn (by omega),List.drop_of_length_le (ya8 _),yaw]
theorem zfr{F:List Str}{i:Nat}{Ps:List Pt}{fr:List Str}{lf:Nat}(h:PsI F i Ps fr lf){P:Pt}(hp:PtOk P){a:Nat}(hw:P.ws=fr.take a)(hm:P.rs.length<=lf):PsI F (i+1) (Ps++[P]) (fr.drop P.ws.length) (lf / P.rs.length):=by
 have hpos:=hp.r0;refine⟨by rw[yac,h.l];rfl,λQ hQ=>?_,?_,?_,Nat.div_pos hm hpos⟩
 .rcases ybb.mp hQ with hQ|hQ
  .exact h.p Q hQ
  .rw[yaa.mp hQ];exact hp
 .rw[List.flatMap_append,ybq,ybc,ybt,yaw,hw,zdo];exact h.w
 .rw[yat,yae,yce,LL,QE,show P.nm.length=P.rs.length from ya1 _];have h1:=h.t;have h2:lf / P.rs.length * P.rs.length<=lf:=Nat.div_mul_le_self lf _;generalize (BN (Ps.map Pt.nm)).length=q at h1
  calc lf / P.rs.length * (q * P.rs.length)=lf / P.rs.length * P.rs.length * q:=by rw[Nat.mul_comm q,Nat.mul_assoc]
   _<=lf * q:=Nat.mul_le_mul_right q h2
   _<=64:=h1
abbrev sP(ns:List Int)(N:List T)(u:Int)(Ps:List Pt)(fr:List Str)(lf:Nat)(x6 x7 x8 x9 x10 x11:Option T):AA:=[some (B0 ns),some (.lst N),some (.int u),some (.own (Ps.map AU)),some (.lst (fr.map T.str)),some (.int (lf:Int)),x6,x7,x8,x9,x10,x11]
theorem zkd{ns:List Int}{c u:Int}(hu:0<=u){F:List Str}(hF:∀x∈F,Dd x){i:Nat}(hi:i<5){Ps:List Pt}{fr:List Str}{lf:Nat}(h:PsI F i Ps fr lf)(hl64:lf<=64){x7 x8 x9 x10 x11:Option T} :
  ∃P fr' lf' y7 y8 y9 y10 y11,lf'<=64/\PsI F (i+1) (Ps++[P]) fr' lf'/\IV (sP ns (((List.range 26).map (Au c)).map T.str) u Ps fr lf (some (.int (i:Int))) x7 x8 x9 x10 x11)=some (.nx (sP ns (((List.range 26).map (Au c)).map T.str) u (Ps++[P]) fr' lf' (some (.int (i:Int))) y7 y8 y9 y10 y11)):=by
 have ci:=KJ ns (k:=3+(i:Int)) (by omega)
 generalize ns.getD (3+(i:Int)).toNat 0=x at ci;obtain⟨xs,ex⟩:=st_ex (x+(i:Int)) (m:=9) (by decide)
 replace ex:Gr [.int (x+(i:Int)),.int 9]=some (.ok (.own (mT 9 λi=>.int (xs i)))):=ex
 have a0:Ab (mT 9 λi=>T.int (xs i)) 0=some (.int (xs 0)):=G4 (k:=0) (by decide)
 have a1:Ab (mT 9 λi=>T.int (xs i)) 1=some (.int (xs 1)):=G4 (k:=1) (by decide)
 have a2:Ab (mT 9 λi=>T.int (xs i)) 2=some (.int (xs 2)):=G4 (k:=2) (by decide)
 have a3:Ab (mT 9 λi=>T.int (xs i)) 3=some (.int (xs 3)):=G4 (k:=3) (by decide)
 have a8:Ab (mT 9 λi=>T.int (xs i)) 8=some (.int (xs 8)):=G4 (k:=8) (by decide)
 obtain⟨a,ea⟩:=ybo (yb3 (xs 0) (show(0:Int)<3 by decide))
 have ha:=ybn (xs 0) (show(0:Int)<3 by decide)
 rw[ea]at ha;have l1:=h.l1;have hmin:(if (lf:Int)<4 then (lf:Int) else 4)=((min 4 lf:Nat):Int):=by split<;>omega
 have mz:(((min 4 lf:Nat):Int)=0)=False:=eq_false (by omega)
 obtain⟨b,eb⟩:=ybo (yb3 (xs 1) (show(0:Int)<((min 4 lf:Nat):Int) by omega))
 have hb:=ybn (xs 1) (show(0:Int)<((min 4 lf:Nat):Int) by omega)
 rw[eb]at hb;obtain⟨d,ed⟩:=ybo (yb3 (xs 8) (show(0:Int)<3 by decide))
 have hd:=ybn (xs 8) (show(0:Int)<3 by decide)
 rw[ed]at hd
 obtain⟨f,hf,ef⟩:∃f:Nat,f<8/\Ab [T.int 0,T.int ((3 * (i:Int)).fmod 8),T.int ((xs 2).fmod 8)] ((xs 3).fmod 3)=some (.int (f:Int)):=by
  obtain⟨z,hz,ez⟩:=M6 [(0:Int),(3 * (i:Int)).fmod 8,(xs 2).fmod 8] (by simp) (xs 3)
  have ez':Ab [T.int 0,T.int ((3 * (i:Int)).fmod 8),T.int ((xs 2).fmod 8)] ((xs 3).fmod 3)=some (.int z):=PX T.int ez
  have hz8:0<=z/\z<8:=by
   simp only[yai,ybs,yew]at hz
   rcases hz with rfl|rfl|rfl
   .decide
   .exact⟨yb3 _ (by decide),ybn _ (by decide)⟩
   .exact⟨yb3 _ (by decide),ybn _ (by decide)⟩
  obtain⟨f,rfl⟩:=ybo hz8.1;exact⟨f,by omega,ez'⟩
 have hwF:∀x∈fr.take a,Dd x:=λx hx=>hF x (by rw[<- h.w];exact yal _ (List.mem_of_mem_take hx))
 have tw:Bf (fr.take a):=λx hx=>HD (hwF x hx)
 obtain⟨G,hG⟩:=Classical.axiomOfChoice λj:Nat=>zh2 tw (xs (4+j)) u hu
 let rs:List (Str×List T):=(List.range (1+b)).map λj=>(Au c (f+j),G j)
 have en:rs.map (·.1)=C1 c f (1+b):=by
  unfold C1;rw[yap,List.range'_eq_map_range,yap]
  rfl
 have rsl:rs.length=1+b:=by rw[ya1,yb9]
 let P:Pt:=⟨fr.take a,rs,d⟩;have hb4:1+b<=4:=by omega
 have hP:PtOk P:=⟨hwF,by rw[ybp];omega,λx hx=>M3 (c:=c) (a:=f) (n:=1+b) (by rw[<- en];exact hx),by show(rs.map (·.1)).Nodup;rw[en];exact M4 (by omega),by rw[rsl];omega,by rw[rsl];exact hb4,λr hr=>by
  obtain⟨j,_,rfl⟩:=yag.mp hr;exact⟨(hG j).1,(hG j).2.1⟩,by show d<=2;omega⟩
 have st:=zfr h hP (a:=a) rfl (by rw[rsl];omega)
 rw[rsl]at st
 have lc:BK (AD 0) (mC (.bl true)) PK ((List.range (1+b)).map λ(j:Nat)=>T.int (j:Int)) [none,some (.int (f:Int)),some (.lst (((List.range 26).map (Au c)).map T.str)),some (.int u),some (.lst ((fr.take a).map T.str)),some (.lst (mT 9 λi=>T.int (xs i)))]=some ((List.range (1+b)).map λj=>AZ (Au c (f+j),G j)):=C4 (λ(j:Nat)=>T.int (j:Int)) (λj=>AZ (Au c (f+j),G j)) (λτ=>∃o,τ=[o,some (.int (f:Int)),some (.lst (((List.range 26).map (Au c)).map T.str)),some (.int u),some (.lst ((fr.take a).map T.str)),some (.lst (mT 9 λi=>T.int (xs i)))]) _ _ ⟨none,rfl⟩ λj hj τ hI=>by
  obtain⟨o,rfl⟩:=hI;have hj:=ybh.mp hj;have g:=hG j;have sg:=g.1.sh;have g2:=g.2.2
  have an:Ab (((List.range 26).map (Au c)).map T.str) ((f:Int)+(j:Int))=some (.str (Au c (f+j))):=by
   rw[show(f:Int)+(j:Int)=((f+j:Nat):Int) by omega]
   exact Dw (by rw[ya4,ya4,yc3 (by omega)];rfl)
  have ax:Ab (mT 9 λi=>T.int (xs i)) (4+(j:Int))=some (.int (xs (4+j))):=by
   rw[show 4+(j:Int)=((4+j:Nat):Int) by omega]
   exact G4 (by omega)
  refine⟨[some (.int (j:Int)),some (.int (f:Int)),some (.lst (((List.range 26).map (Au c)).map T.str)),some (.int u),some (.lst ((fr.take a).map T.str)),some (.lst (mT 9 λi=>T.int (xs i)))],by simp![],?_,_,rfl⟩
  unfold PK
  simp![AV,A4,an,ax,g2,AJ _ sg]
 have er:(List.range (1+b)).map (λj=>AZ (Au c (f+j),G j))=rs.map AZ:=by rw[yap];rfl
 rw[er]at lc;have sr:A5 (rs.map AZ)=true:=hP.sr;have F1:=L3 ns;have F2:=L1 ns;have cut1:Bv (fr.map T.str) none (some (a:Int))=(fr.take a).map T.str:=by rw[zn3,ydy]
 have lw:((fr.take a).length:Int)=((fr.take a).length:Int):=rfl;have cut2:Bv (fr.map T.str) (some ((fr.take a).length:Int)) none=(fr.drop (fr.take a).length).map T.str:=by rw[Uz _ (by rw[ya1,ybp];omega),List.map_drop]
 have t1:CZ (1+(b:Int))=true:=Qi (by decide) (by decide) (by lia) (by lia)
 have b0:(1+(b:Int)=0)=False:=eq_false (by omega)
 have qd:(lf:Int).fdiv (1+(b:Int))=((lf / (1+b):Nat):Int):=by
  rw[Int.fdiv_eq_ediv_of_nonneg _ (by omega),show(1:Int)+(b:Int)=((1+b:Nat):Int) by omega]
  exact(Int.natCast_ediv lf (1+b)).symm
 have m3:DM 3 (i:Int)=true:=G1 (Ew (by decide) (by decide))
 have ok:DL (1+(b:Int))=true:=Fi (n:=1+b) (by omega)
 have tb:(1+(b:Int)).toNat=1+b:=by omega
 have rg:DJ 0 (1+b)=(List.range (1+b)).map λ(j:Nat)=>T.int (j:Int):=EZ
 have lr:(1+b)<=100000:=by omega
 have ll:Ps.length<100000:=by rw[h.l];omega
 refine⟨P,fr.drop (fr.take a).length,lf / (1+b),some (.lst (mT 9 λi=>.int (xs i))),some (.lst ((fr.take a).map T.str)),some (.int (1+(b:Int))),some (.int (f:Int)),some (.lst (rs.map AZ)),yaf (Nat.div_le_self _ _) hl64,st,?_⟩
 generalize hN:((List.range 26).map (Au c)).map T.str=N at *;have sN:A5 N=true:=by rw[<- hN];exact AV _
 have eN:BD N=N:=AJ _ sN;unfold IV;refine sq (τ':=sP ns N u Ps fr lf (some (.int (i:Int))) (some (.lst (mT 9 λi=>.int (xs i)))) x8 x9 x10 x11) (by simp![F1,F2,ci,ex]) ?_
 refine sq (τ':=sP ns N u Ps fr lf (some (.int (i:Int))) (some (.lst (mT 9 λi=>.int (xs i)))) (some (.lst ((fr.take a).map T.str))) x9 x10 x11) (by simp![a0,ea,AV,A4,cut1]) ?_
 refine sq (τ':=sP ns N u Ps (fr.drop (fr.take a).length) lf (some (.int (i:Int))) (some (.lst (mT 9 λi=>.int (xs i)))) (some (.lst ((fr.take a).map T.str))) x9 x10 x11) (by
  generalize hq:fr.take a=q at *
  simp![AV,A4,ya1,cut2]) ?_
 refine sq (τ':=sP ns N u Ps (fr.drop (fr.take a).length) lf (some (.int (i:Int))) (some (.lst (mT 9 λi=>.int (xs i)))) (some (.lst ((fr.take a).map T.str))) (some (.int (1+(b:Int)))) x10 x11) (by simp![a1,hmin,mz,eb]) ?_
 refine sq (τ':=sP ns N u Ps (fr.drop (fr.take a).length) (lf / (1+b)) (some (.int (i:Int))) (some (.lst (mT 9 λi=>.int (xs i)))) (some (.lst ((fr.take a).map T.str))) (some (.int (1+(b:Int)))) x10 x11) (by simp![b0,t1,qd]) ?_
 refine sq (τ':=sP ns N u Ps (fr.drop (fr.take a).length) (lf / (1+b)) (some (.int (i:Int))) (some (.lst (mT 9 λi=>.int (xs i)))) (some (.lst ((fr.take a).map T.str))) (some (.int (1+(b:Int)))) (some (.int (f:Int))) x11) (by simp![a2,a3,m3,ef]) ?_
 refine sq (τ':=sP ns N u Ps (fr.drop (fr.take a).length) (lf / (1+b)) (some (.int (i:Int))) (some (.lst (mT 9 λi=>.int (xs i)))) (some (.lst ((fr.take a).map T.str))) (some (.int (1+(b:Int)))) (some (.int (f:Int))) (some (.lst (rs.map AZ)))) (by
  simp![AV,A4,sN,eN,ok,tb,rg,ya1,yb9,lr,lc,AJ _ sr]) ?_
 simp![AV,A4,sr,AJ _ sr,a8,ed,ya1,ll]
 unfold sP;rw[yat]
 rfl
theorem Se{c:Int}{a n:Nat}:∀x∈C1 c a n,Dd x:=λx hx=>zh5 (M3 hx)
structure PsOk(Ps:List Pt):Prop where
 l1:1<=Ps.length
 l5:Ps.length<=5
 p:∀P∈Ps,PtOk P
 wd:(Ps.flatMap Pt.ws).Nodup
 wl:(Ps.flatMap Pt.ws).length<=7
 t:(BN (Ps.map Pt.nm)).length<=64
 d:(∀P∈Ps,P.dn=0)\/(BN (Ps.map Pt.nm)).length<=12
theorem zf8{c:Int}{a n:Nat}:(Str.ofString "/")∉C1 c a n:=λh=>by
 have h2:=M3 h;have:=h2.1 0 (by decide +kernel)
 revert this
 decide +kernel
theorem zfy{ns:List Int}:∃Ps:List Pt,PsOk Ps/\IG [B0 ns]=some (.ok (.own (Ps.map AU))):=by
 obtain⟨c,hc⟩:∃c,ns.getD 0 0=c:=⟨_,rfl⟩;have c0:=KJ ns (k:=0) (by decide)
 have c1:=KJ ns (k:=1) (by decide)
 have c2:=KJ ns (k:=2) (by decide)
 rw[show(0:Int).toNat=0 from rfl,hc]at c0;rw[show(1:Int).toNat=1 from rfl]at c1;rw[show(2:Int).toNat=2 from rfl]at c2;have nm:=zg5 c (m:=26) (by decide)
 have nm:IH [.int c,.int 26]=some (.ok (.own (mT 26 λk=>.str (Au c k)))):=nm
 rw[zg3]at nm;obtain⟨u,hu⟩:∃u,1+(ns.getD 1 0).fmod (10 ^ 40)=u:=⟨_,rfl⟩
 have u0:0<=u:=by
  rw[<- hu];exact Int.add_nonneg (by decide) (yb3 _ (by decide +kernel))
 obtain⟨q,hq⟩:=ybo (yb3 (ns.getD 2 0) (show(0:Int)<5 by decide))
 have hq5:=ybn (ns.getD 2 0) (show(0:Int)<5 by decide)
 rw[hq]at hq5;have F1:=L3 ns;have F2:=L1 ns;have p40:(0:Int)<=40/\(40:Int)<=1000000/\Ey 10=true:=⟨by decide,by decide,Ew (by decide) (by decide)⟩
 have r40:(40:Int).toNat=40:=rfl;have n40:((10:Int) ^ 40=0)=False:=eq_false (by decide +kernel)
 have k1:Bv (((List.range 26).map (Au c)).map T.str) (some 12) (some 19)=(C1 c 12 7).map T.str:=zn4 c (a:=12) (n:=7) (by omega)
 have s7:CZ 7=true:=EC (by decide) (by decide)
 obtain⟨F,hF,hFd,hFl,eF⟩:∃F:List Str,(∀x∈F,Dd x)/\F.Nodup/\F.length=7/\(Ar (m2 Bm (m2 B3 (m2 DB (A7 Ej (AE (AB 0) (AE (mC (.int 2)) AF))) (mC (.int 7))) (mC (.int 3))) (mC (.int 1))) (Ad (m2 B5 (BO (CK (mC (.str "/")) AF)) (Bu (DO (AB 4) (some (mC (.int 1))) none) (DN (AB 4) (some (mC (.int 1))) none))) (AD 4)) Ap) [some (B0 ns),some (.lst (((List.range 26).map (Au c)).map T.str)),some (.int u),some (.own []),some (.lst ((C1 c 12 7).map T.str)),none,none,none,none,none,none,none]=some (.nx [some (B0 ns),some (.lst (((List.range 26).map (Au c)).map T.str)),some (.int u),some (.own []),some (.lst (F.map T.str)),none,none,none,none,none,none,none]):=by
  by_cases h:(((ns.getD 2 0).fdiv 7).fmod 3)=1
  .have hb:(((ns.getD 2 0).fdiv 7).fmod 3 == 1)=true:=by rw[h];rfl
   have ct:Bv ((C1 c 12 7).map T.str) (some 1) none=(C1 c 13 6).map T.str:=by
    rw[show(some (1:Int))=some ((1:Nat):Int) from rfl,Uz _ (by rw[ya1,J6];decide),<- List.map_drop]
    rfl
   have z:(1+6<=BE)=True:=eq_true (by unfold BE;omega)
   refine⟨Str.ofString "/"::C1 c 13 6,λx hx=>?_,ycv.mpr ⟨zf8,M4 (by omega)⟩,by rw[yao,J6],?_⟩
   .rcases yai.mp hx with rfl|hx
    .exact .inl rfl
    .exact Se x hx
   .simp![F1,F2,c2,s7,Hu,hb,AV,A4,ct,ya1,J6,z]
  .have hb:(((ns.getD 2 0).fdiv 7).fmod 3 == 1)=false:=by rw[yf5];exact h
   exact⟨C1 c 12 7,Se,M4 (by omega),J6 ..,by simp![F1,F2,c2,s7,Hu,hb]⟩
 obtain⟨τ,e,Ps,fr,lf,hlf,hP,y6,y7,y8,y9,y10,y11,rfl⟩:=DZ (b:=AD 6) (body:=IV) (ts:=mT (1+q) λi=>.int (i:Int)) (τ:=sP ns (((List.range 26).map (Au c)).map T.str) u [] F 64 none none none none none none)
  (λi τ=>∃Ps fr lf,lf<=64/\PsI F i Ps fr lf/\∃y6 y7 y8 y9 y10 y11,τ=sP ns (((List.range 26).map (Au c)).map T.str) u Ps fr lf y6 y7 y8 y9 y10 y11) ⟨[],F,64,ya8 _,⟨rfl,λ_ z=>(by cases z),rfl,by decide,by decide⟩,_,_,_,_,_,_,rfl⟩ λi t τ h1 h2=>by
   obtain⟨hi,rfl⟩:=Fq h1;obtain⟨Ps,fr,lf,hlf,hP,y6,y7,y8,y9,y10,y11,rfl⟩:=h2;obtain⟨P,fr',lf',z7,z8,z9,z10,z11,g1,g2,ew⟩:=zkd (ns:=ns) (c:=c) u0 hF (i:=i) (by omega) hP hlf (x7:=y7) (x8:=y8) (x9:=y9) (x10:=y10) (x11:=y11)
   exact⟨_,by simp![],_,ew,_,_,_,g1,g2,_,_,_,_,_,_,rfl⟩
 rw[Cc]at hP;have ok:DL (1+(q:Int))=true:=Fi (n:=1+q) (by omega)
 have tq:(1+(q:Int)).toNat=1+q:=by omega
 have er:DJ 0 (1+q)=mT (1+q) λi=>.int (i:Int):=EZ
 have sp:=MV hP.p;have lP:Ps.length<=100000:=by rw[hP.l];omega
 have hw:=hP.w
 have base:∀Qs:List Pt,Qs.length=Ps.length->Qs.map Pt.ws=Ps.map Pt.ws->Qs.map Pt.nm=Ps.map Pt.nm->(∀Q∈Qs,PtOk Q)->((∀Q∈Qs,Q.dn=0)\/(BN (Ps.map Pt.nm)).length<=12)->PsOk Qs:=λQs q1 q2 q3 q4 q5=>by
  have fw:Qs.flatMap Pt.ws=Ps.flatMap Pt.ws:=by rw[List.flatMap_def,List.flatMap_def,q2]
  have nd:(Ps.flatMap Pt.ws++fr).Nodup:=by rw[hw];exact hFd
  have tl:(BN (Ps.map Pt.nm)).length<=64:=yaf (Nat.le_mul_of_pos_left _ hP.l1) hP.t;refine⟨by rw[q1,hP.l];omega,by rw[q1,hP.l];omega,q4,by rw[fw];exact(List.nodup_append.mp nd).1,?_,by rw[q3];exact tl,by rw[q3];exact q5⟩
  rw[fw];have:=congrArg List.length hw;rw[yac,hFl]at this
  omega
 have run:∀r:T,(AG (Ar (m2 (CN λi j=>decide (i<j)) (AB 5) (mC (.int 5))) (AG (DH 3) (A8 (BP 3 [] (An (AB 3)) (Aa 3 (AK (AD 0) (AK (AD 1) (AK (AD 2) Ac)))) (mC (.bl true)) KO))) Ap) (A8 (AB 3))) (sP ns (((List.range 26).map (Au c)).map T.str) u Ps fr lf y6 y7 y8 y9 y10 y11)=some (.rt r)->IG [B0 ns]=some (.ok r):=λr hr=>by
  have key:Jd [some (B0 ns),none,none,none,none,none,none,none,none,none,none,none]=some (.rt r):=by
   unfold Jd;refine sq (τ':=[some (B0 ns),some (.lst (((List.range 26).map (Au c)).map T.str)),none,none,none,none,none,none,none,none,none,none]) (by simp![F1,F2,c0,nm,A4]) ?_
   refine sq (τ':=[some (B0 ns),some (.lst (((List.range 26).map (Au c)).map T.str)),some (.int u),none,none,none,none,none,none,none,none,none]) (by simp![F1,F2,c1,p40,r40,n40,hu]) ?_
   refine sq (τ':=[some (B0 ns),some (.lst (((List.range 26).map (Au c)).map T.str)),some (.int u),some (.own []),none,none,none,none,none,none,none,none]) (by simp![]) ?_
   refine sq (τ':=[some (B0 ns),some (.lst (((List.range 26).map (Au c)).map T.str)),some (.int u),some (.own []),some (.lst ((C1 c 12 7).map T.str)),none,none,none,none,none,none,none]) (by simp![AV,A4,k1]) ?_
   refine sq eF ?_;refine sq (τ':=sP ns (((List.range 26).map (Au c)).map T.str) u [] F 64 none none none none none none) (by simp![];rfl) ?_
   refine sq (by simp![F1,F2,c2,hq,ok,tq,er,e];rfl) ?_
   exact hr
  unfold IG
  simp![F1,F2,key]
 by_cases h5:lf<5
 .have d5:decide ((lf:Int)<5)=true:=yer (by omega)
  let g:Pt->Pt:=λP=>⟨P.ws,P.rs,0⟩
  refine⟨Ps.map g,base _ (ya1 _) (by rw[yap];rfl) (by rw[yap];rfl) (λQ hQ=>?_) (.inl λQ hQ=>?_),run _ ?_⟩
  .obtain⟨P,hP',rfl⟩:=yag.mp hQ;have k:=hP.p P hP';exact⟨k.w,k.wl,k.r,k.rd,k.r0,k.rl,k.y,yba _⟩
  .obtain⟨P,hP',rfl⟩:=yag.mp hQ
   rfl
  .have lc:BK (Aa 3 (AK (AD 0) (AK (AD 1) (AK (AD 2) Ac)))) (mC (.bl true)) KO (Ps.map AU) [none,none,none]=some ((Ps.map g).map AU):=by
    rw[yap]
    exact C4 AU (λP=>AU (g P)) (λτ=>∃a b d,τ=[a,b,d]) _ _ ⟨none,none,none,rfl⟩ λP hP' τ hI=>by
     obtain⟨a,b,d,rfl⟩:=hI;have sr:=(hP.p P hP').sr;exact⟨[some (.lst (P.ws.map T.str)),some (.lst (P.rs.map AZ)),some (.int (P.dn:Int))],by simp![],by unfold KO;simp![AV,A4,sr,AJ _ sr];rfl,_,_,_,rfl⟩
   generalize (Ps.map g).map AU=R at *
   simp![d5,sp,AJ _ sp,ya1,lP,lc]
 .have d5:decide ((lf:Int)<5)=false:=yea (by omega)
  refine⟨Ps,base Ps rfl rfl rfl hP.p (.inr ?_),run _ (by simp![d5])⟩
  have:=hP.t;generalize (BN (Ps.map Pt.nm)).length=w at this;have:5 * w<=lf * w:=Nat.mul_le_mul_right w (by omega)
  omega
abbrev ME:Stmt:=AY 49
def PM:AA->Option Rs :=
 (E5 GJ [(.str "")] (AE (BA (BA (AB 1) (mC (.int 0))) (mC (.int 0))) (AE (BA (BA (AB 1) (m1 Dl (mC (.int 1)))) (mC (.int 0))) (AE (BO AF) (AE (m1 Bo (AB 2)) AF)))))
def PL:AA->Option Rs :=
 (CJ (AE (AB 0) (AE (m1 Bo (AB 1)) AF)))
def NL:AA->Option Out :=
 (AG (Ad (AB 0) (Aa 3 (AK (AD 2) (AK (AD 3) (AK (AD 4) Ac)))))
 (AG (Ad (BP 1 [3,2] (Cd (AE (AB 4) AF)) (AD 0) (mC (.bl true)) PM) (AD 1))
 (A8 (E5 GI [] (AE (m1 Bo (AB 2)) (AE (BP 2 [] (An (AB 3)) (Aa 2 (AK (AD 0) (AK (AD 1) Ac))) (mC (.bl true)) PL) (AE (AB 1) AF)))))))
def Kl:List T->Option Ru:=Am 1 5 NL
abbrev OU:Fn:=⟨8,["_law_part"],Kl⟩
abbrev zcq:Gx:=⟨[],[],[],[("Door",OW,[(4,[(.str "")])]),("Machine",OO,[(3,[])])],false,true,true,none,[],[],[],true,[],[],[],[],[],[]⟩
abbrev UO:Gm:=⟨["_law_part","_law_doors","_law_watches","_law_rooms_here","_law_many"],(AL ME).names,["_law_watches","_law_rooms_here"],7,[],["range","list"],[],[],[],false,[],[],[],zcq⟩
theorem zci:FnScope UO.N OU.ps (AL ME):=Aq (by decide +kernel)
theorem zcx:Ag 200 UO (A9 ME)=some NL:=by ext
def e0:Str×List T:=(Str.empty,[])
def Bk(P:Pt):Dr:=⟨(P.rs.getD 0 e0).1,(P.rs.getD (P.rs.length - 1) e0).1,[],P.ws,""⟩
def AX(P:Pt):Mc:=⟨P.ws,P.rs,List.replicate P.dn (Bk P)⟩
theorem GX{P:Pt}{i:Nat}(hi:i<P.rs.length):P.rs[i]?=some (P.rs.getD i e0)/\P.rs.getD i e0∈P.rs:=by
 rw[ya9,ya0 hi];exact⟨rfl,yav hi⟩
theorem Mb{P:Pt}(h:PtOk P)(hd:P.ws.Nodup):DrOk P.ws P.nm (Bk P):=by
 have r0:=h.r0;exact⟨ycu (f:=λz:Str×List T=>z.1) (GX (i:=0) (by omega)).2,ycu (f:=λz:Str×List T=>z.1) (GX (i:=P.rs.length - 1) (by omega)).2,λt ht=>(by cases ht),yba _,λx hx=>hx,hd,yaf h.wl (by decide),.inl rfl⟩
theorem Ma{P:Pt}(h:PtOk P)(hd:P.ws.Nodup):McOk (AX P):=by
 refine⟨h.w,hd,yaf h.wl (by decide),⟨h.r0,yaf h.rl (by decide),λr hr=>?_,h.rd,λr hr=>?_⟩,λd hd'=>?_,?_⟩
 .obtain⟨k1,k2,k3⟩:=h.r r.1 (ycu (f:=λz:Str×List T=>z.1) hr)
  exact⟨zh3 k1,k2,yaf k3 (by decide)⟩
 .exact⟨(h.y r hr).1,yaf (h.y r hr).2 (by decide)⟩
 .rw[(yd2.mp hd').2];exact Mb h hd
 .show(List.replicate P.dn (Bk P)).length<=200;rw[ybz];exact yaf h.d (by decide)
theorem zir{P:Pt}(h:PtOk P)(hd:P.ws.Nodup):Kl [AU P]=some (.ok (AI (AX P))):=by
 have sr:=h.sr;have mi:=Sh (Ma h hd);rw[show(AX P).ws=P.ws from rfl,show(AX P).rs=P.rs from rfl,show(AX P).ds=List.replicate P.dn (Bk P) from rfl]at mi;have di:=di_ok (Mb h hd);rw[show(Bk P).s=(P.rs.getD 0 e0).1 from rfl,show(Bk P).e=(P.rs.getD (P.rs.length - 1) e0).1 from rfl,show(Bk P).g=[] from rfl,show(Bk P).n=P.ws from rfl,show(Bk P).z="" from rfl]at di;have r0:=h.r0;have rl:=h.rl;have hdn:=h.d;have a1:Ab (P.rs.map AZ) 0=some (AZ (P.rs.getD 0 e0)):=KR (by decide) (by rw[ya4,show(0:Int).toNat=0 from rfl,(GX (i:=0) (by omega)).1];rfl)
 have a2:Ab (P.rs.map AZ) (-1)=some (AZ (P.rs.getD (P.rs.length - 1) e0)):=by
  have ix:CU (P.rs.map AZ).length (-1)=some (P.rs.length - 1):=by
   unfold CU;rw[ya1];simp
   omega
  unfold Ab;rw[ix];show(P.rs.map AZ)[P.rs.length - 1]?=_;rw[ya4,(GX (i:=P.rs.length - 1) (by omega)).1]
  rfl
 have s1:=(h.y _ (GX (P:=P) (i:=0) (by omega)).2).1.sh
 have s2:=(h.y _ (GX (P:=P) (i:=P.rs.length - 1) (by omega)).2).1.sh
 have ok:DL (P.dn:Int)=true:=Fi (by omega)
 have er:DJ 0 P.dn=(List.range P.dn).map λ(j:Nat)=>T.int (j:Int):=EZ
 have ld:P.dn<=100000:=by omega
 have lr:P.rs.length<=100000:=by omega
 have sD:(AM (Bk P)).sh=true:=Jz (Mb h hd)
 have Cy:BK (AD 0) (mC (.bl true)) PM ((List.range P.dn).map λ(j:Nat)=>T.int (j:Int)) [none,some (.lst (P.rs.map AZ)),some (.lst (P.ws.map T.str))]=some ((List.replicate P.dn (Bk P)).map AM):=by
  have e:(List.replicate P.dn (Bk P)).map AM=(List.range P.dn).map λ_=>AM (Bk P):=by
   rw[List.map_replicate];refine(List.eq_replicate_iff.mpr ⟨by rw[ya1,yb9],λb hb=>?_⟩).symm
   obtain⟨_,_,rfl⟩:=yag.mp hb
   rfl
  rw[e]
  exact C4 (λ(j:Nat)=>T.int (j:Int)) (λ_=>AM (Bk P)) (λτ=>∃a,τ=[a,some (.lst (P.rs.map AZ)),some (.lst (P.ws.map T.str))]) _ _ ⟨none,rfl⟩ λj hj τ hI=>by
   obtain⟨a,rfl⟩:=hI;refine⟨[some (.int (j:Int)),some (.lst (P.rs.map AZ)),some (.lst (P.ws.map T.str))],by simp![],?_,_,rfl⟩
   unfold PM;generalize P.rs.getD 0 e0=f0 at *;generalize P.rs.getD (P.rs.length - 1) e0=f1 at *
   simp![sr,AJ _ sr,AV,A4,a1,a2,s1,s2,di,show(-(1:Int))=-1 from rfl]
 have Dq:BK (Aa 2 (AK (AD 0) (AK (AD 1) Ac))) (mC (.bl true)) PL (P.rs.map AZ) [none,none]=some (P.rs.map AZ):=C4 AZ AZ (λτ=>∃a b,τ=[a,b]) _ _ ⟨none,none,rfl⟩ λr hr τ hI=>by
  obtain⟨a,b,rfl⟩:=hI;have sg:=(h.y r hr).1.sh;exact⟨[some (.str r.1),some (.lst r.2)],by simp![],by unfold PL;simp![sg,AJ _ sg],_,_,rfl⟩
 have sds:A5 ((List.replicate P.dn (Bk P)).map AM)=true:=(Ma h hd).sd;unfold Kl NL;generalize (List.replicate P.dn (Bk P)).map AM=D at *
 simp![sr,AJ _ sr,AV,A4,ya1,yb9,ok,er,ld,lr,Cy,Dq,sds,AJ _ sds,mi]
 rfl
abbrev MB:Stmt:=AY 50
def LD:AA->Option Out :=
 (Df 5 (CJ (AE (m2 B5 (AB 6) (BO (CK (AB 8) AF))) (AE (m2 B5 (AB 7) (AB 9)) AF))))
def LF:AA->Option Out :=
 (BX (An (AB 3)) (Aa 2 (AK (AD 8) (AK (AD 9) Ac))) LD)
def LG:AA->Option Out :=
 (AG (CI 5 (BO AF))
 (AG (BX (An (AB 1)) (Aa 2 (AK (AD 6) (AK (AD 7) Ac))) LF)
 (AG (DH 5) (Ad (AB 5) (AD 1)))))
def PH:AA->Option Rs :=
 (CJ (AE (FE (mC (.str "/")) (AB 0)) (AE (AB 1) AF)))
def NJ:AA->Option Out :=
 (AG (Ad (BO (CK (CJ (AE (BO AF) (AE (BO AF) AF))) AF)) (AD 1))
 (AG (BX (An (AB 0)) (Aa 3 (AK (AD 2) (AK (AD 3) (AK (AD 4) Ac)))) LG)
 (A8 (BP 2 [] (An (AB 1)) (Aa 2 (AK (AD 0) (AK (AD 1) Ac))) (mC (.bl true)) PH))))
def Kk:List T->Option Ru:=Am 1 10 NJ
abbrev OR:Fn:=⟨1,["_law_parts_here"],Kk⟩
abbrev UL:Gm:=⟨["_law_parts_here","_law_rooms_here","_law_watches","_law_others","_law_many","_law_longer","_law_names_here","_law_looks","_law_name","_law_stay_here"],(AL MB).names,[],0,[],[],[],["_law_longer"],[],false,[],[],[],CF⟩
theorem zdu:FnScope UL.N OR.ps (AL MB):=Aq (by decide +kernel)
theorem zek:Ag 200 UL (A9 MB)=some NJ:=by ext
abbrev prT(x:List Str×List T):T:=.tup [A3 x.1,.lst x.2]
def En(ts:List (List Str×List T))(P:Pt):List (List Str×List T):=ts.flatMap λx=>P.rs.map λr=>(x.1++[r.1],x.2++r.2)
def CP(Ps:List Pt):List (List Str×List T):=Ps.foldl En [([],[])]
theorem Ij(Ps:List Pt)(P:Pt):CP (Ps++[P])=En (CP Ps) P:=by
 unfold CP;rw[ye1]
 rfl
theorem zgu(ts:List (List Str×List T))(P:Pt):(En ts P).map (·.1)=Bc (ts.map (·.1)) P.nm:=by
 unfold En Bc Pt.nm;rw[List.map_flatMap,List.flatMap_map]
 congr 1
 funext x
 rw[yap,yap]
 rfl
theorem zkc{P:Pt}(h:PtOk P){r:Str×List T}(hr:r∈P.rs):CH (AX P) r.1=r.2:=by
 have nd:(P.rs.map (·.1)).Nodup:=h.rd;unfold CH;show((P.rs.find? λx=>decide (x.1=r.1)).map (·.2)).getD []=r.2
 cases hf:P.rs.find? (λx=>decide (x.1=r.1)) with
 |none=>exact absurd (List.find?_eq_none.mp hf r hr) (by simp)
 |some y =>
  have h1:y.1=r.1:=by simpa using List.find?_some hf
  have hy:=ycw hf;obtain⟨i,hi,rfl⟩:=yct hy;obtain⟨j,hj,rfl⟩:=yct hr
  have:i=j:=by
   have e2:(P.rs.map (·.1))[i]'(by rw[ya1];exact hi)=(P.rs.map (·.1))[j]'(by rw[ya1];exact hj):=by rw[ydb,ydb];exact h1
   exact(ycq nd).mp e2
  subst this
  rfl
structure TkI(Ps:List Pt):Prop where
 f:(CP Ps).map (·.1)=BN (Ps.map Pt.nm)
 w:∀x∈CP Ps,x.2=DF (Ps.map AX) x.1/\x.1.length=Ps.length/\x.2.length<=2 * Ps.length/\A5 x.2=true
theorem zf2{Ps:List Pt}(h:TkI Ps){P:Pt}(hp:PtOk P):TkI (Ps++[P]):=by
 refine⟨?_,λx hx=>?_⟩
 .rw[Ij,zgu,h.f,yat,yae,yce,LL]
 .rw[Ij]at hx;obtain⟨y,hy,hx⟩:=yb0.mp hx;obtain⟨r,hr,rfl⟩:=yag.mp hx;obtain⟨k1,k2,k3,k4⟩:=h.w y hy;have hr2:=hp.y r hr;refine⟨?_,by rw[yac,yac,k2];rfl,by rw[yac,yac];show _<=2 * (Ps.length+1);omega,?_⟩
  .show y.2++r.2=DF ((Ps++[P]).map AX) (y.1++[r.1]);unfold DF;rw[yat,List.zip_append (by rw[ya1,k2]),List.flatMap_append,k1]
   show DF (Ps.map AX) y.1++r.2=DF (Ps.map AX) y.1++(CH (AX P) r.1++[]);rw[zkc hp hr,yaw]
  .have s2:=hr2.1.sh;rw[Bs,List.all_append,<- Bs,<- Bs,k4,s2]
   rfl
theorem HI:∀{Ps:List Pt},(∀P∈Ps,PtOk P)->∀i,i<=Ps.length->TkI (Ps.take i)
 |Ps,h,0,_=>by
  rw[List.take_zero];exact⟨rfl,λx hx=>by rw[yaa.mp hx];exact⟨rfl,rfl,ya8 _,rfl⟩⟩
 |Ps,h,i+1,hi=>by
  rw[Ik (by omega)]
  exact zf2 (HI h i (by omega)) (h _ (yav (by omega)))
theorem zfz{Ps:List Pt}(h:TkI Ps):CP Ps=(BN (Ps.map Pt.nm)).map λt=>(t,DF (Ps.map AX) t):=by
 rw[<- h.f,yap]
 conv=>lhs;rw[<- List.map_id (CP Ps)]
 refine ych λx hx=>?_
 show x=(x.1,DF (Ps.map AX) x.1);rw[<- (h.w x hx).1]
theorem MX{Ps:List Pt}(h:TkI Ps):A5 ((CP Ps).map prT)=true:=Ck λx hx=>by
 have:=(h.w x hx).2.2.2
 simp![this,AV]
theorem zfg{Ps:List Pt}(h:∀P∈Ps,PtOk P)(hl:Ps.length<=5)(hk:∀i,i<=Ps.length->(BN ((Ps.take i).map Pt.nm)).length<=64):Kk [.lst (Ps.map AU)]=some (.ok (.own ((CP Ps).map λx=>T.tup [.str (BL x.1),.lst x.2]))):=by
 have sp:=MV h
 obtain⟨τ,e,y2,y3,y4,y5,y6,y7,y8,y9,rfl⟩:=DZ (b:=Aa 3 (AK (AD 2) (AK (AD 3) (AK (AD 4) Ac)))) (body:=LG) (ts:=Ps.map AU) (τ:=[some (.lst (Ps.map AU)),some (.lst [.tup [.lst [],.lst []]]),none,none,none,none,none,none,none,none])
  (λi τ=>∃y2 y3 y4 y5 y6 y7 y8 y9,τ=[some (.lst (Ps.map AU)),some (.lst ((CP (Ps.take i)).map prT)),y2,y3,y4,y5,y6,y7,y8,y9]) ⟨none,none,none,none,none,none,none,none,by rw[List.take_zero];rfl⟩ λi t τ h1 h2=>by
   obtain⟨y2,y3,y4,y5,y6,y7,y8,y9,rfl⟩:=h2;have hi:i<Ps.length:=by simpa using (ya5.mp h1).1
   rw[ya4,ya0 hi]at h1;have et:t=AU Ps[i]:=(yar h1).symm;subst et;have kp:=h _ (yav hi);have ti:=HI h i (by omega)
   have ti1:=HI h (i+1) (by omega)
   have hl64:=hk (i+1) (by omega)
   rw[<- ti1.f,ya1]at hl64;rw[Ik hi,Ij]at hl64 ⊢;have s1:=MX ti;have s2:=MX ti1;rw[Ik hi,Ij]at s2;have tw:=ti.w;generalize hts:CP (Ps.take i)=ts at *;have sr:=kp.sr;have rl:=kp.rl
   obtain⟨τ2,e2,z6,z7,z8,z9,rfl⟩:=Eb (b:=Aa 2 (AK (AD 6) (AK (AD 7) Ac))) (body:=LF) prT (λ(a:List (List Str×List T)) τ=>∃z6 z7 z8 z9,τ=[some (.lst (Ps.map AU)),some (.lst (ts.map prT)),some (.lst (Ps[i].ws.map T.str)),some (.lst (Ps[i].rs.map AZ)),some (.int (Ps[i].dn:Int)),some (.own (a.map prT)),z6,z7,z8,z9]) (λx=>Ps[i].rs.map λr=>(x.1++[r.1],x.2++r.2)) 64 ts [] [some (.lst (Ps.map AU)),some (.lst (ts.map prT)),some (.lst (Ps[i].ws.map T.str)),some (.lst (Ps[i].rs.map AZ)),some (.int (Ps[i].dn:Int)),some (.own []),y6,y7,y8,y9] ⟨y6,y7,y8,y9,rfl⟩ (by rw[yb4,ye8];exact hl64) λx hx a τ hS hN=>by
    obtain⟨z6,z7,z8,z9,rfl⟩:=hS;rw[ya1]at hN;obtain⟨_,k2,k3,k4⟩:=tw x hx;rw[ybp]at k2 k3
    obtain⟨τ3,e3,v8,v9,rfl⟩:=Eb (b:=Aa 2 (AK (AD 8) (AK (AD 9) Ac))) (body:=LD) AZ (λ(a:List (List Str×List T)) τ=>∃v8 v9,τ=[some (.lst (Ps.map AU)),some (.lst (ts.map prT)),some (.lst (Ps[i].ws.map T.str)),some (.lst (Ps[i].rs.map AZ)),some (.int (Ps[i].dn:Int)),some (.own (a.map prT)),some (A3 x.1),some (.lst x.2),v8,v9]) (λr=>[(x.1++[r.1],x.2++r.2)]) 64 Ps[i].rs a [some (.lst (Ps.map AU)),some (.lst (ts.map prT)),some (.lst (Ps[i].ws.map T.str)),some (.lst (Ps[i].rs.map AZ)),some (.int (Ps[i].dn:Int)),some (.own (a.map prT)),some (A3 x.1),some (.lst x.2),z8,z9] ⟨z8,z9,rfl⟩ (by rw[show(Ps[i].rs.flatMap λr=>[(x.1++[r.1],x.2++r.2)]).length=Ps[i].rs.length by rw[<- List.map_eq_flatMap,ya1]];exact hN) λr hr a τ hS hN=>by
     obtain⟨v8,v9,rfl⟩:=hS;obtain⟨g1,g2⟩:=kp.y r hr;have sg:=g1.sh;have a1:x.1.length+1<=100000:=by omega
     have a2:x.2.length+r.2.length<=100000:=by omega
     have a3:a.length<100000:=by simp at hN;omega
     have so:A5 (x.2++r.2)=true:=by rw[Bs,List.all_append,<- Bs,<- Bs,k4,sg];rfl
     have ss:BD (x.1.map T.str++[T.str r.1])=x.1.map T.str++[T.str r.1]:=by rw[show x.1.map T.str++[T.str r.1]=(x.1++[r.1]).map T.str by rw[yat];rfl];exact A4 _
     refine⟨[some (.lst (Ps.map AU)),some (.lst (ts.map prT)),some (.lst (Ps[i].ws.map T.str)),some (.lst (Ps[i].rs.map AZ)),some (.int (Ps[i].dn:Int)),some (.own (a.map prT)),some (A3 x.1),some (.lst x.2),some (.str r.1),some (.lst r.2)],by simp![],[some (.lst (Ps.map AU)),some (.lst (ts.map prT)),some (.lst (Ps[i].ws.map T.str)),some (.lst (Ps[i].rs.map AZ)),some (.int (Ps[i].dn:Int)),some (.own ((a++[(x.1++[r.1],x.2++r.2)]).map prT)),some (A3 x.1),some (.lst x.2),some (.str r.1),some (.lst r.2)],?_,_,_,rfl⟩
     have epr:prT (x.1++[r.1],x.2++r.2)=T.tup [.lst (x.1.map T.str++[T.str r.1]),.lst (x.2++r.2)]:=by
      show T.tup [T.lst ((x.1++[r.1]).map T.str),.lst (x.2++r.2)]=_;rw[yat]
      rfl
     rw[yat,List.map_singleton,epr];unfold LD
     simp![AV,A4,k4,AJ _ k4,sg,AJ _ sg,ya1,a1,a2,a3,so,AJ _ so,ss]
    rw[<- List.map_eq_flatMap]at e3;refine⟨[some (.lst (Ps.map AU)),some (.lst (ts.map prT)),some (.lst (Ps[i].ws.map T.str)),some (.lst (Ps[i].rs.map AZ)),some (.int (Ps[i].dn:Int)),some (.own (a.map prT)),some (A3 x.1),some (.lst x.2),z8,z9],by simp![],[some (.lst (Ps.map AU)),some (.lst (ts.map prT)),some (.lst (Ps[i].ws.map T.str)),some (.lst (Ps[i].rs.map AZ)),some (.int (Ps[i].dn:Int)),some (.own ((a++Ps[i].rs.map λr=>(x.1++[r.1],x.2++r.2)).map prT)),some (A3 x.1),some (.lst x.2),v8,v9],?_,some (A3 x.1),some (.lst x.2),v8,v9,rfl⟩
    unfold LF
    simp![sr,AJ _ sr,e3]
   rw[ybe]at e2;have eb:ts.flatMap (λx=>Ps[i].rs.map λr=>(x.1++[r.1],x.2++r.2))=En ts Ps[i]:=rfl
   rw[eb]at e2;refine⟨[some (.lst (Ps.map AU)),some (.lst (ts.map prT)),some (.lst (Ps[i].ws.map T.str)),some (.lst (Ps[i].rs.map AZ)),some (.int (Ps[i].dn:Int)),y5,y6,y7,y8,y9],by simp![],[some (.lst (Ps.map AU)),some (.lst ((En ts Ps[i]).map prT)),some (.lst (Ps[i].ws.map T.str)),some (.lst (Ps[i].rs.map AZ)),some (.int (Ps[i].dn:Int)),some (.lst ((En ts Ps[i]).map prT)),z6,z7,z8,z9],?_,_,_,_,_,_,_,_,_,rfl⟩
   generalize (En ts Ps[i]).map prT=B at *;unfold LG
   simp![s1,AJ _ s1,e2,s2,AJ _ s2]
 rw[ya1,ybg]at e;have ti:=HI h Ps.length (ya8 _);rw[ybg]at ti;have st:=MX ti
 have tl:(CP Ps).length<=64:=by
  have:=hk Ps.length (ya8 _);rw[ybg,<- ti.f,ya1]at this;exact this
 have ll:(CP Ps).length<=100000:=by omega
 have hn:∀x∈CP Ps,x.1.length<=6/\∀r∈x.1,r.length<=60:=λx hx=>by
  refine⟨by rw[(ti.w x hx).2.1];omega,λr hr=>?_⟩
  have hm:x.1∈BN (Ps.map Pt.nm):=by rw[<- ti.f];exact ycu hx
  obtain⟨_,k⟩:=Il hm;obtain⟨j,ej⟩:=ybj.mp hr;obtain⟨rs,e1,e2⟩:=k j r ej;rw[ya4]at e1;obtain⟨P,e3,rfl⟩:=ya2.mp e1;exact yaf ((h P (yak e3)).r r e2).2.2 (by decide)
 have lc:BK (Aa 2 (AK (AD 0) (AK (AD 1) Ac))) (mC (.bl true)) PH ((CP Ps).map prT) [none,none]=some ((CP Ps).map λx=>T.tup [.str (BL x.1),.lst x.2]):=C4 prT (λx=>T.tup [.str (BL x.1),.lst x.2]) (λτ=>∃a b,τ=[a,b]) _ _ ⟨none,none,rfl⟩ λx hx τ hI=>by
  obtain⟨a,b,rfl⟩:=hI;have k4:=(ti.w x hx).2.2.2;have jf:=TZ (hn x hx).1 (hn x hx).2;exact⟨[some (A3 x.1),some (.lst x.2)],by simp![],by unfold PH;simp![FE,Iy,jf,BL,k4,AJ _ k4],_,_,rfl⟩
 unfold Kk NJ;generalize ((CP Ps).map λx=>T.tup [.str (BL x.1),.lst x.2])=B at *
 simp![sp,AJ _ sp,e,st,AJ _ st,ya1,ll,lc]
abbrev HS:Stmt:=AY 51
def Ol:AA->Option Rs :=
 (A7 Kl (AE (AB 0) AF))
def IQ:AA->Option Out :=
 (Ad (m2 B5 (AB 6) (BA (AB 7) (mC (.int 0)))) (AD 6))
def Oo:AA->Option Rs :=
 (AB 0)
def IT:AA->Option Out :=
 (Ar (m2 Ba (Bt AW Ai Ei (AB 4) (AE (AB 8) AF)) (AB 9)) (A8 (mC (.bl false))) Ap)
def Om:AA->Option Rs :=
 (AB 0)
def IS:AA->Option Out :=
 (AG (Ar (Bg (m2 Ba (Bt AW Ai ET (AB 10) AF) (BA (AB 7) (mC (.int 0)))) (m2 Ba (Bt AW Ai Dx (AB 10) AF) (BP 2 [] (An (BA (AB 7) (mC (.int 1)))) (Aa 2 (AK (AD 0) (AK (AD 1) Ac))) (mC (.bl true)) Om))) (A8 (mC (.bl false))) Ap)
 (Ar (m2 Ba (m1 Bh (Bt AW Ai EU (AB 10) AF)) (BA (AB 7) (mC (.int 2)))) (A8 (mC (.bl false))) Ap))
def VE:AA->Option Rs :=
 (AB 0)
def Ja:AA->Option Out :=
 (AG (Ad (A7 IG (AE (AB 0) AF)) (AD 1))
 (AG (Ad (BP 1 [] (An (AB 1)) (AD 0) (mC (.bl true)) Ol) (AD 2))
 (Fe 2 (AG (CI 3 (m1 Bo (AB 2)))
 (AG (Ad (Fu 3 (A7 (gU Eh) (AE (AB 3) AF))) (AD 4))
 (AG (Ar (Bg (BJ (m1 (EO Ge) (AB 4))) (m2 Ba (AB 3) (AB 2))) (A8 (mC (.bl false))) Ap)
 (AG (Ad (A7 Kk (AE (AB 1) AF)) (AD 5))
 (AG (Ad (BO AF) (AD 6))
 (AG (BX (An (AB 1)) (AD 7) IQ)
 (AG (Ar (Bg (m2 Ba (Bt AW Ai ET (AB 4) AF) (AB 6)) (m2 Ba (Bt AW Ai Dx (AB 4) AF) (BP 2 [] (An (AB 5)) (Aa 2 (AK (AD 0) (AK (AD 1) Ac))) (mC (.bl true)) Oo))) (A8 (mC (.bl false))) Ap)
 (AG (BX (An (AB 5)) (Aa 2 (AK (AD 8) (AK (AD 9) Ac))) IT)
 (AG (HW 3)
 (AG (GV 2) (AG (BX (E8 (AE (AB 2) (AE (AB 1) AF))) (Aa 2 (AK (AD 10) (AK (AD 7) Ac))) IS)
 (A8 (m2 Bm (Bt AW Ai Dx (AB 4) AF) (BP 2 [] (An (AB 5)) (Aa 2 (AK (AD 0) (AK (AD 1) Ac))) (mC (.bl true)) VE)))))))))))))))))
def K7:List T->Option Ru:=Am 1 11 Ja
abbrev zmz:Fn:=⟨9,["_law_script"],K7⟩
abbrev zmx:Gx:=⟨[],[],[("watches",AW,Ai,OL),("rooms",AW,Ai,ON),("stay",AW,Ai,OM),("doors",AW,Ai,Jy)],[],false,true,true,none,[],[],[],true,[],[("Machine",Ge)],[],[],[],["_law_machines"]⟩
abbrev Nd:Gm:=⟨["_law_script","_law_parts_here","_law_machines","_law_handed","_law_whole","_law_due","_law_watches","_law_part","_law_name","_law_looks","_law_machine_here"],(AL HS).names,[],8,[("_law_parts",OS),("_law_machine",OU),("together",fnU Nv),("_law_rooms",OR)],["list","isinstance","zip","len"],[],["_law_handed"],[],false,[],["_law_handed"],[],zmx⟩
theorem zkh:FnScope Nd.N zmz.ps (AL HS):=Aq (by decide +kernel)
theorem zn7:Ag 200 Nd (A9 HS)=some Ja:=by ext
theorem VR:∀{l:List T},(∀t∈l,Fx t=true)->GD l l=true
 |[],_=>rfl
 |a::r,h=>by
  have e:HR a a=true:=by
   have:=h a (ya7 ..);unfold Fx at this;split at this
   .split at this
    .exact yex _
    .cases this
   .cases this
  unfold GD;rw[e,VR λt ht=>h t (ya6 _ ht)]
  simp
theorem ziw{t:T}(h:Fx t=true):t.pln=false:=by
 unfold Fx at h;split at h
 .rfl
 .cases h
theorem zm7{l:List T}(h0:l≠[])(h:∀t∈l,Fx t=true):Ba (.lst l) (.lst l)=some (.bl false):=by
 have e:Dv (.lst l) (.lst l)=false:=by
  cases l with
  |nil=>exact absurd rfl h0
  |cons a r =>
   have:Bq (.lst (a::r))=false:=by
    unfold Bq;rw[T.pln,DK,ziw (h a (ya7 ..))]
    rfl
   unfold Dv;rw[this]
   rfl
 unfold Ba;rw[if_neg (by rw[e];decide)]
 show(if GD l l=true then some (T.bl false) else none)=_
 rw[if_pos (VR h)]
theorem M1{α:Type}{C:Addr}{f:α->T}:∀{l:List α},(∀x∈l,(f x).noC C=true)->Cv C (l.map f)=true
 |[],_=>rfl
 |a::r,h=>by
  rw[yae,Cv,h a (ya7 ..),M1 λx hx=>h x (ya6 _ hx)]
  rfl
theorem NP{α:Type}{C:Addr}{f:α->T}{l:List α}{o:Bool}{k:Kd}(h:∀x∈l,(f x).noC C=true)(hm:∀x∈l,J7 C (f x)=false):(T.nd o k (l.map f)).noC C=true:=by
 rw[T.noC,M1 h];cases l with
 |nil=>rfl
 |cons a r =>
  show((!J7 C (f a)) && true)=true;rw[hm a (ya7 ..)]
  rfl
theorem Q2{C:Addr}(l:List Str):(T.lst (l.map T.str)).noC C=true:=NP (λ_ _=>rfl) λ_ _=>rfl
theorem Sv{C:Addr}{ws wd:List Str}{l:List T}(h:DC ws wd l):(T.lst l).noC C=true:=by
 have:=NP (C:=C) (f:=id) (l:=l) (o:=false) (k:=.lst) (λt ht=>?_) (λt ht=>?_)
 .rw[List.map_id]at this;exact this
 .obtain⟨x,y,n,rfl,_⟩:=h t ht
  rfl
 .obtain⟨x,y,n,rfl,_⟩:=h t ht
  rfl
theorem zm9{M:Mc}(h:McOk M):(AI M).noC AW=true:=by
 have h1:=Q2 (C:=AW) M.ws;have h2:Cv AW (M.rs.map λr=>T.lst r.2)=true:=M1 λr hr=>Sv (h.r.lk r hr).1
 have h3:(T.lst (M.ds.map AM)).noC AW=true:=NP (λd hd=>by
  have k:=h.d d hd;have g1:=Sv (C:=AW) k.g;have g2:=Q2 (C:=AW) d.n;show(true && (true && ((T.lst d.g).noC AW && ((T.lst (d.n.map T.str)).noC AW && (true && true)))))=true;rw[g1,g2]
  rfl) λd _=>rfl
 show((T.lst (M.ws.map T.str)).noC AW && (Cv AW (M.rs.map λr=>T.lst r.2) && ((T.lst (M.ds.map AM)).noC AW && true)))=true
 rw[h1,h2,h3]
 rfl
abbrev EH(ps:Nat->Addr)(Ms:List Mc):List T:=(Ms.map AI).mapIdx λi t=>pin1 (ps i) t
theorem RM{ps:Nat->Addr}{Ms:List Mc}{i:Nat}{t:T}(h:(EH ps Ms)[i]?=some t):∃M,Ms[i]?=some M/\t=.obj (.lab (ps i)) [AI M]:=by
 rw[ydj,ya4,Option.map_map]at h;obtain⟨M,e,rfl⟩:=ya2.mp h;exact⟨M,e,rfl⟩
theorem zft{ps:Nat->Addr}{Ms:List Mc}:∀t∈EH ps Ms,Fx t=true:=λt ht=>by
 obtain⟨i,e⟩:=ybj.mp ht;obtain⟨M,_,rfl⟩:=RM e
 rfl
theorem zfs(ps:Nat->Addr)(Ms:List Mc):(EH ps Ms).length=Ms.length:=by rw[List.length_mapIdx,ya1]
theorem RL{ps:Nat->Addr}{Ms:List Mc}(h:∀M∈Ms,McOk M):A5 (EH ps Ms)=true:=by
 rw[Bs,yas];intro t ht;obtain⟨i,e⟩:=ybj.mp ht;obtain⟨M,hM,rfl⟩:=RM e;have:=E4 (h M (yak hM));show((AI M).sh && true)=true;rw[this]
 rfl
theorem RK(ps:Nat->Addr)(Ms:List Mc):(EH ps Ms).map unl1=Ms.map AI:=by
 refine yd6 λi=>?_
 rw[ya4,ydj,ya4];cases Ms[i]?<;>rfl
theorem zfu{ps:Nat->Addr}{Ms:List Mc}(h0:Ms≠[])(h:∀M∈Ms,McOk M){v:T}(hv:v.noC AW=true):GC (.own (EH ps Ms)) v=true:=by
 have hs:=RL (ps:=ps) h;have hu:=RK ps Ms;cases Ms with
 |nil=>exact absurd rfl h0
 |cons M r =>
  generalize hL:EH ps (M::r)=L at *;cases L with
  |nil=>cases hu
  |cons a l =>
   have ha:unl1 a=AI M:=by
    rw[yae,yae]at hu;exact(ycs hu).1
   unfold GC
   show(match unl1 a with
    |.obj (.ins C _) _=>A5 (a::l) && v.noC C
    |_=>false)=true
   rw[ha];show(A5 (a::l) && v.noC AW)=true;rw[hs,hv]
   rfl
theorem Pg{α:Type}(f g:α->T):∀L:List α,FT (L.map f) (L.map g)=L.map λx=>T.tup [f x,g x]
 |[]=>rfl
 |x::L=>by
  rw[yae,yae,yae,<- Pg f g L]
  rfl
theorem Sw{ws wd:List Str}(tw:Bf ws)(td:Bf wd){l:List T}(h:DC ws wd l):Fit (.lst l) 2:=Fit.nd λt ht=>by
 obtain⟨x,y,n,rfl,hx,hy,_⟩:=h t ht;refine Fit.tup λt ht=>?_
 simp only[yai,ybs,yew]at ht
 rcases ht with rfl|rfl|rfl
 .exact Fit.str (tw x hx) _
 .exact Fit.str (td y hy) _
 .exact Fit.int _ _
section
variable {Ps:List Pt}(h:PsOk Ps)
theorem He(Ps:List Pt):(Ps.map AX).map Mc.nm=Ps.map Pt.nm:=by
 rw[yap]
 rfl
theorem Kr(Ps:List Pt):(Ps.map AX).flatMap Mc.ws=Ps.flatMap Pt.ws:=by rw[List.flatMap_map];rfl
include h
theorem PsOk.nd{P:Pt}(hP:P∈Ps):P.ws.Nodup:=(ydd.mp h.wd).1 P hP
theorem PsOk.mc{P:Pt}(hP:P∈Ps):McOk (AX P):=Ma (h.p P hP) (h.nd hP)
theorem ms_ok:MsOk (Ps.map AX):=by
 have:=h.l1;have:=h.l5;refine⟨by rw[ya1];omega,by rw[ya1];omega,λM hM=>?_,by rw[Kr];exact h.wl,by rw[Kr];exact h.wd⟩
 obtain⟨P,hP,rfl⟩:=yag.mp hM;exact h.mc hP
theorem QB:∀i,i<=Ps.length->(BN ((Ps.take i).map Pt.nm)).length<=64:=λi _=>by
 have e:Ps.map Pt.nm=(Ps.take i).map Pt.nm++(Ps.drop i).map Pt.nm:=by rw[<- yat,List.take_append_drop]
 have t:=h.t;rw[e,zgv]at t;refine yaf (UX ((Ps.drop i).map Pt.nm) _ λrs hrs=>?_) t
 obtain⟨P,hP,rfl⟩:=yag.mp hrs;have:=(h.p P (List.mem_of_mem_drop hP)).r0;intro z;unfold Pt.nm at z;rw[List.map_eq_nil_iff.mp z]at this;exact absurd this (by decide)
theorem rm_ok:RmOk (Ps.map AX):=by
 have l1:=h.l1;have l5:=h.l5
 have key:∀t∈BN (Ps.map Pt.nm),t≠[]/\t.length<=6/\∀r∈t,Eg r:=λt ht=>by
  obtain⟨k1,k2⟩:=Il ht;rw[ya1]at k1;refine⟨λz=>by rw[z,yb4]at k1;omega,by omega,λr hr=>?_⟩
  obtain⟨i,e⟩:=ybj.mp hr;obtain⟨rs,e1,e2⟩:=k2 i r e;rw[ya4]at e1;obtain⟨P,e3,rfl⟩:=ya2.mp e1;exact(h.p P (yak e3)).r r e2
 refine⟨λi hi=>?_,λM hM r hr=>?_,λt ht=>?_,?_⟩
 .rw[<- ydy,He];exact QB h i (by rw[ya1]at hi;exact hi)
 .obtain⟨P,hP,rfl⟩:=yag.mp hM;exact yaf ((h.p P hP).r r hr).2.2 (by decide)
 .rw[He]at ht;obtain⟨k1,k2,k3⟩:=key t ht;exact jn_ok k1 k2 k3
 .rw[He]
  have nd:(BN (Ps.map Pt.nm)).Nodup:=UW _ _ (by simp) λrs hrs=>by
   obtain⟨P,hP,rfl⟩:=yag.mp hrs;exact(h.p P hP).rd
  exact ye2.mpr (nd.imp_of_mem λ{a b} ha hb hab e=>hab (zmp (key a ha).1 (key b hb).1 (key a ha).2.2 (key b hb).2.2 e))
theorem fw_ok:FwOk (Ps.map AX):=by
 refine⟨λM hM r hr=>?_,λM hM d hd=>?_,λM hM d hd=>?_⟩<;>obtain⟨P,hP,rfl⟩:=yag.mp hM
 .exact yaf ((h.p P hP).y r hr).2 (by decide)
 .rw[(yd2.mp hd).2];exact yba _
 .rw[(yd2.mp hd).2];exact yaf (h.p P hP).wl (by decide)
theorem zez:(Ct (Af (Ps.map AX)) (Ah (Ps.map AX))).length<=200:=by
 have l5:=h.l5
 have dl:∀i,((Af (Ps.map AX)).getD i []).length * (Ah (Ps.map AX)).length<=24:=λi=>by
  rw[show Ah (Ps.map AX)=BN (Ps.map Pt.nm) by unfold Ah;rw[He],ya9,ya4,ya4]
  cases hi:Ps[i]? with
  |none =>
   show 0 * _<=24
   omega
  |some P =>
   show(List.replicate P.dn (Bk P)).length * _<=24;rw[ybz];have hP:=yak hi
   rcases h.d with d0|t12
   .rw[d0 P hP]
    omega
   .exact yaf (Nat.mul_le_mul (h.p P hP).d t12) (by decide)
 have hz:∀i k,(Az (Af (Ps.map AX)) i k).z="":=λi k=>by
  unfold Az;rw[ya9,ya9,ya4,ya4];cases Ps[i]? with
  |none=>rfl
  |some P =>
   show((List.replicate P.dn (Bk P))[k]?.getD d0).z="";cases hk:(List.replicate P.dn (Bk P))[k]? with
   |none=>rfl
   |some d =>
    show d.z="";rw[(yd2.mp (yak hk)).2]
    rfl
 generalize Ah (Ps.map AX)=ts at *;have hD:(Af (Ps.map AX)).length=Ps.length:=by rw[ya1,ya1]
 generalize Af (Ps.map AX)=D at *
 have h2:∀i k,(EW D ts i k).length<=ts.length:=λi k=>by
  unfold EW Ce;rw[if_pos (hz i k),ybc,ybt,yaw];unfold CO;rw[ya1];exact List.length_filter_le _ _
 have h3:∀i,(GN D ts i).length<=24:=λi=>by
  have:=Ec (g:=EW D ts i) (m:=ts.length) (L:=List.range (D.getD i []).length) λk _=>h2 i k
  rw[yb9]at this;exact yaf this (dl i)
 have:=Ec (g:=GN D ts) (m:=24) (L:=List.range D.length) λk _=>h3 k
 rw[yb9,hD]at this;unfold Ct
 omega
end
abbrev sL(ns:List Int)(P M H:T)(W:T)(due:T)(x6 x7 x8 x9 x10:Option T):AA:=[some (B0 ns),some P,some M,some H,some W,some due,x6,x7,x8,x9,x10]
theorem law_true(ns:List Int)(hns:ns.length<=63):K7 [B0 ns]=some (.ok (.bl true)):=by
 obtain⟨Ps,h,pe⟩:=zfy (ns:=ns);have F:=L3 ns;have F2:=L1 ns;have hm:=ms_ok h;have hr:=rm_ok h;have hf:=fw_ok h;have hw:=zez h;have sp:=MV h.p;have pl:Ps.length<=100000:=by have:=h.l5;omega
 have ro:=zfg h.p h.l5 (QB h);have ti:=HI h.p Ps.length (ya8 _);rw[ybg]at ti;have ok:=Pk hm hr hf hw
 have eR:((CP Ps).map λx=>T.tup [.str (BL x.1),.lst x.2])=(Al (Ps.map AX)).rs.map AZ:=by
  rw[zfz ti,yap];unfold Al Ah;rw[He,yap]
  rfl
 rw[eR]at ro;have to:Eh [.lst ((Ps.map AX).map AI)]=some (.ok (AI (Al (Ps.map AX)))):=(zjz hm hr hf).elim (·.2) λz=>absurd z.1 (by omega)
 have Dq:BK (AD 0) (mC (.bl true)) Ol (Ps.map AU) [none]=some ((Ps.map AX).map AI):=by
  rw[yap]
  exact C4 AU (λP=>AI (AX P)) (λτ=>∃a,τ=[a]) _ _ ⟨none,rfl⟩ λP hP τ hI=>by
   obtain⟨a,rfl⟩:=hI;have k:=zir (h.p P hP) (h.nd hP);have sd:=(h.p P hP).sr;exact⟨[some (AU P)],by simp![],by unfold Ol;simp![sd,AJ _ sd,AV,A4,k],_,rfl⟩
 have sm:=EM hm.m
 have m0:Ps.map AX≠[]:=λz=>by
  have:=hm.l1;rw[z]at this;exact absurd this (by decide)
 have zs:FT ((Ps.map AX).map AI) (Ps.map AU)=Ps.map λP=>T.tup [AI (AX P),AU P]:=by rw[yap];exact Pg (λP=>AI (AX P)) AU Ps
 have eW:(Al (Ps.map AX)).ws=Ps.flatMap Pt.ws:=Kr Ps;have wl:(Ps.flatMap Pt.ws).length<=7:=h.wl;have k1:=E4 ok;have kw:=M7 ok;have kr:=M8 ok;have ii:=Fp (Al (Ps.map AX))
 have qn:Ba (.lst ((Al (Ps.map AX)).nm.map T.str)) (.lst ((Al (Ps.map AX)).nm.map T.str))=some (.bl false)/\Bm (.lst ((Al (Ps.map AX)).nm.map T.str)) (.lst ((Al (Ps.map AX)).nm.map T.str))=some (.bl true):=by
  have:=Ht (Ed ok.tn) (by decide) rfl (Ed ok.tn)
  exact⟨this.2,this.1⟩
 have qw:Ba (.lst ((Al (Ps.map AX)).ws.map T.str)) (.lst ((Ps.flatMap Pt.ws).map T.str))=some (.bl false):=by
  rw[<- eW];exact(Ht (Ed ok.tw) (by decide) rfl (Ed ok.tw)).2
 have sdu:A5 ((Al (Ps.map AX)).rs.map AZ)=true:=MR ok.r;have ldu:((Al (Ps.map AX)).rs.map AZ).length<=100000:=by rw[ya1];have:=ok.r.l64;omega
 have lc11:BK (Aa 2 (AK (AD 0) (AK (AD 1) Ac))) (mC (.bl true)) Oo ((Al (Ps.map AX)).rs.map AZ) [none,none]=some ((Al (Ps.map AX)).nm.map T.str):=by
  unfold Mc.nm;rw[yap]
  exact C4 AZ (λr=>T.str r.1) (λτ=>∃a b,τ=[a,b]) _ _ ⟨none,none,rfl⟩ λr hr' τ hI=>by
   obtain⟨a,b,rfl⟩:=hI;exact⟨[some (.str r.1),some (.lst r.2)],by simp![],by unfold Oo;simp![],_,_,rfl⟩
 have lc22:BK (Aa 2 (AK (AD 0) (AK (AD 1) Ac))) (mC (.bl true)) VE ((Al (Ps.map AX)).rs.map AZ) [none,none]=some ((Al (Ps.map AX)).nm.map T.str):=lc11
 have stay:∀r∈(Al (Ps.map AX)).rs,Ei [AI (Al (Ps.map AX)),.str r.1]=some (.ok (.own r.2))/\A5 r.2=true/\Ba (.lst r.2) (.lst r.2)=some (.bl false):=λr hr'=>by
  obtain⟨i,hi,rfl⟩:=yct hr';obtain⟨g1,g2⟩:=ok.r.lk _ hr';exact⟨Sg ok hi,g1.sh,(Ht (Sw ok.tw LX g1) (by decide) rfl (Sw ok.tw LX g1)).2⟩
 have nC:=zm9 ok;have ciW:EO Ge (AI (Al (Ps.map AX)))=some (.bl true):=rfl
 have parts:∀P∈Ps,(AI (AX P)).sh=true/\ET [AI (AX P)]=some (.ok (.own (P.ws.map T.str)))/\Dx [AI (AX P)]=some (.ok (.own (P.nm.map T.str)))/\EU [AI (AX P)]=some (.ok (.own ((List.replicate P.dn (Bk P)).map AM)))/\Ba (.lst (P.ws.map T.str)) (.lst (P.ws.map T.str))=some (.bl false)/\Ba (.lst (P.nm.map T.str)) (.lst (P.nm.map T.str))=some (.bl false):=λP hP=>by
  have k:=h.mc hP;exact⟨E4 k,M7 k,M8 k,M9 k,(Ht (Ed k.tw) (by decide) rfl (Ed k.tw)).2,(Ht (Ed k.tn) (by decide) rfl (Ed k.tn)).2⟩
 have lo9:∀(M H W due:T) (x7 x8 x9 x10:Option T),∃y7,B8 (AD 7) IQ (Ps.map AU) (sL ns (.lst (Ps.map AU)) M H W due (some (.lst [])) x7 x8 x9 x10)=some (.nx (sL ns (.lst (Ps.map AU)) M H W due (some (.lst ((Ps.flatMap Pt.ws).map T.str))) y7 x8 x9 x10)):=λM H W due x7 x8 x9 x10=>by
  obtain⟨τ,e,y,rfl⟩:=Eb (b:=AD 7) (body:=IQ) AU (λ(a:List Str) τ=>∃y,τ=sL ns (.lst (Ps.map AU)) M H W due (some (.lst (a.map T.str))) y x8 x9 x10) Pt.ws 1000 Ps [] (sL ns (.lst (Ps.map AU)) M H W due (some (.lst [])) x7 x8 x9 x10) ⟨x7,rfl⟩ (by rw[yb4];omega) λP hP a τ hS hN=>by
   obtain⟨y,rfl⟩:=hS;have sr:=(h.p P hP).sr;have l1:a.length+P.ws.length<=100000:=by omega
   refine⟨sL ns (.lst (Ps.map AU)) M H W due (some (.lst (a.map T.str))) (some (AU P)) x8 x9 x10,by simp![],sL ns (.lst (Ps.map AU)) M H W due (some (.lst ((a++P.ws).map T.str))) (some (AU P)) x8 x9 x10,?_,_,rfl⟩
   have ss:BD (a.map T.str++P.ws.map T.str)=a.map T.str++P.ws.map T.str:=by rw[<- yat];exact A4 _
   rw[yat];unfold IQ
   simp![sr,AV,A4,ya1,l1,ss]
  rw[ybe]at e;exact⟨y,e⟩
 have lo13:∀(M H U:T) (x6 x7 x8 x9 x10:Option T),∃y8 y9,B8 (Aa 2 (AK (AD 8) (AK (AD 9) Ac))) IT ((Al (Ps.map AX)).rs.map AZ) (sL ns (.lst (Ps.map AU)) M H (AI (Al (Ps.map AX))) U x6 x7 x8 x9 x10)=some (.nx (sL ns (.lst (Ps.map AU)) M H (AI (Al (Ps.map AX))) U x6 x7 y8 y9 x10)):=λM H U x6 x7 x8 x9 x10=>by
  obtain⟨τ,e,y8,y9,rfl⟩:=DZ (b:=Aa 2 (AK (AD 8) (AK (AD 9) Ac))) (body:=IT) (ts:=(Al (Ps.map AX)).rs.map AZ) (τ:=sL ns (.lst (Ps.map AU)) M H (AI (Al (Ps.map AX))) U x6 x7 x8 x9 x10) (λi τ=>∃y8 y9,τ=sL ns (.lst (Ps.map AU)) M H (AI (Al (Ps.map AX))) U x6 x7 y8 y9 x10) ⟨x8,x9,rfl⟩ λi t τ h1 h2=>by
   obtain⟨y8,y9,rfl⟩:=h2;obtain⟨r,hr',rfl⟩:=yag.mp (yak h1);obtain⟨g1,g2,g3⟩:=stay r hr';have g4:=AJ _ g2;refine⟨sL ns (.lst (Ps.map AU)) M H (AI (Al (Ps.map AX))) U x6 x7 (some (.str r.1)) (some (.lst r.2)) x10,by simp![],sL ns (.lst (Ps.map AU)) M H (AI (Al (Ps.map AX))) U x6 x7 (some (.str r.1)) (some (.lst r.2)) x10,?_,_,_,rfl⟩
   unfold IT;generalize AI (Al (Ps.map AX))=X at *
   simp![-CM,ii,k1,Cj _ k1,g1,g2,g3,g4]
  exact⟨y8,y9,e⟩
 have lo17:∀(M H W U:T) (x6 x7 x8 x9 x10:Option T),∃y7 y10,B8 (Aa 2 (AK (AD 10) (AK (AD 7) Ac))) IS (Ps.map λP=>T.tup [AI (AX P),AU P]) (sL ns (.lst (Ps.map AU)) M H W U x6 x7 x8 x9 x10)=some (.nx (sL ns (.lst (Ps.map AU)) M H W U x6 y7 x8 x9 y10)):=λM H W U x6 x7 x8 x9 x10=>by
  obtain⟨τ,e,y7,y10,rfl⟩:=DZ (b:=Aa 2 (AK (AD 10) (AK (AD 7) Ac))) (body:=IS) (ts:=Ps.map λP=>T.tup [AI (AX P),AU P]) (τ:=sL ns (.lst (Ps.map AU)) M H W U x6 x7 x8 x9 x10) (λi τ=>∃y7 y10,τ=sL ns (.lst (Ps.map AU)) M H W U x6 y7 x8 x9 y10) ⟨x7,x10,rfl⟩ λi t τ h1 h2=>by
   obtain⟨y7,y10,rfl⟩:=h2;obtain⟨P,hP,rfl⟩:=yag.mp (yak h1);obtain⟨g1,g2,g3,g4,g5,g6⟩:=parts P hP;have sr:=(h.p P hP).sr;have i2:=Fp (AX P);have rl:=(h.p P hP).rl;have lr:P.rs.length<=100000:=by omega
   have lc18:BK (Aa 2 (AK (AD 0) (AK (AD 1) Ac))) (mC (.bl true)) Om (P.rs.map AZ) [none,none]=some (P.nm.map T.str):=by
    unfold Pt.nm;rw[yap]
    exact C4 AZ (λr=>T.str r.1) (λτ=>∃a b,τ=[a,b]) _ _ ⟨none,none,rfl⟩ λr hr' τ hI=>by
     obtain⟨a,b,rfl⟩:=hI;exact⟨[some (.str r.1),some (.lst r.2)],by simp![],by unfold Om;simp![],_,_,rfl⟩
   have sds:A5 ((List.replicate P.dn (Bk P)).map AM)=true:=(h.mc hP).sd;have ld:(((List.replicate P.dn (Bk P)).map AM).length:Int)=(P.dn:Int):=by rw[ya1,ybz]
   generalize (List.replicate P.dn (Bk P)).map AM=D at *;generalize hX:AI (AX P)=X at *;refine⟨sL ns (.lst (Ps.map AU)) M H W U x6 (some (AU P)) x8 x9 (some X),by simp![],sL ns (.lst (Ps.map AU)) M H W U x6 (some (AU P)) x8 x9 (some X),?_,_,_,rfl⟩
   unfold IS;refine sq (τ':=sL ns (.lst (Ps.map AU)) M H W U x6 (some (AU P)) x8 x9 (some X)) (by simp![-CM,i2,g1,Cj _ g1,g2,g3,g5,g6,sr,AJ _ sr,AV,A4,ya1,lr,lc18]) ?_
   simp![-CM,i2,g1,Cj _ g1,g4,sr,AV,sds,AJ _ sds,ld,G0]
  exact⟨y7,y10,e⟩
 have key:Ja [some (B0 ns),none,none,none,none,none,none,none,none,none,none]=some (.rt (.bl true)):=by
  generalize hM:Ps.map AX=Ms at *;generalize hX:AI (Al Ms)=X at *;generalize hdu:(Al Ms).rs.map AZ=U at *;unfold Ja;refine sq (τ':=[some (B0 ns),some (.lst (Ps.map AU)),none,none,none,none,none,none,none,none,none]) (by simp![F,F2,pe,AJ _ sp]) ?_
  refine sq (τ':=[some (B0 ns),some (.lst (Ps.map AU)),some (.lst (Ms.map AI)),none,none,none,none,none,none,none,none]) (by simp![sp,AJ _ sp,ya1,pl,Dq,AJ _ sm]) ?_
  refine zl9 (t:=.lst (Ms.map AI)) rfl (by show((!false) && A5 (Ms.map AI))=true;rw[sm];rfl) λps=>?_
  have sL1:=RL (ps:=ps) hm.m;have un:=RK ps Ms;have ap:=zfu (ps:=ps) m0 hm.m nC
  have nl:=zm7 (l:=EH ps Ms) (λz=>by
   have:=zfs ps Ms;rw[z]at this;exact m0 (yc1.mp this.symm)) zft
  show(AG _ _) [some (B0 ns),some (.lst (Ps.map AU)),some (.lst (EH ps Ms)),none,none,none,none,none,none,none,none]=_;generalize EH ps Ms=L at *
  have gu:gU Eh [.lst L]=some (.ok X):=by
   show Eh [.lst (L.map unl1)]=_;rw[un];exact to
  refine sq (τ':=[some (B0 ns),some (.lst (Ps.map AU)),some (.lst L),some (.own L),none,none,none,none,none,none,none]) (by simp![sL1,AJ _ sL1]) ?_
  refine sq (τ':=[some (B0 ns),some (.lst (Ps.map AU)),some (.lst L),some (.own L),some X,none,none,none,none,none,none]) (by simp![Fu,sL1,AJ _ sL1,gu,ap,Cj _ k1]) ?_
  refine sq (τ':=[some (B0 ns),some (.lst (Ps.map AU)),some (.lst L),some (.own L),some X,none,none,none,none,none,none]) (by simp![k1,Cj _ k1,ciW,sL1,AJ _ sL1,nl]) ?_
  refine sq (τ':=sL ns (.lst (Ps.map AU)) (.lst L) (.own L) X (.lst U) none none none none none) (by simp![sp,AJ _ sp,ro,AJ _ sdu]) ?_
  refine sq (τ':=sL ns (.lst (Ps.map AU)) (.lst L) (.own L) X (.lst U) (some (.lst [])) none none none none) (by simp![]) ?_
  obtain⟨y7,e9⟩:=lo9 (.lst L) (.own L) X (.lst U) none none none none;refine sq (τ':=sL ns (.lst (Ps.map AU)) (.lst L) (.own L) X (.lst U) (some (.lst ((Ps.flatMap Pt.ws).map T.str))) y7 none none none) (by simp![sp,AJ _ sp,e9]) ?_
  refine sq (τ':=sL ns (.lst (Ps.map AU)) (.lst L) (.own L) X (.lst U) (some (.lst ((Ps.flatMap Pt.ws).map T.str))) y7 none none none) (by simp![-CM,ii,k1,Cj _ k1,kw,kr,AV,A4,qw,qn.1,sdu,AJ _ sdu,ldu,lc11]) ?_
  obtain⟨y8,y9,e13⟩:=lo13 (.lst L) (.own L) (.lst U) (some (.lst ((Ps.flatMap Pt.ws).map T.str))) y7 none none none;refine sq (τ':=sL ns (.lst (Ps.map AU)) (.lst L) (.own L) X (.lst U) (some (.lst ((Ps.flatMap Pt.ws).map T.str))) y7 y8 y9 none) (by simp![sdu,AJ _ sdu,e13]) ?_
  refine sq (τ':=sL ns (.lst (Ps.map AU)) (.lst L) (.own []) X (.lst U) (some (.lst ((Ps.flatMap Pt.ws).map T.str))) y7 y8 y9 none) (by simp![]) ?_
  have un2:GR (.lst L)=.lst (Ms.map AI):=by
   show T.lst (L.map unl1)=_;rw[un]
  refine sq (τ':=sL ns (.lst (Ps.map AU)) (.lst (Ms.map AI)) (.own []) X (.lst U) (some (.lst ((Ps.flatMap Pt.ws).map T.str))) y7 y8 y9 none) (by simp![GV,un2]) ?_
  obtain⟨z7,z10,e17⟩:=lo17 (.lst (Ms.map AI)) (.own []) X (.lst U) (some (.lst ((Ps.flatMap Pt.ws).map T.str))) y7 y8 y9 none;refine sq (τ':=sL ns (.lst (Ps.map AU)) (.lst (Ms.map AI)) (.own []) X (.lst U) (some (.lst ((Ps.flatMap Pt.ws).map T.str))) z7 y8 y9 z10) (by simp![sm,AJ _ sm,sp,AJ _ sp,zs,e17]) ?_
  simp![-CM,ii,k1,Cj _ k1,kr,AV,A4,qn.2,sdu,AJ _ sdu,ldu,lc22]
 unfold K7
 simp![F,F2,key]
end
end Zl
namespace Zl
open PySem PySem.W L2 Zw Zx Pu Hd
abbrev pw:Program:=PySem.Challenge.pw_zonewalk_k24_whole_rooms
abbrev ML:OpenLaw:=PySem.Challenge.rw_zonewalk_k24_whole_rooms
abbrev md:String:="__module__"
abbrev fl:String:="__firstlineno__"
abbrev sa:String:="__static_attributes__"
abbrev dc:String:="__doc__"
noncomputable abbrev cf:Str:="/claim/cut.py"
noncomputable def tO(l:List Value):Obj:=⟨(.type "tuple"),none,(.seq (Array.mk l) 0),Array.mk []⟩
noncomputable def dO(l:List DictEntry)(n:Nat):Obj:=⟨(.type "dict"),none,(.dict (Array.mk l) n),Array.mk []⟩
def eb:List Value:=[(.type "ValueError"),(.type "Exception"),(.type "BaseException"),(.type "object")]
noncomputable def yO(a:Str)(b c:List Value)(n:Addr)(d:List Value)(r ta tb:Nat)(w:String):Obj:=⟨(.type "type"),none,(.cls ⟨a,b,c,n,a,true,[],d,false,none,false⟩),Array.mk [(some (.ref r)),none,(some (.str a ta)),(some (.str a tb)),(some (.builtin w)),(some (.bool true))]⟩
def cP(a:Str)(ta:Nat)(b:Str)(tb tf:Nat)(r n k:Int)(r1:Nat)(z:Int)(v1 v2 v3 v4 v5:Value)(x y:Int)(tg:Nat):Obj:=⟨(.type "code"),none,(.fields (Array.mk [(.str a ta),(.str b tb),(.str cf tf),(.int r 0),(.int n 0),(.int 0 0),(.int 0 0),(.int k 0),(.ref r1),(.bool true),(.int z 0),v1,v2,v3,v4,v5,(.int x 0),(.int y 0),(.str cf tg)])),Array.mk []⟩
noncomputable def cO(a:Str)(ta tb tf:Nat)(r n k:Int)(r1:Nat)(z:Int)(r2 r3 r4 r5:Nat)(x y:Int)(tg:Nat):Obj:=cP a ta a tb tf r n k r1 z (.ref r2) .none (.ref r3) (.ref r4) (.ref r5) x y tg
def fO(a b:Str)(s:Stmt)(d:Value)(m:Str)(t c:Nat)(y:Value):Obj:=⟨(.type "function"),none,(.func (fnOf a b (FN s) (A9 s) (AL s) d .none .none (.str m t) none (.ref c) y)),Array.mk []⟩
def gO(a:Str)(s:Stmt)(m:Str)(t c:Nat):Obj:=fO a a s .none m t c .none
def o2(P:Params):Obj:=⟨.none,none,(.dict (Array.mk []) 0),Array.mk []⟩
def o3(P:Params):Obj:=dO [en P "__name__" 165 (.str "law_zonewalk_k24_whole_rooms" 587),en P "__doc__" 166 .none,en P "__package__" 167 .none,en P "__loader__" 168 (.builtin "__main__.__loader__#opaque"),en P "__spec__" 169 .none,en P "__annotations__" 170 (.ref 6),en P "__builtins__" 171 (.ref 4),en P "__file__" 173 (.str "/claim/cut.py" 172),en P "__cached__" 174 .none,en P "_wall" 193 (.ref 21),en P "WalkError" 213 (.ref 31),en P "BadMachine" 229 (.ref 44),en P "TooMany" 245 (.ref 56),en P "is_whole" 254 (.ref 65),en P "WORDS" 262 (.ref 66),en P "STAY_WORDS" 265 (.ref 67),en P "is_look" 274 (.ref 74),en P "is_number" 281 (.ref 81),en P "is_guard" 287 (.ref 86),en P "MOST_WATCHES" 291 (.int 7 290),en P "MOST_ROOMS" 293 (.int 64 292),en P "MOST_DOORS" 295 (.int 200 294),en P "is_small_letter" 302 (.ref 93),en P "is_name" 308 (.ref 98),en P "is_watch_name" 315 (.ref 105),en P "is_room_name" 321 (.ref 110),en P "is_sign" 328 (.ref 117),en P "own_copy" 335 (.ref 124),en P "Door" 387 (.ref 156),en P "Machine" 453 (.ref 210),en P "check_watches" 459 (.ref 219),en P "are_unlike" 466 (.ref 226),en P "check_rooms" 472 (.ref 231),en P "check_doors" 482 (.ref 238),en P "are_noughts" 488 (.ref 243),en P "MOST_PARTS" 492 (.int 6 491),en P "together" 498 (.ref 248),en P "checked_takings" 504 (.ref 253),en P "check_parts" 510 (.ref 258),en P "all_watches" 519 (.ref 265),en P "all_takings" 525 (.ref 270),en P "whole_name" 532 (.ref 277),en P "whole_stay" 543 (.ref 284),en P "whole_ways" 549 (.ref 289),en P "shares_of" 565 (.ref 296),en P "starts_from" 571 (.ref 301),en P "whole_door" 586 (.ref 308),en P "_law_cell_at" 596 (.ref 315),en P "_law_stream" 608 (.ref 322),en P "_law_names" 624 (.ref 329),en P "_law_stay" 636 (.ref 336),en P "_law_parts" 642 (.ref 341),en P "_law_machine" 648 (.ref 346),en P "_law_rooms" 654 (.ref 351),en P "law" 660 (.ref 356)] 55
def o22(P:Params):Obj:=tO [(.type "ValueError")]
def o29(P:Params):Obj:=tO []
def o30(P:Params):Obj:=dO [en P md 203 (.str "zonewalk.errors" 194),en P fl 207 (.int 5 206),en P sa 208 (.ref 29),en P "__weakref__" 210 (.ref 32),en P dc 211 .none] 3
def o31(P:Params):Obj:=yO "WalkError" [(.type "ValueError")] ([(.ref 31)]++eb) 30 [(.ref 44),(.ref 56)] 22 196 204 "ValueError.__new__"
def o32(P:Params):Obj:=⟨(.type "getset_descriptor"),none,(.fields (Array.mk [(.str "__weakref__" 209),(.ref 31),(.builtin "ExceptionGroup.__weakref__"),.none])),Array.mk []⟩
def o35(P:Params):Obj:=tO [(.ref 31)]
def o42(P:Params):Obj:=tO []
def o43(P:Params):Obj:=dO [en P md 221 (.str "zonewalk.errors" 194),en P fl 225 (.int 7 224),en P sa 226 (.ref 42),en P dc 227 .none] 2
def o44(P:Params):Obj:=yO "BadMachine" [(.ref 31)] ([(.ref 44),(.ref 31)]++eb) 43 [] 35 214 222 "ValueError.__new__"
def o47(P:Params):Obj:=tO [(.ref 31)]
def o54(P:Params):Obj:=tO []
def o55(P:Params):Obj:=dO [en P md 237 (.str "zonewalk.errors" 194),en P fl 241 (.int 9 240),en P sa 242 (.ref 54),en P dc 243 .none] 2
def o56(P:Params):Obj:=yO "TooMany" [(.ref 31)] ([(.ref 56),(.ref 31)]++eb) 55 [] 47 230 238 "ValueError.__new__"
def o64(_:Params):=cO "is_whole" 248 249 250 12 1 3 59 181 60 61 62 63 252 12 253
def Rh(_:Params):=gO "is_whole" (AY 6) "zonewalk.fractions" 246 64
def Rf(P:Params):Obj:=tO [(.str "<" 257),(.str "<=" 258),(.str ">" 259),(.str ">=" 260),(.str "=" 261)]
def Rc(P:Params):Obj:=tO [(.str "<" 263),(.str "<=" 264)]
def o73(_:Params):=cO "is_look" 266 267 268 17 3 3 68 181 69 70 71 72 272 17 273
def Rb(_:Params):=gO "is_look" (AY 10) "zonewalk.looks" 255 73
def o80(_:Params):=cO "is_number" 275 276 277 21 1 3 75 181 76 77 78 79 279 21 280
def Ra(_:Params):=gO "is_number" (AY 11) "zonewalk.looks" 255 80
def o85(P:Params):Obj:=cP "is_guard" 282 "is_guard" 283 284 23 3 3 82 181 (.ref 83) .none .none .none (.ref 84) 285 23 286
def R9(_:Params):=gO "is_guard" (AY 12) "zonewalk.looks" 255 85
def o92(_:Params):=cO "is_small_letter" 296 297 298 29 1 3 87 181 88 89 90 91 300 29 301
def R8(_:Params):=gO "is_small_letter" (AY 17) "zonewalk.machines" 288 92
def o97(P:Params):Obj:=cP "is_name" 303 "is_name" 304 305 31 1 3 94 181 (.ref 95) .none .none .none (.ref 96) 306 31 307
def R7(_:Params):=gO "is_name" (AY 18) "zonewalk.machines" 288 97
def o104(_:Params):=cO "is_watch_name" 309 310 311 33 1 3 99 181 100 101 102 103 313 33 314
def S7(_:Params):=gO "is_watch_name" (AY 19) "zonewalk.machines" 288 104
def o109(P:Params):Obj:=cP "is_room_name" 316 "is_room_name" 317 318 35 1 3 106 181 (.ref 107) .none .none .none (.ref 108) 319 35 320
def S6(_:Params):=gO "is_room_name" (AY 20) "zonewalk.machines" 288 109
def o116(_:Params):=cO "is_sign" 322 323 324 39 1 3 111 181 112 113 114 115 326 39 327
def SY(_:Params):=gO "is_sign" (AY 21) "zonewalk.machines" 288 116
def o123(_:Params):=cO "own_copy" 329 330 331 43 1 3 118 181 119 120 121 122 333 43 334
def SX(_:Params):=gO "own_copy" (AY 22) "zonewalk.machines" 288 123
def J1(P:Params):Obj:=tO [(.str "" 348)]
def o138(P:Params):Obj:=cP "__init__" 349 "Door.__init__" 350 351 47 6 3 133 181 (.ref 134) .none (.ref 135) (.ref 136) (.ref 137) 358 47 359
def SW(_:Params):=fO "__init__" "Door.__init__" (Cb 23 0) (.ref 132) "zonewalk.machines" 288 138 .none
def o145(P:Params):Obj:=cP "asks" 361 "Door.asks" 362 363 54 1 3 140 181 (.ref 141) .none (.ref 142) (.ref 143) (.ref 144) 365 54 366
def SV(_:Params):=fO "asks" "Door.asks" (Cb 23 1) .none "zonewalk.machines" 288 145 .none
def o152(P:Params):Obj:=cP "sets" 368 "Door.sets" 369 370 57 1 3 147 181 (.ref 148) .none (.ref 149) (.ref 150) (.ref 151) 372 57 373
def SU(_:Params):=fO "sets" "Door.sets" (Cb 23 2) .none "zonewalk.machines" 288 152 .none
def o154(P:Params):Obj:=tO [(.str "end" 375),(.str "guard" 376),(.str "noughts" 377),(.str "sign" 378),(.str "start" 379)]
def o155(P:Params):Obj:=dO [en P md 343 (.str "zonewalk.machines" 288),en P fl 347 (.int 45 346),en P "__init__" 360 (.ref 139),en P "asks" 367 (.ref 146),en P "sets" 374 (.ref 153),en P sa 380 (.ref 154),en P "__dict__" 382 (.ref 157),en P "__weakref__" 384 (.ref 158),en P dc 385 .none] 4
def o156(P:Params):Obj:=⟨(.type "type"),none,(.cls ⟨"Door",[(.type "object")],[(.ref 156),(.type "object")],155,"Door",true,[],[],false,none,false⟩),Array.mk [none,none,(some (.str "Door" 336)),(some (.str "Door" 344)),(some (.builtin "object.__new__")),(some (.bool true))]⟩
def o157(P:Params):Obj:=⟨(.type "getset_descriptor"),none,(.fields (Array.mk [(.str "__dict__" 381),(.ref 156),(.builtin "function.__dict__"),(.builtin "function.__dict__#set")])),Array.mk []⟩
def o158(P:Params):Obj:=⟨(.type "getset_descriptor"),none,(.fields (Array.mk [(.str "__weakref__" 383),(.ref 156),(.builtin "ExceptionGroup.__weakref__"),.none])),Array.mk []⟩
def o171(P:Params):Obj:=cP "__init__" 400 "Machine.__init__" 401 402 61 4 3 168 181 (.ref 169) .none .none .none (.ref 170) 403 61 404
def SS(_:Params):=fO "__init__" "Machine.__init__" (Cb 24 0) .none "zonewalk.machines" 288 171 .none
def o178(P:Params):Obj:=cP "watches" 406 "Machine.watches" 407 408 73 1 3 173 181 (.ref 174) .none (.ref 175) (.ref 176) (.ref 177) 410 73 411
def SR(_:Params):=fO "watches" "Machine.watches" (Cb 24 1) .none "zonewalk.machines" 288 178 .none
def o185(P:Params):Obj:=cP "rooms" 413 "Machine.rooms" 414 415 76 1 3 180 181 (.ref 181) .none (.ref 182) (.ref 183) (.ref 184) 417 76 418
def SQ(_:Params):=fO "rooms" "Machine.rooms" (Cb 24 2) .none "zonewalk.machines" 288 185 .none
def o192(P:Params):Obj:=cP "doors" 420 "Machine.doors" 421 422 79 1 3 187 181 (.ref 188) .none (.ref 189) (.ref 190) (.ref 191) 424 79 425
def SO(_:Params):=fO "doors" "Machine.doors" (Cb 24 3) .none "zonewalk.machines" 288 192 .none
def o199(P:Params):Obj:=cP "stay" 427 "Machine.stay" 428 429 82 2 3 194 181 (.ref 195) .none (.ref 196) (.ref 197) (.ref 198) 432 82 433
def SN(_:Params):=fO "stay" "Machine.stay" (Cb 24 4) .none "zonewalk.machines" 288 199 .none
def o208(P:Params):Obj:=tO [(.str "door_list" 443),(.str "stays" 444),(.str "watch_names" 445)]
def o209(P:Params):Obj:=dO [en P md 395 (.str "zonewalk.machines" 288),en P fl 399 (.int 59 398),en P "__init__" 405 (.ref 172),en P "watches" 412 (.ref 179),en P "rooms" 419 (.ref 186),en P "doors" 426 (.ref 193),en P "stay" 434 (.ref 200),en P "watch_number" 442 (.ref 207),en P sa 446 (.ref 208),en P "__dict__" 448 (.ref 211),en P "__weakref__" 450 (.ref 212),en P dc 451 .none] 4
def o210(P:Params):Obj:=⟨(.type "type"),none,(.cls ⟨"Machine",[(.type "object")],[(.ref 210),(.type "object")],209,"Machine",true,[],[],false,none,false⟩),Array.mk [none,none,(some (.str "Machine" 388)),(some (.str "Machine" 396)),(some (.builtin "object.__new__")),(some (.bool true))]⟩
def o211(P:Params):Obj:=⟨(.type "getset_descriptor"),none,(.fields (Array.mk [(.str "__dict__" 447),(.ref 210),(.builtin "function.__dict__"),(.builtin "function.__dict__#set")])),Array.mk []⟩
def o212(P:Params):Obj:=⟨(.type "getset_descriptor"),none,(.fields (Array.mk [(.str "__weakref__" 449),(.ref 210),(.builtin "ExceptionGroup.__weakref__"),.none])),Array.mk []⟩
def o218(P:Params):Obj:=cP "check_watches" 454 "check_watches" 455 456 87 1 3 215 181 (.ref 216) .none .none .none (.ref 217) 457 87 458
def SM(_:Params):=gO "check_watches" (AY 25) "zonewalk.machines" 288 218
def o225(_:Params):=cO "are_unlike" 460 461 462 92 1 3 220 181 221 222 223 224 464 92 465
def SK(_:Params):=gO "are_unlike" (AY 26) "zonewalk.machines" 288 225
def o230(P:Params):Obj:=cP "check_rooms" 467 "check_rooms" 468 469 94 2 3 227 181 (.ref 228) .none .none .none (.ref 229) 470 94 471
def SJ(_:Params):=gO "check_rooms" (AY 27) "zonewalk.machines" 288 230
def o237(_:Params):=cO "check_doors" 473 474 475 104 3 3 232 181 233 234 235 236 480 104 481
def SI(_:Params):=gO "check_doors" (AY 28) "zonewalk.machines" 288 237
def o242(P:Params):Obj:=cP "are_noughts" 483 "are_noughts" 484 485 116 2 3 239 181 (.ref 240) .none .none .none (.ref 241) 486 116 487
def SH(_:Params):=gO "are_noughts" (AY 29) "zonewalk.machines" 288 242
def o247(P:Params):Obj:=cP "together" 493 "together" 494 495 122 1 3 244 181 (.ref 245) .none .none .none (.ref 246) 496 122 497
def SG(_:Params):=gO "together" (AY 32) "zonewalk.together" 489 247
def o252(P:Params):Obj:=cP "checked_takings" 499 "checked_takings" 500 501 127 1 3 249 181 (.ref 250) .none .none .none (.ref 251) 502 127 503
def SF(_:Params):=gO "checked_takings" (AY 33) "zonewalk.together" 489 252
def o257(P:Params):Obj:=cP "check_parts" 505 "check_parts" 506 507 134 1 3 254 181 (.ref 255) .none .none .none (.ref 256) 508 134 509
def SE(_:Params):=gO "check_parts" (AY 34) "zonewalk.together" 489 257
def o264(_:Params):=cO "all_watches" 511 512 513 142 1 3 259 181 260 261 262 263 517 142 518
def SD(_:Params):=gO "all_watches" (AY 35) "zonewalk.together" 489 264
def o269(P:Params):Obj:=cP "all_takings" 520 "all_takings" 521 522 147 1 3 266 181 (.ref 267) .none .none .none (.ref 268) 523 147 524
def SA(_:Params):=gO "all_takings" (AY 36) "zonewalk.together" 489 269
def o276(_:Params):=cO "whole_name" 526 527 528 157 1 3 271 181 272 273 274 275 530 157 531
def Rz(_:Params):=gO "whole_name" (AY 37) "zonewalk.together" 489 276
def o283(_:Params):=cO "whole_stay" 533 534 535 159 2 3 278 181 279 280 281 282 541 159 542
def Ry(_:Params):=gO "whole_stay" (AY 38) "zonewalk.together" 489 283
def o288(P:Params):Obj:=cP "whole_ways" 544 "whole_ways" 545 546 164 2 3 285 181 (.ref 286) .none .none .none (.ref 287) 547 164 548
def Rx(_:Params):=gO "whole_ways" (AY 39) "zonewalk.together" 489 288
def o295(_:Params):=cO "shares_of" 550 551 552 174 3 3 290 181 291 292 293 294 563 174 564
def Rw(_:Params):=gO "shares_of" (AY 40) "zonewalk.together" 489 295
def o300(P:Params):Obj:=cP "starts_from" 566 "starts_from" 567 568 187 3 3 297 181 (.ref 298) .none .none .none (.ref 299) 569 187 570
def Rv(_:Params):=gO "starts_from" (AY 41) "zonewalk.together" 489 300
def o307(_:Params):=cO "whole_door" 572 573 574 189 3 3 302 181 303 304 305 306 584 189 585
noncomputable def Rt(_:Params):=gO "whole_door" (AY 42) "zonewalk.together" 489 307
def o314(_:Params):=cO "_law_cell_at" 589 590 591 200 2 3 309 181 310 311 312 313 594 200 595
def Rq(_:Params):=gO "_law_cell_at" (AY 44) "law_zonewalk_k24_whole_rooms" 587 314
def o321(_:Params):=cO "_law_stream" 597 598 599 204 2 3 316 181 317 318 319 320 606 204 607
def Ro(_:Params):=gO "_law_stream" (AY 45) "law_zonewalk_k24_whole_rooms" 587 321
def o328(_:Params):=cO "_law_names" 609 610 611 217 2 3 323 181 324 325 326 327 622 217 623
def Rn(_:Params):=gO "_law_names" (AY 46) "law_zonewalk_k24_whole_rooms" 587 328
def o335(_:Params):=cO "_law_stay" 625 626 627 229 3 3 330 181 331 332 333 334 634 229 635
def Rm(_:Params):=gO "_law_stay" (AY 47) "law_zonewalk_k24_whole_rooms" 587 335
def o340(P:Params):Obj:=cP "_law_parts" 637 "_law_parts" 638 639 236 1 3 337 181 (.ref 338) .none .none .none (.ref 339) 640 236 641
def Rl(_:Params):=gO "_law_parts" (AY 48) "law_zonewalk_k24_whole_rooms" 587 340
def o345(P:Params):Obj:=cP "_law_machine" 643 "_law_machine" 644 645 256 1 3 342 181 (.ref 343) .none .none .none (.ref 344) 646 256 647
def Rk(_:Params):=gO "_law_machine" (AY 49) "law_zonewalk_k24_whole_rooms" 587 345
def o350(P:Params):Obj:=cP "_law_rooms" 649 "_law_rooms" 650 651 260 1 3 347 181 (.ref 348) .none .none .none (.ref 349) 652 260 653
noncomputable def Rj(_:Params):=gO "_law_rooms" (AY 50) "law_zonewalk_k24_whole_rooms" 587 350
def o355(P:Params):Obj:=cP "law" 655 "law" 656 657 269 1 3 352 181 (.ref 353) .none .none .none (.ref 354) 658 269 659
def Ri(_:Params):=gO "law" (AY 51) "law_zonewalk_k24_whole_rooms" 587 355
def Gc(P:Params):Frag:=[(2,o2 P),(3,o3 P),(22,o22 P),(29,o29 P),(30,o30 P),(31,o31 P),(32,o32 P),(35,o35 P),(42,o42 P),(43,o43 P),(44,o44 P),(47,o47 P),(54,o54 P),(55,o55 P),(56,o56 P),(64,o64 P),(65,Rh P),(66,Rf P),(67,Rc P),(73,o73 P),(74,Rb P),(80,o80 P),(81,Ra P),(85,o85 P),(86,R9 P),(92,o92 P),(93,R8 P),(97,o97 P),(98,R7 P),(104,o104 P),(105,S7 P),(109,o109 P),(110,S6 P),(116,o116 P),(117,SY P),(123,o123 P),(124,SX P),(132,J1 P),(138,o138 P),(139,SW P),(145,o145 P),(146,SV P),(152,o152 P),(153,SU P),(154,o154 P),(155,o155 P),(156,o156 P),(157,o157 P),(158,o158 P),(171,o171 P),(172,SS P),(178,o178 P),(179,SR P),(185,o185 P),(186,SQ P),(192,o192 P),(193,SO P),(199,o199 P),(200,SN P),(208,o208 P),(209,o209 P),(210,o210 P),(211,o211 P),(212,o212 P),(218,o218 P),(219,SM P),(225,o225 P),(226,SK P),(230,o230 P),(231,SJ P),(237,o237 P),(238,SI P),(242,o242 P),(243,SH P),(247,o247 P),(248,SG P),(252,o252 P),(253,SF P),(257,o257 P),(258,SE P),(264,o264 P),(265,SD P),(269,o269 P),(270,SA P),(276,o276 P),(277,Rz P),(283,o283 P),(284,Ry P),(288,o288 P),(289,Rx P),(295,o295 P),(296,Rw P),(300,o300 P),(301,Rv P),(307,o307 P),(308,Rt P),(314,o314 P),(315,Rq P),(321,o321 P),(322,Ro P),(328,o328 P),(329,Rn P),(335,o335 P),(336,Rm P),(340,o340 P),(341,Rl P),(345,o345 P),(346,Rk P),(350,o350 P),(351,Rj P),(355,o355 P),(356,Ri P)]
noncomputable def fas:List Addr:=[2,3,22,29,30,31,32,35,42,43,44,47,54,55,56,64,65,66,67,73,74,80,81,85,86,92,93,97,98,104,105,109,110,116,117,123,124,132,138,139,145,146,152,153,154,155,156,157,158,171,172,178,179,185,186,192,193,199,200,208,209,210,211,212,218,219,225,226,230,231,237,238,242,243,247,248,252,253,257,258,264,265,269,270,276,277,283,284,288,289,295,296,300,301,307,308,314,315,321,322,328,329,335,336,340,341,345,346,350,351,355,356]
def vq:Program:={ pw with main:={ (pw).main with body:=[AY 51] } }
noncomputable def loo:List Str:=[Str.ofString "_wall",Str.ofString "WalkError",Str.ofString "BadMachine",Str.ofString "TooMany",Str.ofString "is_whole",Str.ofString "WORDS",Str.ofString "STAY_WORDS",Str.ofString "is_look",Str.ofString "is_number",Str.ofString "is_guard",Str.ofString "MOST_WATCHES",Str.ofString "MOST_ROOMS",Str.ofString "MOST_DOORS",Str.ofString "is_small_letter",Str.ofString "is_name",Str.ofString "is_watch_name",Str.ofString "is_room_name",Str.ofString "is_sign",Str.ofString "own_copy",Str.ofString "Door",Str.ofString "Machine",Str.ofString "check_watches",Str.ofString "are_unlike",Str.ofString "check_rooms",Str.ofString "check_doors",Str.ofString "are_noughts",Str.ofString "MOST_PARTS",Str.ofString "together",Str.ofString "checked_takings",Str.ofString "check_parts",Str.ofString "all_watches",Str.ofString "all_takings",Str.ofString "whole_name",Str.ofString "whole_stay",Str.ofString "whole_ways",Str.ofString "shares_of",Str.ofString "starts_from",Str.ofString "whole_door",Str.ofString "_law_cell_at",Str.ofString "_law_stream",Str.ofString "_law_names",Str.ofString "_law_stay",Str.ofString "_law_parts",Str.ofString "_law_machine",Str.ofString "_law_rooms"]
abbrev hk:Hook:=kHook Gc fas (λ_=>by ext)
theorem zkn(w:World)(os:OsState):(go pw 2488 w os).map (λs=>JD pw vq loo (xt ML.row.toRowW vq) hk.obs (boot_heap w.params) s.abs)=some (true,openGood vq loo,hk.val w):=by ext
theorem left:LeftO pw vq loo (xt ML.row.toRowW vq) hk.obs hk.val 5556 true:=ziv 5556 2488 (by ext) (by decide) (λs=>by ext) (by decide) zkn
theorem said:ML.wellSaid=true:=zhb (by ext)
abbrev fr(w:World):Frag:=Gc w.params
theorem all_mk{w:World}{h:Heap}{mg:Str->Option Value}{fa:Addr}(X:(Gc w.params).In h)(G:h.Ns mainGlobals mg)(hfa:mg "law"=some (.ref fa))
  : ∃fd:FuncData,(∀(s:Shared) (v:Value),BindsTo s fd ⟨[v],[]⟩ [("_law_script",v)])/\∀base:Heap,(Gc w.params).In base->base.Ns mainGlobals mg->FnOk pw w (Gc w.params) mg base Dz 9 fa fd ["_law_script"] (Iz (Gc w.params)):=by
 have e:=hfa.symm.trans (mg_of X G (show nsIn (fr w) mainGlobals "law"=some (some (.ref 356)) by ext))
 cases e;have mK:∀(x:Str) (a:Addr),nsIn (fr w) mainGlobals x=some (some (.ref a))->mg x=some (.ref a):=λ_ _ e=>mg_of X G e
 have mN:∀x:Str,nsIn (fr w) mainGlobals x=some none->mg x=none:=λ_ e=>mg_none_of X G e
 have cl_Door:Cls (fr w) Ax:=⟨by ext,by ext,by ext,by ext⟩
 have na_Door:∀f∈BS,Bi (fr w) Ax f:=(AH (by unfold Bi;ext) (AH (by unfold Bi;ext) (AH (by unfold Bi;ext) (AH (by unfold Bi;ext) (AH (by unfold Bi;ext) AN)))))
 have cl_Machine:Cls (fr w) AW:=⟨by ext,by ext,by ext,by ext⟩
 have na_Machine:∀f∈Ai,Bi (fr w) AW f:=(AH (by unfold Bi;ext) (AH (by unfold Bi;ext) (AH (by unfold Bi;ext) AN)))
 let ca:Str->Value:=λc=>if c="BadMachine" then .ref 44 else if c="TooMany" then .ref 56 else if c="WalkError" then .ref 31 else .none
 have b_len:=mN "len" (by ext)
 have b_range:=mN "range" (by ext)
 have b_int:=mN "int" (by ext)
 have b_all:=mN "all" (by ext)
 have b_isinstance:=mN "isinstance" (by ext)
 have b_str:=mN "str" (by ext)
 have b_bool:=mN "bool" (by ext)
 have b_tuple:=mN "tuple" (by ext)
 have b_list:=mN "list" (by ext)
 have b_set:=mN "set" (by ext)
 have b_zip:=mN "zip" (by ext)
 have b_enumerate:=mN "enumerate" (by ext)
 have b_min:=mN "min" (by ext)
 have yg:specialIn (fr w) (.builtin "object.__class__") "__get__"=some (some (.builtin "getset_descriptor.__get__")):=by ext
 have yt:takesIn (fr w) (.builtin "object.__class__")=some true:=by ext
 let k7:ECls (fr w) mg "BadMachine":=⟨44,mK "BadMachine" 44 (by ext),⟨by ext,by ext,⟨(clsIn (fr w) 44).getD default,by ext⟩,by ext,by ext,by ext,by ext,by ext,by ext,yg,yt⟩⟩
 have E_BadMachine:∃T:ECls (fr w) mg "BadMachine",ca "BadMachine"=.ref T.C:=⟨k7,by rfl⟩
 let k8:ECls (fr w) mg "TooMany":=⟨56,mK "TooMany" 56 (by ext),⟨by ext,by ext,⟨(clsIn (fr w) 56).getD default,by ext⟩,by ext,by ext,by ext,by ext,by ext,by ext,yg,yt⟩⟩
 have E_TooMany:∃T:ECls (fr w) mg "TooMany",ca "TooMany"=.ref T.C:=⟨k8,by rfl⟩
 let k9:ECls (fr w) mg "WalkError":=⟨31,mK "WalkError" 31 (by ext),⟨by ext,by ext,⟨(clsIn (fr w) 31).getD default,by ext⟩,by ext,by ext,by ext,by ext,by ext,by ext,yg,yt⟩⟩
 have E_WalkError:∃T:ECls (fr w) mg "WalkError",ca "WalkError"=.ref T.C:=⟨k9,by rfl⟩
 have F19:=ER (st:=JL) (show(fr w).lookup 139=some (SW w.params) by ext) (show codeIn (fr w) (.ref 138) "Door.__init__"=true by ext) (by ext)
 have F20:=ER (st:=JI) (show(fr w).lookup 172=some (SS w.params) by ext) (show codeIn (fr w) (.ref 171) "Machine.__init__"=true by ext) (by ext)
 have F21:=ER (st:=JF) (show(fr w).lookup 179=some (SR w.params) by ext) (show codeIn (fr w) (.ref 178) "Machine.watches"=true by ext) (by ext)
 have F22:=ER (st:=JH) (show(fr w).lookup 186=some (SQ w.params) by ext) (show codeIn (fr w) (.ref 185) "Machine.rooms"=true by ext) (by ext)
 have F23:=ER (st:=JJ) (show(fr w).lookup 193=some (SO w.params) by ext) (show codeIn (fr w) (.ref 192) "Machine.doors"=true by ext) (by ext)
 have F24:=ER (st:=JG) (show(fr w).lookup 200=some (SN w.params) by ext) (show codeIn (fr w) (.ref 199) "Machine.stay"=true by ext) (by ext)
 have F25:=ER (st:=JM) (show(fr w).lookup 146=some (SV w.params) by ext) (show codeIn (fr w) (.ref 145) "Door.asks"=true by ext) (by ext)
 have F26:=ER (st:=JK) (show(fr w).lookup 153=some (SU w.params) by ext) (show codeIn (fr w) (.ref 152) "Door.sets"=true by ext) (by ext)
 have F42:=ER (st:=HS) (show(fr w).lookup 356=some (Ri w.params) by ext) (show codeIn (fr w) (.ref 355) "law"=true by ext) (by ext)
 let T42:Tx (fr w) mg "law" HS ["_law_script"]:=⟨_,_,F42,mK "law" 356 (by ext),.all (Be λ_=>rfl)⟩
 refine⟨T42.fd,λs v=>.of_eq rfl,λbase _ _=>?_⟩
 have q:Qx pw w (fr w) mg base ca:=⟨mK⟩;let D1:=BU q (f:=OV) (o:=Rq w.params) 315 (.all (Em λ_ _=>rfl)) zcj zcy (AH b_len AN) Aw Av
 let D2:=BU q (f:=OP) (o:=Ro w.params) 322 (.all (Em λ_ _=>rfl)) zd5 zdi (AH b_range AN) Aw Av
 let D3:=BU q (f:=OT) (o:=Rn w.params) 329 (.all (Em λ_ _=>rfl)) zdw zem (AH b_range (AH b_int AN)) Aw Av
 let D4:=BU q (f:=Jt) (o:=R8 w.params) 93 (.all (Be λ_=>rfl)) za0 za4 AN Aw Av
 let D5:=BU q (f:=Jv) (o:=R7 w.params) 98 (.all (Be λ_=>rfl)) zd3 zdg (AH b_len (AH b_all AN)) (Ao (by decide) D4 Aw) Av
 let D6:=BU q (f:=Js) (o:=S7 w.params) 105 (.all (Be λ_=>rfl)) za7 zae (AH b_isinstance (AH b_str AN)) (Ao (by decide) D5 Aw) Av
 let D7:=BU q (f:=Ju) (o:=S6 w.params) 110 (.all (Be λ_=>rfl)) zai zap (AH b_isinstance (AH b_str (AH b_len (AH b_all AN)))) (Ao (by decide) D4 Aw) Av
 let D8:=BU q (f:=OA) (o:=Rh w.params) 65 (.all (Be λ_=>rfl)) zcg zcv (AH b_isinstance (AH b_int (AH b_bool AN))) Aw Av
 let D9:=BU q (f:=OC) (o:=Ra w.params) 81 (.all (Be λ_=>rfl)) zbv zc8 AN (Ao (by decide) D8 Aw) Av
 let D10:=BU q (f:=OD) (o:=Rb w.params) 74 (.all (FX λ_ _ _=>rfl)) zd4 zdh (AH b_isinstance (AH b_tuple (AH b_len AN))) (Ao (by decide) D9 Aw) Av
 let D11:=BU q (f:=Jw) (o:=R9 w.params) 86 (.all (FX λ_ _ _=>rfl)) zch zcw (AH b_isinstance (AH b_list (AH b_all AN))) (Ao (by decide) D10 Aw) Av (hce:=(AH (by rfl) (AH (by rfl) AN)))
 let D12:=BU q (f:=Fz) (o:=SK w.params) 226 (.all (Be λ_=>rfl)) zbh zbq (AH b_len (AH b_set AN)) Aw Av
 let D13:=BU q (f:=OF) (o:=SM w.params) 219 (.all (Be λ_=>rfl)) za8 zaf (AH b_isinstance (AH b_list (AH b_len (AH b_all AN)))) (Ao (by decide) D6 (Ao (by decide) D12 Aw)) (Av (co:=(Bn ⟨(.int (7) 290),(.int 7),mg_of X G (show nsIn (fr w) mainGlobals "MOST_WATCHES"=some (some (.int (7) 290)) by ext),⟨_,rfl⟩,λF=>.int _⟩ Bl))) (hex:=(AH E_BadMachine AN))
 let D14:=BU q (f:=OG) (o:=SJ w.params) 231 (.all (Em λ_ _=>rfl)) zat zb6 (AH b_isinstance (AH b_list (AH b_len (AH b_tuple AN)))) (Ao (by decide) D7 (Ao (by decide) D11 (Ao (by decide) D12 Aw))) (Av (co:=(Bn ⟨_,.ref 67,mK "STAY_WORDS" 67 (by ext),rfl,λF=>A6.of_node (k:=.rt) (xs:=[.str "<",.str "<="]) (.inr ⟨Rc w.params,_,_,by ext,rfl,rfl,by decide,(.cons ⟨_,rfl⟩ (.cons ⟨_,rfl⟩ .nil))⟩) (MQ ["<","<="])⟩ Bl))) (hex:=(AH E_BadMachine AN))
 let D15:=BU q (f:=OJ) (o:=SH w.params) 243 (.all (Em λ_ _=>rfl)) zaw zb9 (AH b_isinstance (AH b_list (AH b_all AN))) (Ao (by decide) D6 (Ao (by decide) D12 Aw)) Av (hce:=(AH (by rfl) AN))
 let D16:=BU q (f:=OB) (o:=SY w.params) 117 (.all (Be λ_=>rfl)) zd2 zdf (AH b_isinstance (AH b_str AN)) (Ao (by decide) D5 Aw) Av
 let D17:=BU q (f:=Ny) (o:=SX w.params) 124 (.all (Be λ_=>rfl)) zcf zcu (AH b_isinstance (AH b_list AN)) Aw Av
 let D18:=BU q (f:=OI) (o:=SI w.params) 238 (.all (FX λ_ _ _=>rfl)) zav zb8 (AH b_isinstance (AH b_list AN)) (Ao (by decide) D11 (Ao (by decide) D15 (Ao (by decide) D16 Aw))) (Av (co:=(Bn ⟨_,.ref 66,mK "WORDS" 66 (by ext),rfl,λF=>A6.of_node (k:=.rt) (xs:=[.str "<",.str "<=",.str ">",.str ">=",.str "="]) (.inr ⟨Rf w.params,_,_,by ext,rfl,rfl,by decide,(.cons ⟨_,rfl⟩ (.cons ⟨_,rfl⟩ (.cons ⟨_,rfl⟩ (.cons ⟨_,rfl⟩ (.cons ⟨_,rfl⟩ .nil)))))⟩) (MQ ["<","<=",">",">=","="])⟩ Bl)) (cl:=(AH ⟨cl_Door,na_Door⟩ AN)) (ci:=(Bn ⟨156,mK "Door" 156 (by ext),(Bn ⟨⟨cl_Door,by ext,by ext,by ext,by ext⟩,by ext⟩ (Bn ⟨⟨cl_Machine,by ext,by ext,by ext,by ext⟩,by ext⟩ Bl)),by ext⟩ Bl))) (hex:=(AH E_BadMachine AN))
 have K19:FnOk pw w (fr w) mg base (Bb pw w) 2 _ _ ["self","start","end","guard","noughts","sign"] (Er (fr w) ca Ax GJ):=UY (C:=Ax) (fs:=BS) (n:=200) (Γ:=Nl) F19 zbx rfl rfl AN rfl AN (Ao (by decide) D17 Aw) AN EL rfl (Av (sf:=(λC fs h=>by cases h;exact⟨cl_Door,na_Door⟩))) zca
 let D19:NewX pw w (fr w) mg base "Door" Ax 2 ["self","start","end","guard","noughts","sign"] (Er (fr w) ca Ax GJ):=⟨_,_,mK "Door" 156 (by ext),⟨by ext,by ext,by ext,by ext⟩,K19⟩
 have E19:CY (fr w) D19.fd ["self","start","end","guard","noughts","sign"] []:=λs us X hl=>match us,hl with|[_,_,_,_,_,_],_=>binds_K X rfl (show(fr w).lookup 132=some (J1 w.params) by ext) rfl rfl rfl
 have K20:FnOk pw w (fr w) mg base (Bb pw w) 6 _ _ ["self","watches","rooms","doors"] (Er (fr w) ca AW GI):=UY (C:=AW) (fs:=Ai) (n:=200) (Γ:=Ni) F20 zak rfl rfl AN rfl (AH b_len (AH b_list AN)) (Ao (by decide) D13 (Ao (by decide) D14 (Ao (by decide) D18 Aw))) (AH E_TooMany AN) EL rfl (Av (co:=(Bn ⟨(.int (64) 292),(.int 64),mg_of X G (show nsIn (fr w) mainGlobals "MOST_ROOMS"=some (some (.int (64) 292)) by ext),⟨_,rfl⟩,λF=>.int _⟩ (Bn ⟨(.int (200) 294),(.int 200),mg_of X G (show nsIn (fr w) mainGlobals "MOST_DOORS"=some (some (.int (200) 294)) by ext),⟨_,rfl⟩,λF=>.int _⟩ Bl))) (sf:=(λC fs h=>by cases h;exact⟨cl_Machine,na_Machine⟩))) zar
 let D20:NewX pw w (fr w) mg base "Machine" AW 6 ["self","watches","rooms","doors"] (Er (fr w) ca AW GI):=⟨_,_,mK "Machine" 210 (by ext),⟨by ext,by ext,by ext,by ext⟩,K20⟩
 have E20:CY (fr w) D20.fd ["self","watches","rooms","doors"] []:=.all (us4 λ_ _ _ _=>rfl)
 have K21:FnOk pw w (fr w) mg base (Bb pw w) 1 _ _ ["self"] (BG (fr w) ca ET):=FK (n:=200) (Γ:=Nf) F21 za2 rfl rfl AN rfl (AH b_list AN) Aw AN EL rfl (Av (cl:=(AH ⟨cl_Machine,na_Machine⟩ AN))) za6;let D21:MetX pw w (fr w) mg base AW "watches" 1 ["self"] (BG (fr w) ca ET):=⟨_,_,cl_Machine,⟨by ext,by ext,by ext⟩,K21,.all (Be λ_=>rfl)⟩
 have K22:FnOk pw w (fr w) mg base (Bb pw w) 1 _ _ ["self"] (BG (fr w) ca Dx):=FK (n:=200) (Γ:=Nh) F22 za9 rfl rfl AN rfl (AH b_list AN) Aw AN EL rfl (Av (cl:=(AH ⟨cl_Machine,na_Machine⟩ AN))) zag;let D22:MetX pw w (fr w) mg base AW "rooms" 1 ["self"] (BG (fr w) ca Dx):=⟨_,_,cl_Machine,⟨by ext,by ext,by ext⟩,K22,.all (Be λ_=>rfl)⟩
 have K23:FnOk pw w (fr w) mg base (Bb pw w) 1 _ _ ["self"] (BG (fr w) ca EU):=FK (n:=200) (Γ:=Nj) F23 zaa rfl rfl AN rfl (AH b_list AN) Aw AN EL rfl (Av (cl:=(AH ⟨cl_Machine,na_Machine⟩ AN))) zah;let D23:MetX pw w (fr w) mg base AW "doors" 1 ["self"] (BG (fr w) ca EU):=⟨_,_,cl_Machine,⟨by ext,by ext,by ext⟩,K23,.all (Be λ_=>rfl)⟩
 have K24:FnOk pw w (fr w) mg base (Bb pw w) 1 _ _ ["self","room"] (BG (fr w) ca Ei):=FK (n:=200) (Γ:=Ng) F24 zaj rfl rfl AN rfl (AH b_list AN) Aw AN EL rfl (Av (cl:=(AH ⟨cl_Machine,na_Machine⟩ AN))) zaq;let D24:MetX pw w (fr w) mg base AW "stay" 1 ["self","room"] (BG (fr w) ca Ei):=⟨_,_,cl_Machine,⟨by ext,by ext,by ext⟩,K24,.all (Em λ_ _=>rfl)⟩
 have K25:FnOk pw w (fr w) mg base (Bb pw w) 1 _ _ ["self"] (BG (fr w) ca Gu):=FK (n:=200) (Γ:=Nm) F25 zby rfl rfl AN rfl (AH b_list AN) Aw AN EL rfl (Av (cl:=(AH ⟨cl_Door,na_Door⟩ AN))) zcb;let D25:MetX pw w (fr w) mg base Ax "asks" 1 ["self"] (BG (fr w) ca Gu):=⟨_,_,cl_Door,⟨by ext,by ext,by ext⟩,K25,.all (Be λ_=>rfl)⟩
 have K26:FnOk pw w (fr w) mg base (Bb pw w) 1 _ _ ["self"] (BG (fr w) ca Gs):=FK (n:=200) (Γ:=Nk) F26 zbw rfl rfl AN rfl (AH b_list AN) Aw AN EL rfl (Av (cl:=(AH ⟨cl_Door,na_Door⟩ AN))) zc9;let D26:MetX pw w (fr w) mg base Ax "sets" 1 ["self"] (BG (fr w) ca Gs):=⟨_,_,cl_Door,⟨by ext,by ext,by ext⟩,K26,.all (Be λ_=>rfl)⟩
 let D27:=BU q (f:=Jx) (o:=SD w.params) 265 (.all (Be λ_=>rfl)) zax zba AN Aw (Av (mt:=(AH ⟨by decide,⟨D21⟩⟩ AN)))
 let D28:=BU q (f:=OH) (o:=SE w.params) 258 (.all (Be λ_=>rfl)) zau zb7 (AH b_isinstance (AH b_list (AH b_len (AH b_all AN)))) (Ao (by decide) D27 (Ao (by decide) D12 Aw)) (Av (co:=(Bn ⟨(.int (6) 491),(.int 6),mg_of X G (show nsIn (fr w) mainGlobals "MOST_PARTS"=some (some (.int (6) 491)) by ext),⟨_,rfl⟩,λF=>.int _⟩ (Bn ⟨(.int (7) 290),(.int 7),mg_of X G (show nsIn (fr w) mainGlobals "MOST_WATCHES"=some (some (.int (7) 290)) by ext),⟨_,rfl⟩,λF=>.int _⟩ Bl))) (ci:=(Bn ⟨210,mK "Machine" 210 (by ext),(Bn ⟨⟨cl_Door,by ext,by ext,by ext,by ext⟩,by ext⟩ (Bn ⟨⟨cl_Machine,by ext,by ext,by ext,by ext⟩,by ext⟩ Bl)),by ext⟩ Bl))) (hex:=(AH E_BadMachine AN))
 let D29:=BU q (f:=OK) (o:=SA w.params) 270 (.all (Be λ_=>rfl)) zay zbb (AH b_len AN) Aw (Av (co:=(Bn ⟨(.int (64) 292),(.int 64),mg_of X G (show nsIn (fr w) mainGlobals "MOST_ROOMS"=some (some (.int (64) 292)) by ext),⟨_,rfl⟩,λF=>.int _⟩ Bl)) (mt:=(AH ⟨by decide,⟨D22⟩⟩ AN))) (hce:=(AH (by rfl) AN)) (hex:=(AH E_TooMany AN))
 let D30:=BU q (f:=Hr) (o:=Rz w.params) 277 (.all (Be λ_=>rfl)) zbf zbo AN Aw Av
 let D31:=BU q (f:=OE) (o:=SF w.params) 253 (.all (Be λ_=>rfl)) za1 za5 (AH b_all AN) (Ao (by decide) D28 (Ao (by decide) D29 (Ao (by decide) D30 (Ao (by decide) D12 (Ao (by decide) D7 Aw))))) Av (hex:=(AH E_BadMachine AN))
 let D32:=BU q (f:=Nt) (o:=Ry w.params) 284 (.all (Em λ_ _=>rfl)) zbe zbn (AH b_zip AN) Aw (Av (mt:=(AH ⟨by decide,⟨D24⟩⟩ AN)))
 let D33:=BU q (f:=Nu) (o:=Rt w.params) 308 (.all (FX λ_ _ _=>rfl)) zbg zbp (AH b_list AN) (Ao (by decide) D30 Aw) (Av (cl:=(AH ⟨cl_Door,na_Door⟩ AN)) (mt:=(AH ⟨by decide,⟨D23⟩⟩ (AH ⟨by decide,⟨D25⟩⟩ (AH ⟨by decide,⟨D26⟩⟩ AN)))) (nw:=(J3 ⟨by decide,Ax,D19,(Bn ⟨[.str ""],[.str (Str.ofString "") 348],(λs us X hl=>Pw (P:=λus=>BindsTo s _ ⟨us,[]⟩ (List.zip _ (us++_))) (λ_ _ _ _ _=>binds_K X rfl (show(fr w).lookup 132=some (J1 w.params) by ext) rfl rfl rfl) us (by simpa using hl)),.cons ⟨_,rfl⟩ .nil,λF=>.cons (H:=F) (.str _) .nil⟩ Bl)⟩ J2)))
 let D34:=BU q (f:=Nx) (o:=Rw w.params) 296 (.all (FX λ_ _ _=>rfl)) zbu zc7 (AH b_enumerate AN) Aw (Av (cl:=(AH ⟨cl_Door,na_Door⟩ AN)))
 let D35:=BU q (f:=Nw) (o:=Rv w.params) 301 (.all (FX λ_ _ _=>rfl)) zas zb5 (AH b_all AN) Aw (Av (cl:=(AH ⟨cl_Door,na_Door⟩ AN))) (hce:=(AH (by rfl) (AH (by rfl) AN)))
 let D36:=BU q (f:=Nr) (o:=Rx w.params) 289 (.all (Em λ_ _=>rfl)) zbd zbm (AH b_enumerate (AH b_range (AH b_len AN))) (Ao (by decide) D34 (Ao (by decide) D35 Aw)) (Av (co:=(Bn ⟨(.int (200) 294),(.int 200),mg_of X G (show nsIn (fr w) mainGlobals "MOST_DOORS"=some (some (.int (200) 294)) by ext),⟨_,rfl⟩,λF=>.int _⟩ Bl)) (mt:=(AH ⟨by decide,⟨D23⟩⟩ AN))) (hce:=(AH (by rfl) (AH (by rfl) AN))) (hex:=(AH E_TooMany AN))
 let D37:=BU q (f:=Nv) (o:=SG w.params) 248 (.all (Be λ_=>rfl)) zce zct AN (Ao (by decide) D31 (Ao (by decide) D30 (Ao (by decide) D32 (Ao (by decide) D36 (Ao (by decide) D33 (Ao (by decide) D27 Aw)))))) (Av (nw:=(J3 ⟨by decide,AW,D20,(Bn ⟨[],[],E20,.nil,λ_=>.nil⟩ Bl)⟩ J2))) (hce:=(AH (by rfl) AN))
 let D38:=BU q (f:=OQ) (o:=Rm w.params) 336 (.all (FX λ_ _ _=>rfl)) zfc zgl (AH b_range (AH b_len AN)) Aw Av
 let D39:=BU q (f:=OS) (o:=Rl w.params) 341 (.all (Be λ_=>rfl)) zdv zel (AH b_range (AH b_len (AH b_min AN))) (Ao (by decide) D3 (Ao (by decide) D1 (Ao (by decide) D2 (Ao (by decide) D38 Aw)))) Av (hce:=(AH (by rfl) (AH (by rfl) (AH (by rfl) (AH (by rfl) (AH (by rfl) AN))))))
 let D40:=BU q (f:=OU) (o:=Rk w.params) 346 (.all (Be λ_=>rfl)) zci zcx (AH b_range (AH b_list AN)) Aw (Av (nw:=(J3 ⟨by decide,Ax,D19,(Bn ⟨[.str ""],[.str (Str.ofString "") 348],(λs us X hl=>Pw (P:=λus=>BindsTo s _ ⟨us,[]⟩ (List.zip _ (us++_))) (λ_ _ _ _ _=>binds_K X rfl (show(fr w).lookup 132=some (J1 w.params) by ext) rfl rfl rfl) us (by simpa using hl)),.cons ⟨_,rfl⟩ .nil,λF=>.cons (H:=F) (.str _) .nil⟩ Bl)⟩ (J3 ⟨by decide,AW,D20,(Bn ⟨[],[],E20,.nil,λ_=>.nil⟩ Bl)⟩ J2)))) (hce:=(AH (by rfl) (AH (by rfl) AN)))
 let D41:=BU q (f:=OR) (o:=Rj w.params) 351 (.all (Be λ_=>rfl)) zdu zek AN Aw Av
 have K42:FnOk pw w (fr w) mg base (Bb pw w) 9 T42.f T42.fd ["_law_script"] (BG (fr w) ca K7):=FK (n:=200) (Γ:=Nd) T42.F zkh rfl rfl AN rfl (AH b_list (AH b_isinstance (AH b_zip (AH b_len AN)))) (Ao (by decide) D39 (Ao (by decide) D40 (Ao (by decide) (dfU D37) (Ao (by decide) D41 Aw)))) AN EL rfl (Av (mt:=(AH ⟨by decide,⟨D21⟩⟩ (AH ⟨by decide,⟨D22⟩⟩ (AH ⟨by decide,⟨D24⟩⟩ (AH ⟨by decide,⟨D23⟩⟩ AN))))) (ci:=(Bn ⟨210,mK "Machine" 210 (by ext),(Bn ⟨⟨cl_Door,by ext,by ext,by ext,by ext⟩,by ext⟩ (Bn ⟨⟨cl_Machine,by ext,by ext,by ext,by ext⟩,by ext⟩ Bl)),by ext⟩ Bl))) zn7
 exact zmi K42 λns h=>law_true ns h
theorem walk{l:PySem.W.OpenLaw}{q:Program}{loose:List Str}{XP:(Str->Option Value)->Heap->Prop}{YP:World->Heap->Prop}{d:DefRec}{K:Params->k6}(hn:l.most=some 63)(hdf:d.params.defaults=[])
  (hY:∀(w:World) (h:Heap),YP w h->(K w.params).In h)
  (F : ∀ (w : World) (mg : Str -> Option Value) (fa : Addr) (h : Heap), (K w.params).In h -> h.Ns mainGlobals mg -> mg d.name = some (.ref fa) ->
   ∃fd:FuncData,(∀(s:Shared) (u:Value),BindsTo s fd ⟨[u],[]⟩ [("_law_script",u)])/\∀base:Heap,(K w.params).In base->base.Ns mainGlobals mg->FnOk l.prog w (K w.params) mg base Dz 9 fa fd ["_law_script"] (Iz (K w.params))) :
  PySem.W.WalkO q loose XP YP l.row.toRowW d [] (λf vs=>PySem.call f vs) :=
 L2.walk_of (n:=63) (k:=9) (x:="_law_script") (CX:=λ_=>Dz) (sp:=λw=>Iz (K w.params)) hn (by decide) hdf ⟨rfl,by decide,by decide⟩ hY F (λ_ _ a ns hl _ hS=>⟨a,ns,rfl,hS,hl,λ_=>rfl⟩) λ_ _ _ _ _ z=>z
end Zl
open PySem PySem.W PyProof.Rows
set_option maxRecDepth 100000 in
set_option maxHeartbeats 0 in
theorem PySem.Challenge.cw_zonewalk_k24_whole_rooms_holds : PySem.Challenge.rw_zonewalk_k24_whole_rooms.Holds := by
 refine holds_law Zl.said λs=>?_
 refine holds_open (q:=Zl.vq) (loose:=Zl.loo) (Xt:=Hd.xt PySem.Challenge.rw_zonewalk_k24_whole_rooms.row.toRowW Zl.vq) (XP:=XL Zl.vq []) (Yf:=Zl.hk.obs) (Ya:=Zl.hk.val) (YP:=Zl.hk.says) Zl.left Zl.hk.of Zl.hk.keeps (λs e=>xl_of s (Bool.and_eq_true_iff.mp e).1) XL.keeps (by rfl) (by rfl) (by rfl) (λs e=>recFacts_of (Bool.and_eq_true_iff.mp e).2) (by rfl) s (by decide +kernel) ⟨rfl,rfl,rfl,rfl,rfl,by decide +kernel⟩ ?hw ?hc
 case hw=>w_witness2
 case hc=>exact Zl.walk (l:=PySem.Challenge.rw_zonewalk_k24_whole_rooms) rfl rfl (λw h Y=>kIn_of Y) λw mg fa h X G e=>Zl.all_mk X G e
end
