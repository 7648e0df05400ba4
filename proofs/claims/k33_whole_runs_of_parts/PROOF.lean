import PyProof.Rows.All
import Wide.All
import OpenK.AllK
import Wide.FinOn
import Lean
import PyProof.EqAt
import PyProof.EqKinds
import PyProof.TupleCall
import PySem.Challenge.RW_zonewalk_k33_whole_runs_of_parts
set_option compiler.extract_closed false
set_option bootstrap.genMatcherCode false
set_option linter.all false
def ya0:=@List.getElem?_eq_getElem
def ya1:=@List.length_map
def ya2:=@List.getD_eq_getElem?_getD
def ya3:=@List.getElem?_map
def ya4:=@List.mem_cons_of_mem
def ya5:=@List.mem_cons_self
def ya6:=@List.getElem?_eq_some_iff
def ya7:=@Bool.and_eq_true
def ya8:=@List.mem_singleton
def ya9:=@List.mem_cons
def yaa:=@PySem.Heap.get?_push_of_some
def yab:=@List.mem_of_getElem?
def yac:=@List.length_append
def yad:=@List.map_cons
def yae:=@Nat.le_refl
def yaf:=@PySem.Heap.lt_size
def yag:=@List.mem_map
def yah:=@Option.map_eq_some_iff
def yai:=@List.getElem?_eq_none
def yaj:=@List.length_cons
def yak:=@Nat.le_trans
def yal:=@List.all_eq_true
def yam:=@List.size_toArray
def yan:=@Nat.lt_of_lt_of_le
def yao:=@Option.some.inj
def yap:=@List.mem_flatMap
def yaq:=@List.map_map
def yar:=@List.map_append
def yas:=@List.mem_append_right
def yat:=@List.flatMap_cons
def yau:=@List.getElem_mem
def yav:=@Nat.ne_of_lt
def yaw:=@PySem.Heap.get?_push_size
def yax:=@List.getElem?_set_self
def yay:=@List.append_nil
def yaz:=@List.getElem?_append_left
def yb0:=@List.length_nil
def yb1:=@Option.map_some
def yb2:=@List.getElem?_append_right
def yb3:=@Int.fmod_nonneg_of_pos
def yb4:=@List.getElem?_set_ne
def yb5:=@List.lookup_cons
def yb6:=@List.length_range
def yb7:=@List.not_mem_nil
def yb8:=@List.contains_iff_mem
def yb9:=@Array.getElem?_eq_getElem
def yba:=@List.mem_append
def ybb:=@List.mem_range
def ybc:=@Ne.symm
def ybd:=@Nat.lt_irrefl
def ybe:=@Option.getD_some
def ybf:=@Bool.false_ne_true
def ybg:=@List.length_singleton
def ybh:=@List.getElem?_range
def ybi:=@List.length_take
def ybj:=@List.findIdx?_eq_some_iff_getElem
def ybk:=@List.map_congr_left
def ybl:=@PySem.W.kia_one
def ybm:=@List.nil_append
def ybn:=@Int.fmod_lt_of_pos
def ybo:=@PySem.Heap.get?_update_other
def ybp:=@List.append_assoc
def ybq:=@List.ext_getElem?
def ybr:=@Nat.zero_le
def ybs:=@Bool.not_eq_true'
def ybt:=@Int.toNat_natCast
def ybu:=@PySem.mem_of_lookup
def ybv:=@List.nodup_cons
def ybw:=@PySem.Heap.size_push
def ybx:=@Bool.or_eq_false_iff
def yby:=@Int.eq_ofNat_of_zero_le
def ybz:=@PyProof.Rows.callWith_type1
def yc0:=@Array.getD_eq_getD_getElem?
def yc1:=@List.replicate_succ
def yc2:=@Array.getElem?_eq_some_iff
def yc3:=@List.flatMap_nil
def yc4:=@List.mem_append_left
def yc5:=@List.getElem?_take_of_lt
def yc6:=@List.map_nil
def yc7:=@Bool.or_eq_true
def yc8:=@Bool.eq_iff_iff
def yc9:=@PySem.W.hideAll_get
def yca:=@Nat.lt_succ_self
def ycb:=@List.take_length
def ycc:=@Nat.le_succ
def ycd:=@List.mem_filterMap
def yce:=@Int.mul_comm
def ycf:=@List.getElem?_drop
def ycg:=@Bool.false_eq_true
def ych:=@List.mem_filter
def yci:=@List.length_set
def ycj:=@List.find?_cons
def yck:=@List.mem_iff_getElem?
def ycl:=@Int.mul_assoc
def ycm:=@List.flatten_cons
def ycn:=@Nat.lt_succ_of_lt
def yco:=@List.drop_eq_getElem_cons
def ycp:=@Nat.le_add_right
def ycq:=@PySem.F.slot_str_getitem
def ycr:=@List.getElem?_cons_succ
def ycs:=@PySem.W.of_hideAll
def yct:=@List.of_mem_zip
def ycu:=@List.zip_cons_cons
def ycv:=@PyProof.Rows.boot_list
def ycw:=@PySem.Heap.get?_update_self
def ycx:=@Array.getElem?_toList
def ycy:=@Nat.zero_add
def ycz:=@List.mem_of_mem_take
def yd0:=@Bool.or_false
def yd1:=@PySem.F.excBase_ValueError
def yd2:=@List.mem_map_of_mem
def yd3:=@List.mem_of_find?_eq_some
def yd4:=@List.getElem?_zip_eq_some
def yd5:=@Option.isSome_iff_exists
def yd6:=@PySem.Obj.data_mapFields
def yd7:=@PySem.W.callWith_K
def yd8:=@PySem.F.called_set
def yd9:=@List.length_range'
def yda:=@Int.mul_nonneg
def ydb:=@List.getElem?_replicate
def ydc:=@PySem.F.plainAttrs_list
def ydd:=@PyProof.Rows.F.plain_set_update_loop
def yde:=@List.nodup_append
def ydf:=@Int.mul_left_comm
def ydg:=@PyProof.V.reads_dictOf
def ydh:=@PySem.SeqAt.notIn_list_reads
def ydi:=@Nat.one_mul
def ydj:=@List.any_cons
def ydk:=@List.cons.inj
def ydl:=@List.getElem_inj
def ydm:=@Option.bind_some
def ydn:=@List.length_replicate
def ydo:=@PySem.Obj.isFreed_of_fields
def ydp:=@List.getElem?_zipWith
def ydq:=@Nat.lt_trans
def ydr:=@PySem.W.hideAll_none
def yds:=@List.foldl_cons
def ydt:=@Nat.add_comm
def ydu:=@Bool.true_or
def ydv:=@List.length_zip
def ydw:=@List.map_id'
def ydx:=@List.filterMap_cons
def ydy:=@Array.length_toList
def ydz:=@PySem.W.plainGet_of
def ye0:=@PySem.SeqAt.in_list_reads
def ye1:=@Bool.false_and
def ye2:=@Nat.add_mul
def ye3:=@Int.lt_of_le_of_lt
def ye4:=@Int.natCast_nonneg
def ye5:=@List.contains_cons
def ye6:=@PySem.F.called_enumerate
def ye7:=@List.findIdx?_cons
def ye8:=@PySem.Paired.length
def ye9:=@Bool.false_or
def yea:=@Bool.and_true
def yeb:=@Int.ofNat.inj
def yec:=@PySem.W.kitx_dict
def yed:=@Option.some.injEq
def yee:=@List.pairwise_map
def yef:=@List.mem_range'_1
def yeg:=@Nat.succ_le_succ
def yeh:=@Nat.le_of_lt
def yei:=@Bool.or_true
def yej:=@List.all_map
def yek:=@Nat.lt_or_ge
def yel:=@PySem.Txt.slice_le
def yem:=@List.cons_ne_nil
def yen:=@List.flatMap_map
def yeo:=@decide_eq_false
def yep:=@PySem.wpAny_mono
def yeq:=@PySem.wpAny_truthy_bool
def yer:=@PySem.wpAny_execs_nil
def yes:=@PyProof.Rows.assignInOrder_cons
def yet:=@PySem.wpAny_bind
def yeu:=@PySem.wpAny_holding
def yev:=@PySem.wpAny_standAt
def yew:=@PySem.wpAny_pure
def yex:=@PySem.wpAny_newObj_type
def yey:=@PySem.wpAny_passesOwn
def yez:=@PySem.wpAny_pyIter_list
def yf0:=@PySem.sizeLine_eq
def yf1:=@PySem.wpAny_Call_Name_kw
def yf2:=@PySem.typeIs_str
def yf3:=@if_true
def yf4:=@if_false
def yf5:=@PySem.call_meets
def yf6:=@decide_eq_true
def yf7:=@PySem.codeAny_mono
def yf8:=@PySem.wpAny_setField
def yf9:=@PySem.wpAny_field
def yfa:=@PySem.wpAny_call
def yfb:=@beq_iff_eq
def yfc:=@decide_eq_true_eq
def yfd:=@PySem.wpAny_pyIter_enum
def yfe:=@or_false
def yff:=@beq_self_eq_true
def yfg:=@PySem.pushCells_keeps
def yfh:=@of_decide_eq_true
def yfi:=@PySem.wpAny_loadPart'
def yfj:=@PySem.codeAny_builtin
def yfk:=@PySem.codeAny_call_builtin
def yfl:=@PySem.wpAny_of_eq
def yfm:=@PySem.wpAny_ite_false
def yfn:=@PySem.wpAny_isInstance
def yfo:=@PySem.wpAny_getItem_str_slice
def yfp:=@PySem.post_val_or_str
def yfq:=@beq_eq_false_iff_ne
def yfr:=@decide_eq_false_iff_not
noncomputable section
local macro_rules|`(tactic|ext)=>`(tactic|kernel_rfl)
abbrev k9:=PySem.W.Frag
set_option Elab.async false
set_option linter.all false
set_option maxRecDepth 100000
set_option genSizeOf false
local macro_rules
  |`(tactic| omega)=>`(tactic| first
    |assumption
    |exact yak (by assumption) (by decide +kernel)
    |exact yan (by assumption) (by decide +kernel)
    |exact Nat.lt_of_le_of_lt (by assumption) (by decide +kernel)
    |exact Nat.succ_pos _
    |exact yan (by assumption) (yeg (yak (by assumption) (by decide +kernel)))
    |exact yeg (yak (by assumption) (by decide +kernel))
    |exact ydq (by assumption) (by assumption)
    |exact yan (by assumption) (by assumption)
    |exact Int.lt_trans (b:=0) (by decide +kernel) (by assumption)
    |exact Int.lt_of_lt_of_le (b:=0) (by decide +kernel) (by assumption)
    |exact ye3 (by assumption) (by decide +kernel)
    |exact Int.le_trans (by assumption) (by decide +kernel)
    |exact Int.le_of_lt (by assumption)
    |exact Int.ne_of_gt (by assumption)
    |lia
    |fail)
namespace L2
open PySem PySem.Spec PyProof.Rows
variable {E:Value->Shared->Prop}
abbrev Key:=Sum Int Str
noncomputable def F6:Key->Value->Bool
 |.inl k,v=>Value.isInt k v
 |.inr x,v=>Value.isStrOf x v
def keyH(w:World):Key->Int
 |.inl k=>hashInt k
 |.inr x=>hashStr w x
theorem Ec:∀{k:Key} {v:Value},F6 k v=true->(∃i t,k=Sum.inl i/\v=Value.int i t)\/(∃x t,k=Sum.inr x/\v=Value.str x t)
 |.inl i,v,h=>by
  obtain⟨t,e⟩:=Value.isInt_shape (k:=i) (v:=v) h;exact .inl ⟨i,t,rfl,e⟩
 |.inr x,v,h=>by
  obtain⟨t,e⟩:=Value.isStrOf_shape (x:=x) (v:=v) h;exact .inr ⟨x,t,rfl,e⟩
theorem zf0(i:Int)(t:Tok):F6 (.inl i) (.int i t)=true:=by simp[F6,Value.isInt]
theorem zez(x:Str)(t:Tok):F6 (.inr x) (.str x t)=true:=by simp[F6,Value.isStrOf]
theorem znu(a b:Int):decide ((Sum.inl a:Key)=Sum.inl b)=(a == b):=by
 by_cases e:a=b
 .subst e;simp
 .have h:¬ (Sum.inl a:Key)=Sum.inl b:=λq=>e (Sum.inl.inj q)
  rw[yeo h];exact(beq_eq_false_iff_ne.mpr e).symm
theorem znr(a b:Str):decide ((Sum.inr a:Key)=Sum.inr b)=decide (a=b):=by
 by_cases e:a=b
 .subst e;simp
 .have h:¬ (Sum.inr a:Key)=Sum.inr b:=λq=>e (Sum.inr.inj q)
  rw[yeo h,yeo e]
theorem znt(a:Int)(b:Str):decide ((Sum.inl a:Key)=Sum.inr b)=false:=yeo (λq=>nomatch q)
theorem zns(a:Str)(b:Int):decide ((Sum.inr a:Key)=Sum.inl b)=false:=yeo (λq=>nomatch q)
def Cr(prog:Program)(w:World):PySem.KeyKind prog w Key where
 is:=F6
 hash:=keyH w
 inj:=λv a b ha hb=>by
  rcases Ec ha with ⟨i,t,rfl,rfl⟩|⟨x,t,rfl,rfl⟩
  .rcases Ec hb with ⟨j,u,rfl,e⟩|⟨y,u,rfl,e⟩
   .injection e with e1 _;rw[e1]
   .exact nomatch e
  .rcases Ec hb with ⟨j,u,rfl,e⟩|⟨y,u,rfl,e⟩
   .exact nomatch e
   .injection e with e1 _;rw[e1]
 byValue:=λk v h=>by
  rcases Ec h with ⟨i,t,rfl,rfl⟩|⟨x,t,rfl,rfl⟩<;>rfl
 pyHash:=λhv h=>by
  rcases Ec hv with ⟨i,t,rfl,rfl⟩|⟨x,t,rfl,rfl⟩
  .exact wpAny_pyHash_int h
  .exact wpAny_pyHash_str h
 eqBool:=λhu hv h=>by
  rcases Ec hu with ⟨i,t,rfl,rfl⟩|⟨x,t,rfl,rfl⟩
  .rcases Ec hv with ⟨j,u,rfl,rfl⟩|⟨y,u,rfl,rfl⟩
   .rw[znu]at h;exact wpAny_eqBool_int h
   .rw[znt]at h;exact SeqAt.EqAt.int_str i t y u _ _ _ _ h
  .rcases Ec hv with ⟨j,u,rfl,rfl⟩|⟨y,u,rfl,rfl⟩
   .rw[zns]at h;exact SeqAt.EqAt.str_int x t j u _ _ _ _ h
   .rw[znr]at h;exact wpAny_eqBool_str h
 «strs»:=λk x t v h=>by
  rcases Ec h with ⟨i,u,rfl,e⟩|⟨y,u,rfl,e⟩
  .exact nomatch e
  .injection e with e1 _
   subst e1;cases v<;>rfl
theorem zcr(prog:Program)(w:World)(i:Int)(t:Tok):(Cr prog w).is (.inl i) (.int i t)=true:=zf0 i t
theorem zcq(prog:Program)(w:World)(x:Str)(t:Tok):(Cr prog w).is (.inr x) (.str x t)=true:=zez x t
inductive V where
 |non|bl (b:Bool)|int (i:Int)|str (x:Str)|byt (b:Array UInt8)|flt (b:UInt64)|ref (a:Addr)|ty (n:String)
 deriving DecidableEq
def RelV:V->Value->Prop
 |.non,u=>u=Value.none
 |.bl b,u=>u=Value.bool b
 |.int i,u=>∃t,u=Value.int i t
 |.str x,u=>∃t,u=Value.str x t
 |.byt b,u=>∃t,u=Value.bytes b t
 |.flt b,u=>∃t,u=Value.float b t
 |.ref a,u=>u=Value.ref a
 |.ty n,u=>u=Value.type n
abbrev Ab:List V->List Value->Prop:=Paired RelV
theorem Ab.length{xs:List V}{us:List Value}(r:Ab xs us):xs.length=us.length:=ye8 r
theorem Ab.get:∀{xs:List V} {us:List Value} {i:Nat} {x:V},Ab xs us->xs[i]?=some x->∃u,us[i]?=some u/\RelV x u
 |_,_,_,_,.nil,e=>by simp at e
 |_,_,0,_,.cons r _,e=>by simp at e;subst e;exact⟨_,rfl,r⟩
 |_,_,i+1,x,.cons _ t,e=>by
  obtain⟨u,h1,h2⟩:=Ab.get (i:=i) (x:=x) t (by simpa using e)
  exact⟨u,by simpa using h1,h2⟩
theorem Ab.set{x:V}{u:Value}(r:RelV x u):∀{xs:List V} {us:List Value} (i:Nat),Ab xs us->Ab (xs.set i x) (us.set i u)
 |_,_,_,.nil=>.nil
 |_,_,0,.cons _ t=>.cons r t
 |_,_,i+1,.cons q t=>.cons q (Ab.set r i t)
theorem Ab.append:∀{xs ys:List V} {us ws:List Value},Ab xs us->Ab ys ws->Ab (xs++ys) (us++ws)
 |_,_,_,_,.nil,s=>s
 |_,_,_,_,.cons r t,s=>.cons r (Ab.append t s)
theorem Ab.take:∀{xs:List V} {us:List Value} (n:Nat),Ab xs us->Ab (xs.take n) (us.take n)
 |_,_,0,_=>.nil
 |_,_,_+1,.nil=>.nil
 |_,_,n+1,.cons r t=>.cons r (Ab.take n t)
theorem Ab.drop:∀{xs:List V} {us:List Value} (n:Nat),Ab xs us->Ab (xs.drop n) (us.drop n)
 |_,_,0,r=>r
 |_,_,_+1,.nil=>.nil
 |_,_,n+1,.cons _ t=>Ab.drop n t
def DQ:Option V->Option Value->Prop
 |some v,some u=>RelV v u
 |none,none=>True
 |_,_=>False
def KV{κ:Type}:List (κ×V)->List (κ×Value)->Prop:=Paired λ(p:κ×V) (q:κ×Value)=>p.1=q.1/\RelV p.2 q.2
def kV:Key->V
 |.inl i=>.int i
 |.inr x=>.str x
inductive HO where
 |lst (xs:List V)
 |tup (xs:List V)
 |dK (kvs:List (Key×V))|dT (kvs:List (List Key×V))
 |set (S:Int->Bool) (n:Nat)
 |ins (C dx:Addr) (fs:List (Str×V))
 |own (x:Addr)
 |xd (fs:List (Str×V))
 |met (f x:Addr)
 |rng (lo hi:Int)
 |frz (o:Obj) (u:HO)
 |tbl (ps:Array Value)
 |ext (φ:Heap->Prop)
abbrev Hp:=Addr->Option HO
noncomputable def upd(H:Hp)(a:Addr)(o:HO):Hp:=λb=>if b=a then some o else H b
variable {H:Hp}{a:Addr}
theorem Cd{o:HO}:upd H a o a=some o:=by unfold upd;rw[if_pos rfl]
variable {b:Addr}
theorem Az{o:HO}(h:b≠a):upd H a o b=H b:=by unfold upd;rw[if_neg h]
theorem ne_of{o u:HO}(h:H a=some o)(h':H b=some u)(d:o≠u):a≠b:=by
 intro e;subst e;rw[h]at h';exact d (yao h')
theorem C8{o:HO}(h:H a=some o)(h':H b=none):a≠b:=by
 intro e;subst e;rw[h]at h';cases h'
section
variable (P:Program)(w:World)
def Ba(H:Hp)(h:Heap)(a:Addr):HO->Prop
 |.lst xs=>xs.length<=sizeLine/\∃(its:List Value) (n:Nat),Ab xs its/\h.get? a=some { cls:=.type "list",data:=.seq its.toArray n }
 |.tup xs=>xs.length<=sizeLine/\∃its:List Value,Ab xs its/\IsTup h a its.toArray
 |.dK kvs=>kvs.length<=sizeLine/\(a == sysModules)=false/\∃vs,KV kvs vs/\h.DictOf (Cr P w) a vs
 |.dT kvs=>kvs.length<=sizeLine/\(a == sysModules)=false/\∃xs:List (List Key×Addr×Value),
   Paired (λ(p:List Key×V) (q:List Key×Addr×Value)=>p.1=q.1/\H q.2.1=some (.tup (p.1.map kV))/\RelV p.2 q.2.2) kvs xs /\
   ∃o es ep,h.get? a=some o/\o.ExactDict/\o.data=.dict es ep/\es.toList=xs.map (entryOfKey (tupleKind (Cr P w)))/\(xs.map (·.1)).Nodup
 |.set S n=>h.SetOf (intKind P w) a S n
 |.ins C dx fs=>H dx=some (.own a)/\fs.length<=1000/\dx≠a/\h.get? a=some (PySem.W.instObj C dx) /\
   ∃mA,h.Ns1 dx mA/\(∀f,DQ (fs.lookup f) (mA f))/\PySem.Within mA (fs.map (·.1))
 |.own _=>∃o,h.get? a=some o
 |.xd fs=>∃mA,h.Ns1 a mA/\∀f,DQ (fs.lookup f) (mA f)
 |.rng lo hi=>∃t u v,h.get? a=some { cls:=.type "range",data:=.fields #[.int lo t,.int hi u,.int 1 v] }
 |.frz o u=>h.get? a=some o/\Ba H h a u
 |.tbl ps=>h.get? a=some { cls:=.none,data:=.fields ps }
 |.met f x=>h.get? a=some (PySem.W.methodObj (.ref f) (.ref x))
 |.ext φ=>φ h/\(∃o,h.get? a=some o)/\∀h1 h2:Heap,φ h1->(∀o,h1.get? a=some o->h2.get? a=some o)->φ h2
def HOk(H:Hp)(h:Heap):Prop:=∀a o,H a=some o->Ba P w H h a o
end
variable {P:Program}{w:World}{H':Hp}{h h':Heap}
section
variable {o:HO}
theorem Ba.lt(x:Ba P w H h a o):a<h.objs.size:=by
 cases o with
 |lst xs=>obtain⟨_,_,_,_,e⟩:=x;exact yaf e
 |tup xs=>obtain⟨_,_,_,p⟩:=x;exact p.lt
 |dK kvs=>obtain⟨_,_,_,_,o,_,_,e,_⟩:=x;exact yaf e
 |dT kvs=>obtain⟨_,_,_,_,o,_,_,e,_⟩:=x;exact yaf e
 |set S n=>obtain⟨o,_,_,_,e,_⟩:=x;exact yaf e
 |ins C dx fs=>obtain⟨_,_,_,e,_⟩:=x;exact yaf e
 |own y=>obtain⟨_,e⟩:=x;exact yaf e
 |xd fs=>obtain⟨_,⟨_,_,_,e,_⟩,_⟩:=x;exact yaf e
 |rng lo hi=>obtain⟨_,_,_,e⟩:=x;exact yaf e
 |frz ob u=>obtain⟨e,_⟩:=x;exact yaf e
 |tbl ps=>exact yaf (show h.get? a=some _ from x)
 |met f y=>exact yaf (show h.get? a=some _ from x)
 |ext φ=>obtain⟨_,⟨_,e⟩,_⟩:=x;exact yaf e
theorem Paired.mapP{α β:Type}{F G:α->β->Prop}:∀{l₁:List α} {l₂:List β},Paired F l₁ l₂->(∀a b,F a b->G a b)->Paired G l₁ l₂
 |_,_,.nil,_=>.nil
 |_,_,.cons r t,f=>.cons (f _ _ r) (Paired.mapP t f)
theorem Ba.stay(x:Ba P w H h a o)(k:∀b u,(b=a\/H b=some (.own a))->h.get? b=some u->h'.get? b=some u)
  (ho:∀b,H b=some (.own a)->H' b=some (.own a)) (ht:∀b xs,H b=some (.tup xs)->H' b=some (.tup xs)):Ba P w H' h' a o:=by
 induction o with
 |lst xs=>obtain⟨z,its,n,r,e⟩:=x;exact⟨z,its,n,r,k _ _ (.inl rfl) e⟩
 |tup xs=>obtain⟨z,its,r,ob,e,c⟩:=x;exact⟨z,its,r,ob,k _ _ (.inl rfl) e,c⟩
 |dK kvs=>obtain⟨z,y,vs,r,ob,es,ep,e,c⟩:=x;exact⟨z,y,vs,r,ob,es,ep,k _ _ (.inl rfl) e,c⟩
 |dT kvs =>
  obtain⟨z,y,xs,r,ob,es,ep,e,c⟩:=x;exact⟨z,y,xs,Paired.mapP r λp q z=>⟨z.1,ht _ _ z.2.1,z.2.2⟩,ob,es,ep,k _ _ (.inl rfl) e,c⟩
 |set S n=>obtain⟨ob,es,ep,t,e,c⟩:=x;exact⟨ob,es,ep,t,k _ _ (.inl rfl) e,c⟩
 |ins C dx fs =>
  obtain⟨d,z,ne,e,mA,⟨od,es,ep,e2,c⟩,r⟩:=x;exact⟨ho _ d,z,ne,k _ _ (.inl rfl) e,mA,⟨od,es,ep,k _ _ (.inr d) e2,c⟩,r⟩
 |own y=>obtain⟨ob,e⟩:=x;exact⟨ob,k _ _ (.inl rfl) e⟩
 |xd fs=>obtain⟨mA,⟨od,es,ep,e,c⟩,r⟩:=x;exact⟨mA,⟨od,es,ep,k _ _ (.inl rfl) e,c⟩,r⟩
 |rng lo hi=>obtain⟨t,u,v,e⟩:=x;exact⟨t,u,v,k _ _ (.inl rfl) e⟩
 |frz ob u ih=>obtain⟨e,q⟩:=x;exact⟨k _ _ (.inl rfl) e,ih q⟩
 |tbl ps =>
  have e:h.get? a=some { cls:=.none,data:=.fields ps }:=x;show h'.get? a=some { cls:=.none,data:=.fields ps };exact k a _ (.inl rfl) e
 |met f y =>
  have e:h.get? a=some (PySem.W.methodObj (.ref f) (.ref y)):=x;show h'.get? a=some (PySem.W.methodObj (.ref f) (.ref y));exact k a _ (.inl rfl) e
 |ext φ=>obtain⟨p,⟨o,e⟩,st⟩:=x;exact⟨st _ _ p λo q=>k _ _ (.inl rfl) q,⟨o,k _ _ (.inl rfl) e⟩,st⟩
theorem HOk.lt(x:HOk P w H h)(e:H a=some o):a<h.objs.size:=(x a o e).lt
theorem HOk.fresh(x:HOk P w H h)(e:h.objs.size<=a):H a=none:=by
 cases q:H a with
 |none=>rfl
 |some u=>exact absurd (yan (x.lt q) e) (ybd _)
theorem HOk.kept(x:HOk P w H h)(k:∀b u,h.get? b=some u->h'.get? b=some u):HOk P w H h':=λa o e =>
 (x a o e).stay (λb u _ q=>k b u q) (λ_ q=>q) λ_ _ q=>q
theorem HOk.laid(x:HOk P w H h)(k:∀b u,h.get? b=some u->h'.get? b=some u)(hp:h.objs.size<=a)(new:Ba P w (upd H a o) h' a o):HOk P w (upd H a o) h':=λb u e=>by
 have hn:=x.fresh hp
 by_cases hb:b=a
 .subst hb;rw[Cd]at e;cases e;exact new
 .rw[Az hb]at e;exact(x b u e).stay (λc v _ q=>k c v q) (λc q=>by rw[Az (C8 q hn)];exact q) λc xs q=>by rw[Az (C8 q hn)];exact q
end
def Rd(H:Hp)(a:Addr)(u:HO):Prop:=H a=some u\/∃o,H a=some (.frz o u)
theorem Rd.ok{u:HO}(r:Rd H a u)(x:HOk P w H h):Ba P w H h a u:=by
 rcases r with r|⟨o,r⟩
 .exact x a u r
 .obtain⟨_,q⟩:=x a _ r;exact q
def J1:Option HO->Prop
 |some (.lst _)=>True
 |some (.dK _)=>True
 |some (.dT _)=>True
 |some (.set _ _)=>True
 |some (.ins _ _ _)=>True
 |some (.ext _)=>True
 |_=>False
section
variable {x e:Addr}{o':HO}
theorem HOk.write(ok:HOk P w H h)(mu:J1 (H x))(he:e=x\/H e=some (.own x))(k:∀b u,b≠e->h.get? b=some u->h'.get? b=some u)(heo:∃u,h'.get? e=some u)
  (new:Ba P w (upd H x o') h' x o'):HOk P w (upd H x o') h':=λb u q=>by
 have nown:∀c y,H c=some (.own y)->c≠x:=λc y r z=>by subst z;rw[r]at mu;exact mu
 have ntup:∀c xs,H c=some (.tup xs)->c≠x:=λc xs r z=>by subst z;rw[r]at mu;exact mu
 by_cases hb:b=x
 .subst hb;rw[Cd]at q;cases q;exact new
 .rw[Az hb]at q
  by_cases hbe:b=e
  .have q':H b=some (.own x):=by
    rcases he with z|z
    .exact absurd (hbe.trans z) hb
    .rw[hbe];exact z
   rw[q]at q';cases q';obtain⟨v,hv⟩:=heo;exact⟨v,by rw[hbe];exact hv⟩
  .refine(ok b u q).stay (λc v hc r=>k c v ?_ r) (λc r=>by rw[Az (nown c b r)];exact r) λc xs r=>by rw[Az (ntup c xs r)];exact r
   rcases hc with rfl|hc
   .exact hbe
   .rintro rfl
    rcases he with z|z
    .exact nown c b hc z
    .rw[hc]at z;cases z;exact hb rfl
end
structure Un(fs ex:List Addr)(H H':Hp)(h h':Heap):Prop where
 keep:∀b o,h.get? b=some o->H b=none->b∉fs->b∉ex->h'.get? b=some o
 slot:∀b o,h.get? b=some o->H b=none->b∈fs->b∉ex->∃sl,h'.get? b=some { o with slots:=sl }
 free:∀b o,h.get? b=some o->H b=none->b∉ex->H' b=none
 there:∀b o,h.get? b=some o->b∉ex->∃o',h'.get? b=some o'
 tups:∀b xs,H b=some (.tup xs)->H' b=some (.tup xs)
 frzs:∀b o u,H b=some (.frz o u)->H' b=some (.frz o u)
 tbls:∀b ps,H b=some (.tbl ps)->∃more,H' b=some (.tbl (ps++more))
section
variable {fs fs' ex ex':List Addr}{H1 H2:Hp}{h1 h2:Heap}{x e:Addr}{o:HO}
theorem Un.any(u:Un fs ex H H1 h h1){ob:Obj}(q:h.get? b=some ob)(n:H b=none)(hx:b∉ex):∃sl,h1.get? b=some { ob with slots:=sl }:=by
 by_cases hb:b∈fs
 .exact u.slot b ob q n hb hx
 .exact⟨ob.slots,u.keep b ob q n hb hx⟩
theorem Un.kept(k:∀b u,h.get? b=some u->h'.get? b=some u):Un fs ex H H h h' :=
 ⟨λb ob q _ _ _=>k b ob q,λb ob q _ _ _=>⟨ob.slots,k b ob q⟩,λ_ _ _ n _=>n,λb ob q _=>⟨ob,k b ob q⟩,λ_ _ q=>q,λ_ _ _ q=>q,λ_ ps q=>⟨#[],by rw[q];simp⟩⟩
theorem Un.refl:Un fs ex H H h h:=Un.kept λ_ _ q=>q
theorem Un.laid(k:∀b u,h.get? b=some u->h'.get? b=some u)(hp:h.objs.size<=a)(hn:H a=none):Un fs ex H (upd H a o) h h' where
 keep:=λb u q _ _ _=>k b u q
 slot:=λb u q _ _ _=>⟨u.slots,k b u q⟩
 free:=λb u q n _=>by rw[Az (yav (yan (yaf q) hp))];exact n
 there:=λb u q _=>⟨u,k b u q⟩
 tups:=λb xs q=>by rw[Az (C8 q hn)];exact q
 frzs:=λb u xs q=>by rw[Az (C8 q hn)];exact q
 tbls:=λb ps q=>⟨#[],by rw[Az (C8 q hn),q];simp⟩
theorem Un.write(mu:J1 (H x))(he:e=x\/H e=some (.own x))(k:∀b u,b≠e->h.get? b=some u->h'.get? b=some u)(heo:∃u,h'.get? e=some u):Un fs ex H (upd H x o) h h':=by
 have hx:∀b,H b=none->b≠x:=λb n z=>by subst z;rw[n]at mu;exact mu
 have hb:∀b,H b=none->b≠e:=λb n z=>by
  subst z
  rcases he with r|r
  .exact hx b n r
  .rw[n]at r;cases r
 have hm:∀b u,H b=some u->¬ J1 (some u)->b≠x:=λb u q nm z=>by subst z;rw[q]at mu;exact nm mu
 refine⟨λb u q n _ _=>k b u (hb b n) q,λb u q n _ _=>⟨u.slots,k b u (hb b n) q⟩,λb u q n _=>by rw[Az (hx b n)];exact n,λb u q _=>?_,
  λb xs q=>by rw[Az (hm b _ q λz=>z)];exact q,λb u xs q=>by rw[Az (hm b _ q λz=>z)];exact q,λb ps q=>⟨#[],by rw[Az (hm b _ q λz=>z),q];simp⟩⟩
 by_cases hbe:b=e
 .subst hbe;exact heo
 .exact⟨u,k b u hbe q⟩
end
def Jr(h:Heap)(H:Hp):List Addr:=(List.range h.objs.size).filter λa=>(H a).isSome
def F7(h:Heap)(H:Hp):Heap:=PySem.W.hideAll h (Jr h H)
theorem zf4(h:Heap)(H:Hp):(F7 h H).objs.size=h.objs.size:=PySem.W.hideAll_size _ _
theorem zhh{o:Obj}(e:h.get? b=some o)(n:H b=none):(F7 h H).get? b=some o :=
 yc9 _ e λhm=>by
  have q:(H b).isSome=true:=(ych.mp hm).2;rw[n]at q;simp at q
theorem zjt{o:Obj}(e:(F7 h H).get? b=some o):h.get? b=some o/\H b=none:=by
 have e':h.get? b=some o:=ycs (Jr h H) e;refine⟨e',?_⟩;cases q:H b with
 |none=>rfl
 |some x =>
  have hm:b∈Jr h H:=ych.mpr ⟨ybb.mpr (yaf e'),by simp[q]⟩
  have z:(F7 h H).get? b=none:=ydr (Jr h H) hm;rw[z]at e;cases e
structure Mod(K:k9)(mg:Str->Option Value)(base:Heap):Prop where
 kin:K.In base
 glob:base.Ns mainGlobals mg
 blt:∃mb,base.Ns builtinsNs mb/\∀x:Str,x≠"__name__"->mb x=bootBuiltins x
 nolimit:base.NoLimit
set_option genInjectivity false in
structure Cx where
 prog:Program
 w:World
 K:k9
 mg:Str->Option Value
 base:Heap
 A:Around
 N:List Str
 s₀:Shared
 H₀:Hp
 env:Env
 outer:List Env
 stack:List Env
 ex:List Addr
 fn:Str->Bool
 calm:Bool
 pn:List (Addr×Obj)
 xe:Value->Shared->Prop
variable {X:Cx}
def BK(l:List Env):List Addr:=l.filterMap (·.frame)
abbrev Cx.fs(X:Cx):List Addr:=BK X.outer
def D0(sc:Scope)(x:Str):Prop:=sc.names.lookup x=some .local\/sc.names.lookup x=some .cell\/sc.names.lookup x=some .free
def GU(sc:Scope)(x:Str):Prop:=sc.names.lookup x=some .local\/sc.names.lookup x=some .cell
def Look(env:Env)(h:Heap)(m:Str->Option Value)(x:Str)(u:Value):Prop :=
 (env.kindOf x=some .local/\m x=some u)\/((env.kindOf x=some .cell\/env.kindOf x=some .free)/\∃c,env.cells.lookup x=some c/\h.IsCell c (some u))
structure Cx.Ok(X:Cx):Prop where
 mod:Mod X.K X.mg X.base
 kind:X.env.scope.kind=.function
 glob:X.env.globals=mainGlobals
 blt:X.env.builtins=builtinsNs
 above:X.s₀.heap.objs.size<=X.env.locals
 inj:∀x y c,X.env.cells.lookup x=some c->X.env.cells.lookup y=some c->x=y
 has:∀x,(X.env.kindOf x=some .cell\/X.env.kindOf x=some .free)->∃c,X.env.cells.lookup x=some c
 cab:∀x c,X.fn x=true->X.env.cells.lookup x=some c->X.s₀.heap.objs.size<=c
 hd:X.calm=true->X.A.handled=none
 frames:X.A.frames=some X.stack
 stk:X.stack=X.outer\/(X.stack=X.env::X.outer/\X.env.frame=some X.env.locals)
 exf:∀b∈X.ex,b≠X.env.locals/\∀x c,X.env.cells.lookup x=some c->c≠b
 bs:∀b o,X.base.get? b=some o->X.s₀.heap.get? b=some o/\X.H₀ b=none
 bsz:X.base.objs.size<=X.s₀.heap.objs.size
 noex:∀b o,X.base.get? b=some o->b∉X.ex
 exfs:∀b∈X.ex,b∉X.fs
 funs:X.s₀.heap.FunFrames X.base X.outer
 frf:∀b∈X.fs,X.H₀ b=none
structure Inv(X:Cx)(pins:List (Addr×Obj))(σ:List (Option V))(H:Hp)(s:Shared):Prop where
 ok:X.Ok
 os:s.os=X.s₀.os
 bare:AllBare s.gens
 base:Un X.fs X.ex X.H₀ H X.s₀.heap s.heap
 loc:∃m,s.heap.Ns X.env.locals m/\∀(i:Nat) (x:Str) (v:V),X.N[i]?=some x->σ[i]?=some (some v)->D0 X.env.scope x->∃u,RelV v u/\Look X.env s.heap m x u
 cell:∀x c,X.env.cells.lookup x=some c->∃v,s.heap.IsCell c v
 free:H X.env.locals=none
 freeC:∀x c,X.env.cells.lookup x=some c->H c=none
 pin:∀p∈X.pn++pins,s.heap.get? p.1=some p.2/\H p.1=none/\p.1≠X.env.locals/\p.1∉X.fs/\∀v,p.2.data≠.cell v
 hok:HOk X.prog X.w H s.heap
 len:σ.length=X.N.length
variable {pins:List (Addr×Obj)}{s:Shared}{t' i:Nat}{ch:List Addr}{x:Str}{A:Around}{u:Value}
section
variable {σ:List (Option V)}
theorem Cx.Ok.nofr(ok:X.Ok){o:Obj}(e:X.base.get? b=some o):b∉X.fs:=λhb=>by
 have:=(ok.funs.mem hb).1;rw[e]at this;cases this
theorem Inv.bs(I:Inv X pins σ H s):∀b o,X.base.get? b=some o->s.heap.get? b=some o/\H b=none:=λb o e =>
 ⟨I.base.keep b o (I.ok.bs b o e).1 (I.ok.bs b o e).2 (I.ok.nofr e) (I.ok.noex b o e),I.base.free b o (I.ok.bs b o e).1 (I.ok.bs b o e).2 (I.ok.noex b o e)⟩
theorem Inv.bk(I:Inv X pins σ H s):∀b o,X.base.get? b=some o->s.heap.get? b=some o:=λb o e=>(I.bs b o e).1
theorem Inv.mod(I:Inv X pins σ H s):Mod X.K X.mg X.base:=I.ok.mod
theorem Inv.kIn(I:Inv X pins σ H s):X.K.In s.heap:=I.ok.mod.kin.keeps I.bk
theorem Inv.lt(I:Inv X pins σ H s):X.env.locals<s.heap.objs.size:=let ⟨_,hn,_⟩:=I.loc;hn.lt
theorem Inv.sz(I:Inv X pins σ H s):X.s₀.heap.objs.size<=s.heap.objs.size:=yak I.ok.above (yeh I.lt)
theorem Inv.nofs(I:Inv X pins σ H s)(h:s.heap.objs.size<=a):a∉X.fs:=λhb=>by
 obtain⟨_,o,ho,_⟩:=I.ok.funs.mem hb;exact absurd (yan (yaf ho) (yak I.sz h)) (ybd _)
theorem Inv.cne(I:Inv X pins σ H s):∀x c,X.env.cells.lookup x=some c->c≠X.env.locals:=λx c e z=>by
 obtain⟨v,o,ho,hd⟩:=I.cell x c e;obtain⟨m,⟨o',es,ep,ho',hd',_⟩,_⟩:=I.loc;rw[z,ho']at ho;cases ho;rw[hd']at hd;cases hd
theorem Inv.funs(I:Inv X pins σ H s):s.heap.FunFrames X.base X.outer:=by
 have all:∀(l:List Env),(∀b∈BK l,b∈X.fs)->X.s₀.heap.FunFrames X.base l->s.heap.FunFrames X.base l:=by
  intro l
  induction l with
  |nil=>intro _ _;trivial
  |cons env r ih =>
   intro hs hl;obtain⟨hk,⟨L,o,hf,hn,ho,hd⟩,hr⟩:=hl;have hL:L∈X.fs:=hs L (by unfold BK;rw[ydx,hf];exact ya5)
   obtain⟨sl,e⟩:=I.base.slot L o ho (I.ok.frf L hL) hL λz=>I.ok.exfs L z hL
   exact⟨hk,⟨L,_,hf,hn,e,hd⟩,ih (λb hb=>hs b (by unfold BK;rw[ydx,hf];exact ya4 _ hb)) hr⟩
 exact all X.outer (λ_ hb=>hb) I.ok.funs
theorem Inv.stack(I:Inv X pins σ H s):s.heap.FunFrames X.base X.stack:=by
 rcases I.ok.stk with e|⟨e,hf⟩
 .rw[e];exact I.funs
 .rw[e];obtain⟨m,hn,_⟩:=I.loc;refine .cons (by rw[I.ok.kind];decide) hf hn ?_ I.funs
  exact Heap.get?_none_of_le (yak I.ok.bsz I.ok.above)
theorem Inv.stkSub(I:Inv X pins σ H s):∀b∈BK X.stack,b∈X.env.locals::X.fs:=λb hb=>by
 rcases I.ok.stk with e|⟨e,hf⟩
 .rw[e]at hb;exact ya4 _ hb
 .rw[e]at hb;unfold BK at hb;rw[ydx,hf]at hb;exact hb
theorem Inv.stkFree(I:Inv X pins σ H s):∀b∈BK X.stack,H b=none:=λb hb=>by
 rcases ya9.mp (I.stkSub b hb) with e|hb
 .rw[e];exact I.free
 .obtain⟨_,o,ho,_⟩:=I.ok.funs.mem hb;exact I.base.free b o ho (I.ok.frf b hb) λz=>I.ok.exfs b z hb
theorem Inv.step{g':Array GenState}{d':Drawn}(I:Inv X pins σ H s)(hch:∀b∈ch,(b∈X.ex\/X.s₀.heap.objs.size<=b)/\b≠X.env.locals/\(∀x c,X.env.cells.lookup x=some c->c≠b)/\∀p∈X.pn++pins,p.1≠b)(keep:∀b o,b≠X.env.locals->b∉X.fs->b∉ch->s.heap.get? b=some o->H b=none->h'.get? b=some o)(slot:∀b o,b≠X.env.locals->b∈X.fs->b∉ch->s.heap.get? b=some o->H b=none->∃sl,h'.get? b=some { o with slots:=sl })(free:∀b o,b∉ch->s.heap.get? b=some o->H b=none->H' b=none)(there:∀b o,b∉ch->s.heap.get? b=some o->∃o',h'.get? b=some o')(tups:∀b xs,H b=some (.tup xs)->H' b=some (.tup xs))(frzs:∀b o u,H b=some (.frz o u)->H' b=some (.frz o u))(tbls:∀b ps,H b=some (.tbl ps)->∃more,H' b=some (.tbl (ps++more)))(ns:∀m,s.heap.Ns X.env.locals m->h'.Ns X.env.locals m)(hok:HOk X.prog X.w H' h')(hg:AllBare g') :
  Inv X pins σ H' { s with heap:=h',gens:=g',drawn:=d',toks:=t' }:=by
 have neL:∀b o,X.s₀.heap.get? b=some o->b≠X.env.locals:=λb o e=>yav (yan (yaf e) I.ok.above)
 have neC:∀b o,X.s₀.heap.get? b=some o->b∉X.ex->b∉ch:=λb o e hx hb=>by
  rcases(hch b hb).1 with z|z
  .exact hx z
  .exact absurd (yan (yaf e) z) (ybd _)
 have cellK:∀x c,X.env.cells.lookup x=some c->∀v,s.heap.IsCell c v->h'.IsCell c v:=λx c e v ⟨o,ho,hd⟩=>by
  have nch:c∉ch:=λz=>(hch c z).2.2.1 x c e rfl
  by_cases hc:c∈X.fs
  .obtain⟨sl,q⟩:=slot c o (I.cne x c e) hc nch ho (I.freeC x c e);exact⟨_,q,hd⟩
  .exact⟨o,keep c o (I.cne x c e) hc nch ho (I.freeC x c e),hd⟩
 refine⟨I.ok,I.os,hg,⟨λb o e n hb hx=>?_,λb o e n hb hx=>?_,λb o e n hx=>?_,λb o e hx=>?_,λb xs e=>tups b xs (I.base.tups b xs e),λb o xs e=>frzs b o xs (I.base.frzs b o xs e),λb ps e=>?_⟩,?_,λx c e=>?_,?_,λx c e=>?_,λp hp=>?_,hok,I.len⟩
 .exact keep b o (neL b o e) hb (neC b o e hx) (I.base.keep b o e n hb hx) (I.base.free b o e n hx)
 .obtain⟨sl,e1⟩:=I.base.slot b o e n hb hx;obtain⟨sl',e2⟩:=slot b _ (neL b o e) hb (neC b o e hx) e1 (I.base.free b o e n hx);exact⟨sl',e2⟩
 .obtain⟨o',e1⟩:=I.base.there b o e hx;exact free b o' (neC b o e hx) e1 (I.base.free b o e n hx)
 .obtain⟨o',e1⟩:=I.base.there b o e hx;exact there b o' (neC b o e hx) e1
 .obtain⟨m1,e1⟩:=I.base.tbls b ps e;obtain⟨m2,e2⟩:=tbls b _ e1;exact⟨m1++m2,by rw[e2,Array.append_assoc]⟩
 .obtain⟨m,hn,hl⟩:=I.loc;refine⟨m,ns m hn,λi x v e1 e2 e3=>?_⟩
  obtain⟨u,r,l⟩:=hl i x v e1 e2 e3;refine⟨u,r,?_⟩
  rcases l with l|⟨k,c,e,z⟩
  .exact .inl l
  .exact .inr ⟨k,c,e,cellK x c e _ z⟩
 .obtain⟨v,z⟩:=I.cell x c e;exact⟨v,cellK x c e v z⟩
 .obtain⟨m,⟨o,_,_,ho,_⟩,_⟩:=I.loc;exact free _ o (λz=>(hch _ z).2.1 rfl) ho I.free
 .obtain⟨v,o,ho,hd⟩:=I.cell x c e;exact free c o (λz=>(hch c z).2.2.1 x c e rfl) ho (I.freeC x c e)
 .obtain⟨e,n,ne,nf,d⟩:=I.pin p hp;have nch:p.1∉ch:=λz=>(hch p.1 z).2.2.2 p hp rfl
  exact⟨keep p.1 p.2 ne nf nch e n,free p.1 p.2 nch e n,ne,nf,d⟩
theorem Inv.un(I:Inv X pins σ H s)(u:Un X.fs [] H H' s.heap h')(hok:HOk X.prog X.w H' h'):Inv X pins σ H' { s with heap:=h',toks:=t' }:=by
 obtain⟨m,⟨o,es,ep,ho,r⟩,_⟩:=id I.loc;obtain⟨sl,hL⟩:=u.any ho I.free (by simp)
 exact I.step (g':=s.gens) (d':=s.drawn) (ch:=[]) (λ_ z=>nomatch z) (λb o _ hb _ e n=>u.keep b o e n hb (by simp)) (λb o _ hb _ e n=>u.slot b o e n hb (by simp)) (λb o _ e n=>u.free b o e n (by simp)) (λb o _ e=>u.there b o e (by simp)) u.tups u.frzs u.tbls (λm' hm=>by
  obtain⟨o',es',ep',ho',r'⟩:=hm;rw[ho]at ho';cases ho';exact⟨_,es',ep',hL,r'⟩) hok I.bare
theorem Inv.call{g':Array GenState}{d':Drawn}(I:Inv X pins σ H s)(u:Un (BK X.stack) ch H H' s.heap h')(hok:HOk X.prog X.w H' h')(hg:AllBare g')(hch:∀b∈ch,(b∈X.ex\/X.s₀.heap.objs.size<=b)/\b≠X.env.locals/\(∀x c,X.env.cells.lookup x=some c->c≠b)/\∀p∈X.pn++pins,p.1≠b) :
  Inv X pins σ H' { s with heap:=h',gens:=g',drawn:=d',toks:=t' }:=by
 obtain⟨m,⟨o,es,ep,ho,r⟩,_⟩:=id I.loc;obtain⟨sl,hL⟩:=u.any ho I.free λz=>(hch _ z).2.1 rfl
 exact I.step (ch:=ch) hch (λb o hL hb hc e n=>u.keep b o e n (λz=>(ya9.mp (I.stkSub b z)).elim hL hb) hc) (λb o _ _ hc e n=>u.any e n hc) (λb o hc e n=>u.free b o e n hc) (λb o hc e=>u.there b o e hc) u.tups u.frzs u.tbls (λm' hm=>by
  obtain⟨o',es',ep',ho',r'⟩:=hm;rw[ho]at ho';cases ho';exact⟨_,es',ep',hL,r'⟩) hok hg
theorem Inv.turned{it:Addr}(I:Inv X pins σ H s)(k:∀b o,b≠it->s.heap.get? b=some o->h'.get? b=some o)(hn:H it=none)(hL:it≠X.env.locals)(h1:it∈X.ex\/X.s₀.heap.objs.size<=it)(h2:∀x c,X.env.cells.lookup x=some c->c≠it)(h3:∀p∈X.pn++pins,p.1≠it):Inv X pins σ H { s with heap:=h',toks:=t' }:=by
 have nit:∀b u,H b=some u->b≠it:=λb u e z=>by rw[z,hn]at e;cases e
 refine I.step (g':=s.gens) (d':=s.drawn) (ch:=[it]) (λb hb=>?_) (λb o _ _ hc e _=>k b o (λz=>hc (by simp[z])) e) (λb o _ _ hc e _=>⟨o.slots,k b o (λz=>hc (by simp[z])) e⟩) (λ_ _ _ _ n=>n)
  (λb o hc e=>⟨o,k b o (λz=>hc (by simp[z])) e⟩) (λ_ _ e=>e) (λ_ _ _ e=>e) (λb ps e=>⟨#[],by rw[e];simp⟩) (λm hm=>?_) (λb u e=>?_) I.bare
 .have e:b=it:=by simpa using hb
  subst e;exact⟨h1,hL,h2,h3⟩
 .obtain⟨o,es,ep,ho,r⟩:=hm;exact⟨o,es,ep,k _ o (ybc hL) ho,r⟩
 .refine(I.hok b u e).stay (λc v hc q=>k c v ?_ q) (λ_ q=>q) λ_ _ q=>q
  rcases hc with z|z
  .rw[z];exact nit b u e
  .exact nit c _ z
theorem Inv.tok(I:Inv X pins σ H s)(t:Nat):Inv X pins σ H { s with toks:=t }:=I.un (h':=s.heap) (t':=t) Un.refl I.hok
theorem Inv.kept{t':Nat}(I:Inv X pins σ H s)(k:∀b u,s.heap.get? b=some u->h'.get? b=some u):Inv X pins σ H { s with heap:=h',toks:=t' }:=I.un (Un.kept k) (I.hok.kept k)
theorem Inv.laid{a:Addr}{o:HO}{t':Nat}(I:Inv X pins σ H s)(k:∀b u,s.heap.get? b=some u->h'.get? b=some u)(hp:s.heap.objs.size<=a)(new:Ba X.prog X.w (upd H a o) h' a o) :
  Inv X pins σ (upd H a o) { s with heap:=h',toks:=t' }:=I.un (Un.laid k hp (I.hok.fresh hp)) (I.hok.laid k hp new)
theorem Inv.write{x e:Addr}{o:HO}{t':Nat}(I:Inv X pins σ H s)(mu:J1 (H x))(he:e=x\/H e=some (.own x))(k:∀b u,b≠e->s.heap.get? b=some u->h'.get? b=some u)(heo:∃u,h'.get? e=some u)
  (new:Ba X.prog X.w (upd H x o) h' x o):Inv X pins σ (upd H x o) { s with heap:=h',toks:=t' }:=I.un (Un.write mu he k heo) (I.hok.write mu he k heo new)
theorem Inv.pins_of{pins':List (Addr×Obj)}(I:Inv X pins σ H s)(h:∀p∈pins',s.heap.get? p.1=some p.2/\H p.1=none/\p.1≠X.env.locals/\p.1∉X.fs/\∀v,p.2.data≠.cell v):Inv X pins' σ H s :=
 ⟨I.ok,I.os,I.bare,I.base,I.loc,I.cell,I.free,I.freeC,λp hp=>(yba.mp hp).elim (λz=>I.pin p (yc4 _ z)) (h p),I.hok,I.len⟩
theorem VU{N:List Str}(hN:N.Nodup){j:Nat}(a:N[i]?=some x)(b:N[j]?=some x):i=j:=by
 obtain⟨h1,e1⟩:=ya6.mp a;obtain⟨h2,e2⟩:=ya6.mp b;exact(ydl hN).mp (e1.trans e2.symm)
theorem RY{M:Model}{v:V}{Q:Unit->Shared->Prop}(I:Inv X pins σ H s)(hN:X.N.Nodup)(hi:X.N[i]?=some x)(hx:GU X.env.scope x)(r:RelV v u)(h:∀s',Inv X pins (σ.set i (some v)) H s'->(∃a,Heap.SameBut a s.heap s'.heap/\(a=X.env.locals\/X.env.cells.lookup x=some a))->Q () s')(hf:X.fn x=true\/X.env.scope.names.lookup x=some .local:=by first|exact .inl rfl|exact .inr rfl|assumption):wpAny M A (storeName X.env x u) Q E s:=by
 obtain⟨m,hn,hl⟩:=id I.loc;have hcls:(X.env.scope.kind == .class || (X.env.scope.kind == .module && X.env.locals != X.env.globals))=false:=by rw[I.ok.kind];rfl
 have hiσ:i<σ.length:=by rw[I.len];exact(ya6.mp hi).1
 have cne:=I.cne
 have tracked:∀{a:Addr} {h':Heap},(∃o,s.heap.get? a=some o/\H a=none)->Heap.SameBut a s.heap h'->HOk X.prog X.w H h':=λ{a h'} ha hs b ob e=>by
  obtain⟨_,_,hfree⟩:=ha;refine(I.hok b ob e).stay (λc w' hc q=>(hs.2 c ?_).trans q) (λ_ q=>q) λ_ _ q=>q
  rintro rfl
  rcases hc with rfl|hc
  .rw[hfree]at e;cases e
  .rw[hfree]at hc;cases hc
 rcases hx with hk|hk
 .refine wpAny_storeName_local hk hn (λh' hn' hs=>?_) hcls
  obtain⟨oL,_,_,hoL,_⟩:=id hn;refine h _ ⟨I.ok,I.os,I.bare,⟨λb o e n hb hx=>?_,λb o e n hb hx=>?_,I.base.free,λb o e hx=>?_,I.base.tups,I.base.frzs,I.base.tbls⟩,⟨_,hn',λj y v' e1 e2 e3=>?_⟩,λy c e=>?_,I.free,I.freeC,λp hp=>?_,tracked ⟨oL,hoL,I.free⟩ hs,by simpa using I.len⟩ ⟨_,hs,.inl rfl⟩
  .exact(hs.2 b (yav (yan (yaf e) I.ok.above))).trans (I.base.keep b o e n hb hx)
  .obtain⟨sl,e1⟩:=I.base.slot b o e n hb hx;exact⟨sl,(hs.2 b (yav (yan (yaf e) I.ok.above))).trans e1⟩
  .obtain⟨o',e1⟩:=I.base.there b o e hx;exact⟨o',(hs.2 b (yav (yan (yaf e) I.ok.above))).trans e1⟩
  .by_cases hj:j=i
   .subst hj;rw[hi]at e1;cases e1;rw[yax hiσ]at e2;cases e2;exact⟨u,r,.inl ⟨hk,by simp⟩⟩
   .rw[yb4 (ybc hj)]at e2;obtain⟨u',r',q⟩:=hl j y v' e1 e2 e3;refine⟨u',r',?_⟩
    rcases q with ⟨k,e⟩|⟨k,c,e,z⟩
    .refine .inl ⟨k,?_⟩;have:y≠x:=λe=>hj (VU hN e1 (e▸hi))
     simp[this,e]
    .exact .inr ⟨k,c,e,z.sameBut hs (cne y c e)⟩
  .obtain⟨w',z⟩:=I.cell y c e;exact⟨w',z.sameBut hs (cne y c e)⟩
  .obtain⟨e,n,ne,nf,d⟩:=I.pin p hp;exact⟨(hs.2 p.1 ne).trans e,n,ne,nf,d⟩
 .have hfn:X.fn x=true:=by
   rcases hf with z|z
   .exact z
   .rw[z]at hk;cases hk
  obtain⟨c,hc⟩:=I.ok.has x (.inl hk);obtain⟨w',z⟩:=I.cell x c hc;refine wpAny_storeName_cell I.ok.kind hk hc z (λh' hc' hs=>?_)
  obtain⟨oc,hoc,hocd⟩:=id z;refine h { s with heap:=h' } ⟨I.ok,I.os,I.bare,⟨λb o e n hb hx=>?_,λb o e n hb hx=>?_,I.base.free,λb o e hx=>?_,I.base.tups,I.base.frzs,I.base.tbls⟩,⟨m,hn.sameBut hs (ybc (cne x c hc)),λj y v' e1 e2 e3=>?_⟩,λy c' e=>?_,I.free,I.freeC,λp hp=>?_,tracked ⟨oc,hoc,I.freeC x c hc⟩ hs,by simpa using I.len⟩ ⟨c,hs,.inr hc⟩
  .exact(hs.2 b (yav (yan (yaf e) (I.ok.cab x c hfn hc)))).trans (I.base.keep b o e n hb hx)
  .obtain⟨sl,e1⟩:=I.base.slot b o e n hb hx;exact⟨sl,(hs.2 b (yav (yan (yaf e) (I.ok.cab x c hfn hc)))).trans e1⟩
  .obtain⟨o',e1⟩:=I.base.there b o e hx;exact⟨o',(hs.2 b (yav (yan (yaf e) (I.ok.cab x c hfn hc)))).trans e1⟩
  .by_cases hj:j=i
   .subst hj;rw[hi]at e1;cases e1;rw[yax hiσ]at e2;cases e2;exact⟨u,r,.inr ⟨.inl hk,c,hc,hc'⟩⟩
   .rw[yb4 (ybc hj)]at e2;obtain⟨u',r',q⟩:=hl j y v' e1 e2 e3;refine⟨u',r',?_⟩
    rcases q with q|⟨k,c',e,z'⟩
    .exact .inl q
    .refine .inr ⟨k,c',e,z'.sameBut hs ?_⟩;rintro rfl;exact hj (VU hN e1 (I.ok.inj _ _ _ e hc▸hi))
  .by_cases hcc:c'=c
   .subst hcc;exact⟨_,hc'⟩
   .obtain⟨w2,z2⟩:=I.cell y c' e;exact⟨w2,z2.sameBut hs hcc⟩
  .obtain⟨e,n,ne,nf,d⟩:=I.pin p hp;refine⟨(hs.2 p.1 ?_).trans e,n,ne,nf,d⟩;intro q;rw[q,hoc]at e;have q':oc=p.2:=yao e;exact d w' (by rw[<- q'];exact hocd)
theorem Jz{M:Model}{v:V}{Q:Unit->Shared->Prop}(I:Inv X pins σ H s)(hN:X.N.Nodup)(hi:X.N[i]?=some x)(hx:GU X.env.scope x)(r:RelV v u)(h:∀s',Inv X pins (σ.set i (some v)) H s'->Q () s')(hf:X.fn x=true\/X.env.scope.names.lookup x=some .local:=by first|exact .inl rfl|exact .inr rfl|assumption):wpAny M A (storeName X.env x u) Q E s :=
 RY I hN hi hx r (λs' I' _=>h s' I') hf
theorem Inv.call'{s':Shared}(I:Inv X pins σ H s)(ho:s'.os=s.os)(u:Un (BK X.stack) ch H H' s.heap s'.heap)(hok:HOk X.prog X.w H' s'.heap)(hg:AllBare s'.gens)(hch:∀b∈ch,(b∈X.ex\/X.s₀.heap.objs.size<=b)/\b≠X.env.locals/\(∀x c,X.env.cells.lookup x=some c->c≠b)/\∀p∈X.pn++pins,p.1≠b):Inv X pins σ H' s':=by
 obtain⟨h',g',d',t',o'⟩:=s';have e:o'=s.os:=ho;subst e;exact I.call (g':=g') (t':=t') (d':=d') u hok hg hch
end
abbrev XK:=Value->Option Addr->Hp->Prop
abbrev St:=List (Option V)
abbrev VK:=V->Hp->Prop
abbrev TE:=St->Hp->VK->Prop
abbrev TT:=St->Hp->(Bool->Hp->Prop)->Prop
abbrev TA:=St->Hp->(List V->Hp->Prop)->Prop
structure Ends where
 nx:St->Hp->Prop
 rt:VK
 bk:St->Hp->Prop:=λ_ _=>False
 ct:St->Hp->Prop:=λ_ _=>False
abbrev TS:=Ends->St->Hp->Prop
def EP(X:Cx)(pins:List (Addr×Obj))(σ:St)(Q:VK)(u:Value)(s':Shared):Prop:=∃v H',Inv X pins σ H' s'/\RelV v u/\Q v H'
def TP(X:Cx)(pins:List (Addr×Obj))(σ:St)(Q:Bool->Hp->Prop)(b:Bool)(s':Shared):Prop:=∃H',Inv X pins σ H' s'/\Q b H'
def AP(X:Cx)(pins:List (Addr×Obj))(σ:St)(Q:List V->Hp->Prop)(us:List Value)(s':Shared):Prop:=∃vs H',Inv X pins σ H' s'/\Ab vs us/\Q vs H'
def SP(X:Cx)(pins:List (Addr×Obj))(D:Ends)(f:Flow)(s':Shared):Prop :=
 match f with
 |.next=>∃σ' H',Inv X pins σ' H' s'/\D.nx σ' H'
 |.brk=>∃σ' H',Inv X pins σ' H' s'/\D.bk σ' H'
 |.cont=>∃σ' H',Inv X pins σ' H' s'/\D.ct σ' H'
 |.ret u=>∃v σ' H',Inv X pins σ' H' s'/\RelV v u/\D.rt v H'
def PE(X:Cx)(e:Expr)(t:TE):Prop :=
 ∀(pins:List (Addr×Obj)) (s:Shared) (σ:St) (H:Hp) (Q:VK),Inv X pins σ H s->t σ H Q->wpAny (model X.prog X.w) X.A (eval e X.env) (EP X pins σ Q) X.xe s
def PT(X:Cx)(e:Expr)(t:TT):Prop :=
 ∀(pins:List (Addr×Obj)) (s:Shared) (σ:St) (H:Hp) (Q:Bool->Hp->Prop),Inv X pins σ H s->t σ H Q->wpAny (model X.prog X.w) X.A (isTrue e X.env (eval e X.env)) (TP X pins σ Q) X.xe s
def PW(X:Cx)(e:Expr)(t:TT):Prop :=
 ∀(whole:Sem Value) (pins:List (Addr×Obj)) (s:Shared) (σ:St) (H:Hp) (Q:Bool->Hp->Prop),Inv X pins σ H s->t σ H Q->wpAny (model X.prog X.w) X.A (isTrue e X.env whole) (TP X pins σ Q) X.xe s
variable {e:Expr}
theorem PW.pt{t:TT}(h:PW X e t):PT X e t:=h _
def PA(X:Cx)(es:List Expr)(t:TA):Prop :=
 ∀(pos:Pos) (pins:List (Addr×Obj)) (s:Shared) (σ:St) (H:Hp) (Q:List V->Hp->Prop),Inv X pins σ H s->t σ H Q->wpAny (model X.prog X.w) X.A (spliced (backTo pos (starEach es X.env))) (AP X pins σ Q) X.xe s
def PS(X:Cx)(st:Stmt)(t:TS):Prop :=
 ∀(pins:List (Addr×Obj)) (s:Shared) (σ:St) (H:Hp) (D:Ends),Inv X pins σ H s->t D σ H->wpAny (model X.prog X.w) X.A (exec st X.env) (SP X pins D) X.xe s
def BY(X:Cx)(st:List Stmt)(t:TS):Prop :=
 ∀(pins:List (Addr×Obj)) (s:Shared) (σ:St) (H:Hp) (D:Ends),Inv X pins σ H s->t D σ H->wpAny (model X.prog X.w) X.A (execs st X.env) (SP X pins D) X.xe s
theorem AZ{α:Type}{t:Sem α}{Q Q':α->Shared->Prop}{M:Model}(h:wpAny M A t Q E s)(hQ:∀a s,Q a s->Q' a s):wpAny M A t Q' E s:=yep h hQ λ_ _ x=>x
variable {pos:Pos}{σ:St}{Q:Value->Shared->Prop}{ta:TE}{c:Expr}
section
def Qy(i:Nat):TE:=λσ H Q=>∃v,σ[i]?=some (some v)/\Q v H
def tC(v:V):TE:=λ_ H Q=>Q v H
theorem HV(hN:X.N[i]?=some x)(hv:D0 X.env.scope x)(hd:(x == ("__debug__":Str))=false:=by decide)(hcd:(x == ("__classdict__":Str))=false:=by decide):PE X (.Name x pos) (Qy i):=by
 intro pins s σ H Q I h;obtain⟨v,e,h⟩:=h;obtain⟨m,hn,hl⟩:=I.loc;obtain⟨u,r,l⟩:=hl i x v hN e hv;have BE:EP X pins σ Q u s:=⟨v,H,I,r,h⟩
 rcases l with ⟨hk,hm⟩|⟨hk,c,hc,hcell⟩
 .exact wpAny_Name (wpAny_loadName_local I.ok.kind hk hn hm BE) hd
 .rcases hk with hk|hk
  .exact wpAny_Name (wpAny_loadName_cell I.ok.kind hk hc hcell BE) hd
  .exact wpAny_Name (wpAny_loadName_free I.ok.kind hk hc hcell BE hcd) hd
theorem zmx{i j pos}:PE X (.Constant (.int i) j pos) (tC (.int i)):=λ_ _ _ H _ I h=>wpAny_Constant_int ⟨.int i,H,I.tok _,⟨_,rfl⟩,h⟩
theorem pe_bl{b j pos}:PE X (.Constant (.bool b) j pos) (tC (.bl b)):=λ_ _ _ H _ I h=>Constant_bool ⟨.bl b,H,I,rfl,h⟩
theorem Tq{j pos}:PE X (.Constant .none j pos) (tC .non):=λ_ _ _ H _ I h=>Constant_none ⟨.non,H,I,rfl,h⟩
theorem zms{x j pos}:PE X (.Constant (.str x) j pos) (tC (.str x)):=λ_ _ _ H _ I h=>Calls.Constant_str ⟨.str x,H,I.tok _,⟨_,rfl⟩,h⟩
def Gl(X:Cx)(x:Str):Prop:=X.env.kindOf x=some .globalImplicit
theorem HZ(I:Inv X pins σ H s)(hg:Gl X x)(hm:X.mg x=some u)(h:Q u s)(hd:(x == ("__debug__":Str))=false:=by decide):wpAny (model X.prog X.w) X.A (eval (.Name x pos) X.env) Q E s :=
 Calls.Name_function_global I.ok.kind hg (Calls.loadGlobal_global (by rw[I.ok.glob];exact I.mod.glob.keeps I.bk) hm h) hd
theorem Fw(I:Inv X pins σ H s)(hg:Gl X x)(hm:X.mg x=none)(hv:bootBuiltins x=some u)(h:Q u s)(hn:x≠"__name__":=by decide)(hd:(x == ("__debug__":Str))=false:=by decide):wpAny (model X.prog X.w) X.A (eval (.Name x pos) X.env) Q E s:=by
 obtain⟨mb,h1,h2⟩:=I.mod.blt;exact Calls.Name_function_global I.ok.kind hg (Calls.loadGlobal_builtin (by rw[I.ok.glob];exact I.mod.glob.keeps I.bk) hm (by rw[I.ok.blt];exact h1.keeps I.bk) ((h2 x hn).trans hv) h) hd
theorem Ts{v:V}(hg:Gl X x)(hm:X.mg x=some u)(r:RelV v u)(hd:(x == ("__debug__":Str))=false:=by decide):PE X (.Name x pos) (tC v) :=
 λ_ _ _ H _ I h=>HZ I hg hm ⟨v,H,I,r,h⟩ hd
theorem zjg{v:V}(hg:Gl X x)(hm:X.mg x=none)(hv:bootBuiltins x=some u)(r:RelV v u)(hn:x≠"__name__":=by decide)(hd:(x == ("__debug__":Str))=false:=by decide):PE X (.Name x pos) (tC v) :=
 λ_ _ _ H _ I h=>Fw I hg hm hv ⟨v,H,I,r,h⟩ hn hd
variable {a b:Expr}{tb:TE}
def tB(t:TE):TT:=λσ H Q=>t σ H λx H1=>∃c,x=.bl c/\Q c H1
theorem zmf{t:TE}(h:PE X e t)(he:∀whole,isTrue e X.env whole=(do let v <- whole;standAt e.pos;holding [v] (truthy v)):=by intro _;rfl):PT X e (tB t):=by
 intro pins s σ H Q I hw;refine isTrue_plain (AZ (h pins s σ H _ I hw) λv s1 ⟨x,H1,I1,r1,q1⟩=>?_) (he _)
 obtain⟨d,rfl,q⟩:=q1;cases r1;exact yeq ⟨H1,I1,q⟩
variable {tA tB':TT}{rest:List Expr}
def tAnd(t u:TT):TT:=λσ H Q=>t σ H λc H1=>if c=true then u σ H1 Q else Q false H1
def tOr(t u:TT):TT:=λσ H Q=>t σ H λc H1=>if c=true then Q true H1 else u σ H1 Q
def RE(t:TT):TT:=λσ H Q=>t σ H λc H1=>Q (!c) H1
theorem ziz(ha:PT X a tA):PW X (.BoolOp .And [a] pos) tA:=by
 intro wh pins s σ H Q I h;refine isTrue_and (AZ (ha pins s σ H Q I h) λc s1 e=>?_)
 cases c with
 |true=>exact isTrue_and_nil e
 |false=>exact e
theorem zmd(ha:PT X a tA):PW X (.BoolOp .Or [a] pos) tA:=by
 intro wh pins s σ H Q I h;refine isTrue_or (AZ (ha pins s σ H Q I h) λc s1 e=>?_)
 cases c with
 |false=>exact isTrue_or_nil e
 |true=>exact e
theorem zme(ha:PT X a tA)(hb:PW X (.BoolOp .And (b::rest) pos) tB'):PW X (.BoolOp .And (a::b::rest) pos) (tAnd tA tB'):=by
 intro wh pins s σ H Q I h;refine isTrue_and (AZ (ha pins s σ H _ I h) λc s1 ⟨H1,I1,q1⟩=>?_)
 cases c with
 |true=>exact hb wh pins s1 σ H1 Q I1 q1
 |false=>exact⟨H1,I1,q1⟩
theorem pw_or(ha:PT X a tA)(hb:PW X (.BoolOp .Or (b::rest) pos) tB'):PW X (.BoolOp .Or (a::b::rest) pos) (tOr tA tB'):=by
 intro wh pins s σ H Q I h;refine isTrue_or (AZ (ha pins s σ H _ I h) λc s1 ⟨H1,I1,q1⟩=>?_)
 cases c with
 |true=>exact⟨H1,I1,q1⟩
 |false=>exact hb wh pins s1 σ H1 Q I1 q1
theorem zmg(ha:PT X a tA):PT X (.UnaryOp .Not a pos) (RE tA):=by
 intro pins s σ H Q I h;exact isTrue_not (ha pins s σ H (λc H1=>Q (!c) H1) I h)
def tAndV(ta tb:TE):TE:=λσ H Q=>ta σ H λx H1=>∃c,x=.bl c/\if c=true then tb σ H1 Q else Q (.bl false) H1
def tOrV(ta tb:TE):TE:=λσ H Q=>ta σ H λx H1=>∃c,x=.bl c/\if c=true then Q (.bl true) H1 else tb σ H1 Q
def RD(ta:TE):TE:=λσ H Q=>ta σ H λx H1=>∃c,x=.bl c/\Q (.bl (!c)) H1
theorem zmt{op}{t:TE}(h:PE X a t):PE X (.BoolOp op [a] pos) t:=λpins s σ H Q I hw=>BoolOp_one (h pins s σ H Q I hw)
theorem zmy(ha:PE X a ta)(hb:PE X (.BoolOp .And (b::rest) pos) tb):PE X (.BoolOp .And (a::b::rest) pos) (tAndV ta tb):=by
 intro pins s σ H Q I h;refine BoolOp_and (AZ (ha pins s σ H _ I h) λv s1 ⟨x,H1,I1,r1,q1⟩=>?_)
 obtain⟨c,rfl,q1⟩:=q1;cases r1;refine yeq ?_;cases c with
 |true=>exact hb pins s1 σ H1 Q I1 q1
 |false=>exact⟨.bl false,H1,I1,rfl,q1⟩
theorem pe_or(ha:PE X a ta)(hb:PE X (.BoolOp .Or (b::rest) pos) tb):PE X (.BoolOp .Or (a::b::rest) pos) (tOrV ta tb):=by
 intro pins s σ H Q I h;refine BoolOp_or (AZ (ha pins s σ H _ I h) λv s1 ⟨x,H1,I1,r1,q1⟩=>?_)
 obtain⟨c,rfl,q1⟩:=q1;cases r1;refine yeq ?_;cases c with
 |false=>exact hb pins s1 σ H1 Q I1 q1
 |true=>exact⟨.bl true,H1,I1,rfl,q1⟩
theorem zmu(ha:PE X a ta):PE X (.UnaryOp .Not a pos) (RD ta):=by
 intro pins s σ H Q I h;refine UnaryOp_ (AZ (ha pins s σ H _ I h) λv s1 ⟨x,H1,I1,r1,q1⟩=>?_)
 obtain⟨c,rfl,q1⟩:=q1;cases r1;exact not_of (yeq ⟨.bl (!c),H1,I1,rfl,q1⟩)
def tIf(t:TT)(ta tb:TE):TE:=λσ H Q=>t σ H λc H1=>if c=true then ta σ H1 Q else tb σ H1 Q
theorem zgy(hc:PT X c tA)(ha:PE X a ta)(hb:PE X b tb):PE X (.IfExp c a b pos) (tIf tA ta tb):=by
 intro pins s σ H Q I h;refine wpAny_IfExp (AZ (hc pins s σ H _ I h) λd s1 ⟨H1,I1,q1⟩=>?_)
 cases d with
 |true=>exact ha pins s1 σ H1 Q I1 q1
 |false=>exact hb pins s1 σ H1 Q I1 q1
end
def A9(K:k9)(H:Hp)(a:Addr)(xs:List V):Prop :=
 Rd H a (.lst xs) \/
  ∃(o:Obj) (its:Array Value) (n:Nat),K.lookup a=some o/\o.cls=.type "list"/\o.dict=none/\o.data=.seq its n/\its.size<=sizeLine/\Ab xs its.toList
def Bx(K:k9)(H:Hp)(a:Addr)(xs:List V):Prop :=
 Rd H a (.tup xs) \/
  ∃(o:Obj) (its:Array Value) (n:Nat),K.lookup a=some o/\o.cls=.type "tuple"/\o.data=.seq its n/\its.size<=sizeLine/\Ab xs its.toList
noncomputable def absV:Value->Option V
 |.none=>some .non
 |.bool b=>some (.bl b)
 |.int i _=>some (.int i)
 |.str x _=>some (.str x)
 |.bytes b _=>some (.byt b)
 |.float b _=>some (.flt b)
 |.ref a=>some (.ref a)
 |.type n=>some (.ty n)
 |_=>none
theorem RelV.abs{x:V}(r:RelV x u):absV u=some x:=by
 cases x with
 |non=>cases r;rfl
 |bl _=>cases r;rfl
 |int _=>obtain⟨t,rfl⟩:=r;rfl
 |str _=>obtain⟨t,rfl⟩:=r;rfl
 |byt _=>obtain⟨t,rfl⟩:=r;rfl
 |flt _=>obtain⟨t,rfl⟩:=r;rfl
 |ref _=>cases r;rfl
 |ty _=>cases r;rfl
theorem RelV.inj{x y:V}{u:Value}(r:RelV x u)(q:RelV y u):x=y:=yao (r.abs.symm.trans q.abs)
theorem Ab.inj:∀{xs ys:List V} {us:List Value},Ab xs us->Ab ys us->xs=ys
 |_,_,_,.nil,.nil=>rfl
 |_,_,_,.cons r t,.cons r' t'=>by rw[r.inj r',Ab.inj t t']
variable {xs:List V}
section
variable {ys:List V}
theorem A9.of{K:k9}(h:H a=some (.lst xs)):A9 K H a xs:=.inl (.inl h)
theorem Bx.of{K:k9}(h:H a=some (.tup xs)):Bx K H a xs:=.inl (.inl h)
theorem Inv.list(I:Inv X pins σ H s)(h:A9 X.K H a xs):∃its:List Value,Ab xs its/\PlainL s.heap a its.toArray/\xs.length<=sizeLine:=by
 rcases h with h|⟨o,its,n,hk,hc,hd,hs,hz,r⟩
 .obtain⟨z,its,n,r,e⟩:=h.ok I.hok;exact⟨its,r,⟨_,n,e,rfl,rfl,rfl⟩,z⟩
 .refine⟨its.toList,r,⟨o,n,I.kIn a o hk,hc,hd,by simpa using hs⟩,?_⟩
  have e:=r.length;simp only[ydy]at e
  omega
theorem Inv.tuple(I:Inv X pins σ H s)(h:Bx X.K H a xs):∃its:List Value,Ab xs its/\IsTup s.heap a its.toArray/\xs.length<=sizeLine:=by
 rcases h with h|⟨o,its,n,hk,hc,hs,hz,r⟩
 .obtain⟨z,its,r,p⟩:=h.ok I.hok;exact⟨its,r,p,z⟩
 .refine⟨its.toList,r,⟨o,I.kIn a o hk,hc,n,by simpa using hs⟩,?_⟩
  have e:=r.length;simp only[ydy]at e
  omega
theorem Inv.list_inj(I:Inv X pins σ H s)(h:A9 X.K H a xs)(h':A9 X.K H a ys):xs=ys:=by
 obtain⟨its,r,⟨o,n,e,_,_,d⟩,_⟩:=I.list h;obtain⟨its',r',⟨o',n',e',_,_,d'⟩,_⟩:=I.list h';rw[e]at e';cases e';rw[d]at d';injection d' with d1 _
 have:its=its':=by simpa using congrArg Array.toList d1
 subst this;exact r.inj r'
theorem Inv.tuple_inj(I:Inv X pins σ H s)(h:Bx X.K H a xs)(h':Bx X.K H a ys):xs=ys:=by
 obtain⟨its,r,⟨o,e,_,n,d⟩,_⟩:=I.tuple h;obtain⟨its',r',⟨o',e',_,n',d'⟩,_⟩:=I.tuple h';rw[e]at e';cases e';rw[d]at d';injection d' with d1 _
 have:its=its':=by simpa using congrArg Array.toList d1
 subst this;exact r.inj r'
end
section
end
variable {te:TE}
section
variable {st:Stmt}{rest:List Stmt}{t u:TS}
def RG:TS:=λD σ H=>D.nx σ H
def RB(t u:TS):TS:=λD σ H=>t { D with nx:=u D } σ H
theorem zj4:BY X [] RG:=λ_ _ σ H _ I h=>yer ⟨σ,H,I,h⟩
theorem zgs(h1:PS X st t)(h2:BY X rest u):BY X (st::rest) (RB t u):=by
 intro pins s σ H D I h;refine wpAny_execs_cons (AZ (h1 pins s σ H { D with nx:=u D } I h) λf s1 q=>?_)
 cases f with
 |next =>
  obtain⟨σ',H',I',q⟩:=q;exact h2 pins s1 σ' H' D I' q
 |ret v=>exact q
 |brk=>exact q
 |cont=>exact q
theorem zj3(h1:PS X st t):BY X [st] t:=by
 intro pins s σ H D I h;refine wpAny_execs_cons (AZ (h1 pins s σ H D I h) λf s1 q=>?_)
 cases f with
 |next=>exact yer q
 |ret v=>exact q
 |brk=>exact q
 |cont=>exact q
theorem zj7:PS X (.Pass pos) RG:=λ_ _ σ H _ I h=>wpAny_Pass ⟨σ,H,I,h⟩
theorem Inv.quiet(I:Inv X pins σ H s):interactive X.env=false:=by simp[interactive,I.ok.kind]
def tDrop(te:TE):TS:=λD σ H=>te σ H λ_ H1=>D.nx σ H1
theorem NV(he:PE X e te)(hs:swapsWith e none pos.line X.env=pure false:=by rfl):PS X (.Expr e pos) (tDrop te):=by
 intro pins s σ H D I h;exact wpAny_Expr_any (AZ (he pins s σ H _ I h) λv s1 ⟨x,H1,I1,r1,q1⟩=>⟨σ,H1,I1,q1⟩) I.quiet hs
def tRet(te:TE):TS:=λD σ H=>te σ H D.rt
theorem zmh(he:PE X e te):PS X (.Return (some e) pos) (tRet te):=by
 intro pins s σ H D I h;exact wpAny_Return_some (AZ (he pins s σ H _ I h) λv s1 ⟨x,H1,I1,r1,q1⟩=>⟨x,σ,H1,I1,r1,q1⟩)
def tRetN:TS:=λD _ H=>D.rt .non H
theorem zj6:PS X (.Return none pos) tRetN:=λ_ _ σ H _ I h=>wpAny_Return_none ⟨.non,σ,H,I,rfl,h⟩
def tIfS(c:TT)(t u:TS):TS:=λD σ H=>c σ H λb H1=>if b=true then t D σ H1 else u D σ H1
theorem ps_if{a b:List Stmt}{tc:TT}(hc:PT X c tc)(ha:BY X a t)(hb:BY X b u):PS X (.If c a b pos) (tIfS tc t u):=by
 intro pins s σ H D I h;refine wpAny_If (AZ (hc pins s σ H _ I h) λd s1 ⟨H1,I1,q1⟩=>?_)
 cases d with
 |true=>exact ha pins s1 σ H1 D I1 q1
 |false=>exact hb pins s1 σ H1 D I1 q1
end
abbrev TG:=V->St->Hp->(St->Hp->Prop)->Prop
abbrev FC:=List V->St->Hp->(St->Hp->Prop)->Prop
def PG(X:Cx)(target:Expr)(t:TG):Prop :=
 ∀(pins:List (Addr×Obj)) (s:Shared) (σ:St) (H:Hp) (v:V) (u:Value) (Q:St->Hp->Prop),Inv X pins σ H s->RelV v u->t v σ H Q ->
  wpAny (model X.prog X.w) X.A (assign target X.env u) (λ_ s'=>∃σ' H',Inv X pins σ' H' s'/\Q σ' H') X.xe s
def De(X:Cx)(ts:List Expr)(t:FC):Prop :=
 ∀(pins:List (Addr×Obj)) (s:Shared) (σ:St) (H:Hp) (vs:List V) (us:List Value) (Q:St->Hp->Prop),Inv X pins σ H s->Ab vs us->t vs σ H Q ->
  wpAny (model X.prog X.w) X.A (assignInOrder ((assignEach ts X.env).map (·.2)) us) (λ_ s'=>∃σ' H',Inv X pins σ' H' s'/\Q σ' H') X.xe s
abbrev Lf:=V->V->V->Hp->(Hp->Prop)->Prop
def Q3(X:Cx)(t:Lf):Prop :=
 ∀(pins:List (Addr×Obj)) (s:Shared) (σ:St) (H:Hp) (o i v:V) (ov iv u:Value) (Q:Hp->Prop),Inv X pins σ H s->RelV o ov->RelV i iv->RelV v u->t o i v H Q ->
  wpAny (model X.prog X.w) X.A (setItem ov iv u) (λ_ s'=>∃H',Inv X pins σ H' s'/\Q H') X.xe s
variable {es:List Expr}{n:Nat}{o tg:Expr}
section
def JC(i:Nat):TG:=λv σ H Q=>Q (σ.set i (some v)) H
theorem zjd(hN:X.N.Nodup)(hi:X.N[i]?=some x)(hx:GU X.env.scope x)(hf:X.fn x=true\/X.env.scope.names.lookup x=some .local:=by first|exact .inl rfl|exact .inr rfl|assumption):PG X (.Name x pos) (JC i):=by
 intro pins s σ H v u Q I r h;exact wpAny_assign_Name (Jz I hN hi hx r (λs' I'=>⟨_,H,I',h⟩) hf)
def gNil:FC:=λvs σ H Q=>vs=[]/\Q σ H
def gCons(t:TG)(u:FC):FC:=λvs σ H Q=>∃v r,vs=v::r/\t v σ H λσ' H'=>u r σ' H' Q
theorem zjc:De X [] gNil:=by
 intro pins s σ H vs us Q I r h;obtain⟨e,h⟩:=h;subst e;cases r;exact assignInOrder_nil ⟨σ,H,I,h⟩
theorem zgx{t:TG}{u:FC}(h1:PG X e t)(h2:De X es u)(hs:(assignEach (e::es) X.env).map (·.2)=assign e X.env::(assignEach es X.env).map (·.2):=by rfl):De X (e::es) (gCons t u):=by
 intro pins s σ H vs us Q I r h;obtain⟨v,vr,e1,h⟩:=h;subst e1;cases r with
 |cons r rr =>
  rw[hs];refine yes (AZ (h1 pins s σ H _ _ _ I r h) λ_ s1 ⟨σ1,H1,I1,q1⟩=>?_)
  exact h2 pins s1 σ1 H1 _ _ Q I1 rr q1
def Ox(K:k9)(n:Nat)(t:FC):TG:=λv σ H Q=>∃a xs,v=.ref a/\Bx K H a xs/\xs.length=n/\t xs σ H Q
theorem zmp{k:Nat}{t:FC}(hc:X.calm=true)(h:De X es t)(hn:(assignEach es X.env).length=n:=by rfl)(hst:(assignEach es X.env).findIdx? (·.1)=none:=by rfl):PG X (.Tuple es k pos) (Ox X.K n t):=by
 intro pins s σ H v u Q I r hw;obtain⟨a,xs,e1,hq,hl,hw⟩:=hw;subst e1;cases r;obtain⟨its,rv,ht,hz⟩:=I.tuple hq;refine assign_Tuple_tuple (I.ok.hd hc) ht (by simp[hn,<- hl,rv.length]) hst λh' hx=>?_
 have I1:Inv X pins σ H { s with heap:=h' }:=I.kept (t':=s.toks) λb o e=>hx b o (yav (yaf e)) e
 exact h pins _ σ H xs _ Q I1 (by simpa using rv) hw
def gSub(to ti:TE)(t:Lf):TG:=λv σ H Q=>to σ H λo H1=>ti σ H1 λi H2=>t o i v H2 λH3=>Q σ H3
theorem To{i:Expr}{to ti:TE}{t:Lf}(ho:PE X o to)(hi:PE X i ti)(hs:Q3 X t)(ha:∀v,assign (.Subscript o i pos) X.env v=(do
   let ov <- holding [v] (eval o X.env);let iv <- holding [v,ov] (eval i X.env)
   standAt pos
   holding [v,ov,iv] (setItem ov iv v)
   release [v,ov,iv] []):=by intro _;rfl):PG X (.Subscript o i pos) (gSub to ti t):=by
 intro pins s σ H v u Q I r h;rw[ha];refine yet (yeu (AZ (ho pins s σ H _ I h) λov s1 ⟨x,H1,I1,r1,q1⟩=>?_))
 refine yet (yeu (AZ (hi pins s1 σ H1 _ I1 q1) λiv s2 ⟨y,H2,I2,r2,q2⟩=>?_))
 refine yet (yev (yet (yeu (AZ (hs pins s2 σ H2 x y v ov iv u _ I2 r1 r2 r q2) λ_ s3 ⟨H3,I3,q3⟩=>?_))))
 exact wpAny_release ⟨σ,H3,I3,q3⟩
def Jv(te:TE)(g:TG):TS:=λD σ H=>te σ H λx H1=>g x σ H1 D.nx
theorem NW{g:TG}(he:PE X e te)(hg:PG X tg g)(hs:swapsWithSole [tg] e pos.line X.env=pure false:=by rfl)(hw:swappedStores [tg] e X.env=pure none:=by rfl)(h1:(assignEach [tg] X.env).map (·.2)=[assign tg X.env]:=by rfl):PS X (.Assign [tg] e pos) (Jv te g):=by
 intro pins s σ H D I h;refine wpAny_Assign_stores (AZ (he pins s σ H _ I h) λv s1 ⟨x,H1,I1,r1,q1⟩=>?_) hs hw
 rw[h1];exact AZ (hg pins s1 σ H1 x v _ I1 r1 q1) λ_ s2 q=>q
theorem Tg{pos':Pos}(hN:X.N.Nodup)(hi:X.N[i]?=some x)(hx:GU X.env.scope x)(he:PE X e te)(hs:swapsWith e (some (.Name x pos')) pos.line X.env=pure false:=by rfl)(hf:X.fn x=true\/X.env.scope.names.lookup x=some .local:=by first|exact .inl rfl|exact .inr rfl|assumption) :
  PS X (.Assign [.Name x pos'] e pos) (Jv te (JC i)):=by
 intro pins s σ H D I h;refine wpAny_Assign_Name (AZ (he pins s σ H _ I h) λv s1 ⟨y,H1,I1,r1,q1⟩=>?_) hs
 exact Jz I1 hN hi hx r1 (λs2 I2=>⟨_,H1,I2,q1⟩) hf
def tPar(i j:Nat)(ta:TA):TS:=λD σ H=>ta σ H λvs H1=>∃v w,vs=[v,w]/\D.nx ((σ.set i (some v)).set j (some w)) H1
theorem zmi{j:Nat}{y:Str}{a b:Expr}{ta:TA}{px py pt:Pos}{kt k2 pt2}(hc:X.calm=true)(hN:X.N.Nodup)(hi:X.N[i]?=some x)(hj:X.N[j]?=some y)(hij:i≠j)(hx:X.env.scope.names.lookup x=some .local)(hy:X.env.scope.names.lookup y=some .local)(ha:PA X [a,b] ta)(hw:swappedStores [.Tuple [.Name x px,.Name y py] kt pt] (.Tuple [a,b] k2 pt2) X.env=pure (some [x,y]))(hs:swapsWithSole [.Tuple [.Name x px,.Name y py] kt pt] (.Tuple [a,b] k2 pt2) pos.line X.env=pure false:=by rfl) :
  PS X (.Assign [.Tuple [.Name x px,.Name y py] kt pt] (.Tuple [a,b] k2 pt2) pos) (tPar i j ta):=by
 intro pins s σ H D I h;rw[exec_Assign_arm];refine yet (yev ?_);rw[hs];refine yet (yew ?_);rw[if_neg (by decide)]
 refine yet (Tuple_ (AZ (ha _ pins s σ H _ I h) λus s1 ⟨vs,H1,I1,r1,q1⟩=>?_))
 obtain⟨v,w,e1,q1⟩:=q1;subst e1
 obtain⟨u1,u2,rfl,rv,rw'⟩:∃u1 u2,us=[u1,u2]/\RelV v u1/\RelV w u2:=by
  cases r1 with
  |cons p q =>
   cases q with
   |cons p' q' =>
    cases q';exact⟨_,_,rfl,p,p'⟩
 refine yex ?_ (by show 2<=sizeLine;decide)
 have I2:Inv X pins σ H1 { s1 with heap:=s1.heap.push { cls:=.type "tuple",data:=.seq [u1,u2].toArray } }:=I1.kept (t':=s1.toks) λb o e=>yaa _ e
 rw[hw];refine yet (yew ?_);show wpAny (model X.prog X.w) X.A (do rule "assign.swapped-stores";let items <- unpackItems (.ref s1.heap.objs.size) 2 none;assignInOrder [λv=>bindName X.env y v,λv=>bindName X.env x v] items.reverse;pure Flow.next) _ _ _
 refine yet (wpAny_rule (yet (unpackItems_tuple (items:=#[u1,u2]) (I.ok.hd hc) (IsTup.new s1.heap _) λh' hx'=>?_)))
 have I3:=I2.kept (h':=h') (t':=s1.toks) λb o e=>hx' b o (yav (yaf e)) e
 show wpAny _ _ (assignInOrder [λv=>bindName X.env y v,λv=>bindName X.env x v] [u2,u1] >>= λ_=>pure Flow.next) _ _ _
 refine yet (yes (wpAny_bindName (Jz I3 hN hj (.inl hy) rw' (λs2 I4=>?_) (.inr hy))))
 refine yes (wpAny_bindName (Jz I4 hN hi (.inl hx) rv (λs3 I5=>assignInOrder_nil (yew ?_)) (.inr hx)))
 rw[List.set_comm _ _ (ybc hij)]at I5;exact⟨_,H1,I5,q1⟩
end
variable {body:List Stmt}
section
def zle(c:TT)(tb:TS):TS:=λD σ H=>∃W:Nat->St->Hp->Prop,(∃m,W m σ H)/\∀m σ H,W m σ H ->
 c σ H λb H1=>if b=true then ∃N:St->Hp->Prop,(∀σ' H',N σ' H'->∃m',m'<m/\W m' σ' H')/\tb { D with nx:=N,ct:=N,bk:=D.nx } σ H1 else D.nx σ H1
theorem zgt{tc:TT}{tb:TS}(hp:PassesOwn (model X.prog X.w) X.A X.env X.xe)(hc:PT X c tc)(hb:BY X body tb):PS X (.While c body [] pos) (zle tc tb):=by
 intro pins s σ H D I h;obtain⟨W,⟨m0,w0⟩,turn⟩:=h;refine wpAny_While (codeAny_whileLoop (λn s'=>∃σ' H',Inv X pins σ' H' s'/\W n σ' H') ?_ m0 ⟨σ,H,I,w0⟩)
 rintro n s1 ⟨σ1,H1,I1,w1⟩;refine yey hp (AZ (hc pins s1 σ1 H1 _ I1 (turn n σ1 H1 w1)) λb s2 ⟨H2,I2,q2⟩=>?_)
 cases b with
 |true =>
  obtain⟨N,hN,q2⟩:=q2;rw[if_pos rfl];refine yey hp (AZ (hb pins s2 σ1 H2 _ I2 q2) λf s3 q3=>?_)
  cases f with
  |next =>
   obtain⟨σ3,H3,I3,n3⟩:=q3;obtain⟨m',hm,w3⟩:=hN σ3 H3 n3;exact⟨m',hm,σ3,H3,I3,w3⟩
  |cont =>
   obtain⟨σ3,H3,I3,n3⟩:=q3;obtain⟨m',hm,w3⟩:=hN σ3 H3 n3;exact⟨m',hm,σ3,H3,I3,w3⟩
  |brk=>exact q3
  |ret v=>exact q3
 |false =>
  rw[if_neg ybf];exact yer ⟨σ1,H2,I2,q2⟩
end
structure It where
 go:Nat->Hp->Prop
 yld:Nat->Hp->V->Hp->Prop
 stop:Nat->Hp->Prop
def C1(X:Cx)(pins:List (Addr×Obj))(H:Hp)(b:Addr):Prop :=
 H b=none/\b≠X.env.locals/\b∉X.fs/\(b∈X.ex\/X.s₀.heap.objs.size<=b)/\(∀x c,X.env.cells.lookup x=some c->c≠b)/\∀p∈X.pn++pins,p.1≠b
theorem Inv.fpOk(I:Inv X pins σ H s)(hb:s.heap.objs.size<=b)(hn:H' b=none):C1 X pins H' b:=by
 refine⟨hn,Nat.ne_of_gt (yan I.lt hb),I.nofs hb,.inr (yak I.sz hb),λx c e z=>?_,λp hp z=>?_⟩
 .obtain⟨v,q⟩:=I.cell x c e;exact absurd (yan q.lt (by rw[z];exact hb)) (ybd _)
 .exact absurd (yan (yaf (I.pin p hp).1) (by rw[z];exact hb)) (ybd _)
structure Turn(P:Program)(w:World)(K:k9)(tg:Expr)(J:It)(fp:List Addr)(it:Addr)(tn:Nat->Heap->Prop):Prop where
 mem:it∈fp
 obj:∀i h,tn i h->∀b∈fp,∃o,h.get? b=some o/\∀v,o.data≠.cell v
 keep:∀i h h',tn i h->(∀b∈fp,∀o,h.get? b=some o->h'.get? b=some o)->tn i h'
 item:∀(X:Cx),X.prog=P->X.w=w->X.K=K->X.calm=true->∀(i:Nat) (pins:List (Addr×Obj)) (s:Shared) (σ:St) (H:Hp) (E:Value->Shared->Prop),Inv X pins σ H s->(∀b∈fp,C1 X pins H b)->tn i s.heap->J.go i H ->
  wpAny (model P w) X.A (pyNext (.ref it)) (λr s1=>∃u,r=some u /\
   wpAny (model P w) X.A (letOwnedTupleGo tg (.ref it) u) (λ_ s2=>∃x H',Inv X pins σ H' s2/\RelV x u/\J.yld i H x H'/\tn (i+1) s2.heap/\∀b∈fp,H' b=none) E s1) E s
 done:∀(X:Cx),X.prog=P->X.w=w->X.K=K->X.calm=true->∀(i:Nat) (pins:List (Addr×Obj)) (s:Shared) (σ:St) (H:Hp) (E:Value->Shared->Prop),Inv X pins σ H s->(∀b∈fp,C1 X pins H b)->tn i s.heap->J.stop i H ->
  wpAny (model P w) X.A (pyNext (.ref it)) (λr s1=>r=none/\Inv X pins σ H s1) E s
 self:∀(A:Around) (i:Nat) (s:Shared) (Q:Value->Shared->Prop) (E:Value->Shared->Prop),tn i s.heap->Q (.ref it) s->wpAny (model P w) A (pyIter (.ref it)) Q E s
abbrev TI:=St->Hp->(It->Hp->Prop)->Prop
def Y8(X:Cx)(pins:List (Addr×Obj))(σ:St)(tg:Expr)(R:It->Hp->Prop)(itv:Value)(s2:Shared):Prop :=
 ∃(it:Addr) (fp:List Addr) (tn:Nat->Heap->Prop) (J:It) (H':Hp),itv=.ref it/\Inv X pins σ H' s2/\Turn X.prog X.w X.K tg J fp it tn/\tn 0 s2.heap/\(∀b∈fp,C1 X pins H' b)/\R J H'
def PI(X:Cx)(tg iter:Expr)(wi:TI):Prop :=
 ∀(pins:List (Addr×Obj)) (s:Shared) (σ:St) (H:Hp) (R:It->Hp->Prop),Inv X pins σ H s->wi σ H R ->
  wpAny (model X.prog X.w) X.A (eval iter X.env) (λv s1=>wpAny (model X.prog X.w) X.A (pyIter v) (Y8 X pins σ tg R) X.xe s1) X.xe s
theorem LI{M:Model}{it:Addr}{o:Obj}{n:String}{vs:Array Value}{Q:Unit->Shared->Prop}(ho:s.heap.get? it=some o)(hc:o.cls=.type n)(hd:o.data=.fields vs)(hn:["enumerate","zip","dict_itemiterator","dict_reverseitemiterator","odict_iterator","itertools.zip_longest","itertools.pairwise"].contains n=false)(hQ:Q () s):wpAny M A (letOwnedTupleGo tg (.ref it) u) Q E s:=by
  unfold letOwnedTupleGo
  cases tg<;>first
    |exact yew hQ
    |(cases u<;>first
        |exact yew hQ
        | (refine yet (wpAny_load ho ?_)
           rw[hc,hd];show wpAny M A (if (["enumerate","zip","dict_itemiterator","dict_reverseitemiterator","odict_iterator","itertools.zip_longest","itertools.pairwise"].contains n && vs[0]? == some (rawInt _))=true then _ else _) Q E s
           rw[if_neg (by intro h;rw[hn,ye1]at h;cases h)]
           exact yew hQ))
def Q8(K:k9)(a:Addr):It :=
 ⟨λi H=>∃xs x,A9 K H a xs/\xs[i]?=some x,λi H x H'=>H'=H/\∀xs,A9 K H a xs->xs[i]?=some x,λi H=>∃xs,A9 K H a xs/\xs.length<=i⟩
def Q7(K:k9)(a:Addr):It :=
 ⟨λi H=>∃xs x,Bx K H a xs/\xs[i]?=some x,λi H x H'=>H'=H/\∀xs,Bx K H a xs->xs[i]?=some x,λi H=>∃xs,Bx K H a xs/\xs.length<=i⟩
def MI(lo:Int)(n:Nat):It:=⟨λi _=>i<n,λi H x H'=>H'=H/\x=.int (lo+i),λi _=>n<=i⟩
theorem zef{K:k9}(a it:Addr):Turn P w K tg (Q8 K a) [it] it (λi h=>h.IsListIter it a i) where
 mem:=by simp
 obj:=λi h st b hb=>by
  have e:b=it:=by simpa using hb
  subst e;obtain⟨o,e,c,d⟩:=st;exact⟨o,e,λv z=>by rw[d]at z;cases z⟩
 keep:=λi h h' st k=>st.at λo e=>k it (by simp) o e
 item:=by
  intro X hP hw hK hc i pins s σ H E I hf st hg;subst hP hw hK;obtain⟨xs,x,hq,hx⟩:=hg;obtain⟨its,rv,p,hz⟩:=I.list hq;obtain⟨u,hu,ru⟩:=rv.get hx;obtain⟨f0,f1,f2,f3,f4,f5⟩:=hf it (by simp)
  refine wpAny_pyNext_list_item st p.isList (x:=u) (by simpa using hu) λh' st' sb=>?_
  have I1:Inv X pins σ H { s with heap:=h' }:=I.turned (t':=s.toks) (λb o hb e=>(sb.2 b hb).trans e) f0 f1 f3 f4 f5
  obtain⟨o,e,c,d⟩:=id st';exact⟨u,rfl,LI (s:={ s with heap:=h' }) e c d (by decide) ⟨x,H,I1,ru,⟨rfl,λys hy=>by rw[I.list_inj hy hq];exact hx⟩,st',λb hb=>(hf b hb).1⟩⟩
 done:=by
  intro X hP hw hK hc i pins s σ H E I hf st hg;subst hP hw hK;obtain⟨xs,hq,hx⟩:=hg;obtain⟨its,rv,p,hz⟩:=I.list hq;obtain⟨f0,f1,f2,f3,f4,f5⟩:=hf it (by simp)
  have hl:=rv.length;exact wpAny_pyNext_list_end (I.ok.hd hc) st p.isList (by simp;omega) λh' eb=>⟨rfl,I.turned (t':=s.toks) (λb o hb e=>eb b o hb e) f0 f1 f3 f4 f5⟩
 self:=λ_ _ _ _ _ st h=>wpAny_pyIter_listiter st h
theorem zdl{K:k9}(a it:Addr):Turn P w K tg (Q7 K a) [it] it (λi h=>h.IsTupleIter it a i) where
 mem:=by simp
 obj:=λi h st b hb=>by
  have e:b=it:=by simpa using hb
  subst e;obtain⟨o,e,c,d⟩:=st;exact⟨o,e,λv z=>by rw[d]at z;cases z⟩
 keep:=λi h h' st k=>st.at λo e=>k it (by simp) o e
 item:=by
  intro X hP hw hK hc i pins s σ H E I hf st hg;subst hP hw hK;obtain⟨xs,x,hq,hx⟩:=hg;obtain⟨its,rv,p,hz⟩:=I.tuple hq;obtain⟨u,hu,ru⟩:=rv.get hx;obtain⟨f0,f1,f2,f3,f4,f5⟩:=hf it (by simp)
  refine wpAny_pyNext_tuple_item st (show s.heap.IsTuple a its.toArray from p) (x:=u) (by simpa using hu) λh' st' sb=>?_
  have I1:Inv X pins σ H { s with heap:=h' }:=I.turned (t':=s.toks) (λb o hb e=>(sb.2 b hb).trans e) f0 f1 f3 f4 f5
  obtain⟨o,e,c,d⟩:=id st';exact⟨u,rfl,LI (s:={ s with heap:=h' }) e c d (by decide) ⟨x,H,I1,ru,⟨rfl,λys hy=>by rw[I.tuple_inj hy hq];exact hx⟩,st',λb hb=>(hf b hb).1⟩⟩
 done:=by
  intro X hP hw hK hc i pins s σ H E I hf st hg;subst hP hw hK;obtain⟨xs,hq,hx⟩:=hg;obtain⟨its,rv,p,hz⟩:=I.tuple hq;obtain⟨f0,f1,f2,f3,f4,f5⟩:=hf it (by simp)
  have hl:=rv.length;exact wpAny_pyNext_tuple_end (I.ok.hd hc) st (show s.heap.IsTuple a its.toArray from p) (by simp;omega) λh' eb=>⟨rfl,I.turned (t':=s.toks) (λb o hb e=>eb b o hb e) f0 f1 f3 f4 f5⟩
 self:=λ_ _ _ _ _ st h=>wpAny_pyIter_tupleiter st h
theorem zdm{K:k9}(it:Addr)(lo:Int)(n:Nat):Turn P w K tg (MI lo n) [it] it (λi h=>IsRangeIter h it (lo+(i:Nat) * 1) ((n:Int) - (i:Nat)) 1) where
 mem:=by simp
 obj:=λi h st b hb=>by
  have e:b=it:=by simpa using hb
  subst e
  exact⟨_,st,λv z=>by
   have z':Data.fields _=Data.cell v:=z;cases z'⟩
 keep:=λi h h' st k=>k it (by simp) _ st
 item:=by
  intro X hP hw hK hc i pins s σ H E I hf st hg;subst hP hw hK;obtain⟨f0,f1,f2,f3,f4,f5⟩:=hf it (by simp)
  have W:=Walks.range (prog:=X.prog) (w:=X.w) (I.ok.hd hc) it lo 1 n;refine W.item i s _ _ hg st λv h' tk hv st' kk=>?_
  obtain⟨t,rfl⟩:=hv;have I1:Inv X pins σ H { s with heap:=h',toks:=tk }:=I.turned (λb o hb e=>kk b o (by simpa using hb) e) f0 f1 f3 f4 f5
  refine⟨_,rfl,LI (s:={ s with heap:=h',toks:=tk }) (n:="range_iterator") st' rfl rfl (by decide) ⟨.int (lo+i),H,I1,⟨t,?_⟩,⟨rfl,rfl⟩,st',λb hb=>(hf b hb).1⟩⟩
  rw[Int.mul_one]
 done:=by
  intro X hP hw hK hc i pins s σ H E I hf st hg;subst hP hw hK;obtain⟨f0,f1,f2,f3,f4,f5⟩:=hf it (by simp)
  exact wpAny_pyNext_range_end (I.ok.hd hc) st (by have:n<=i:=hg;omega) λh' eb=>⟨rfl,I.turned (t':=s.toks) (λb o hb e=>eb b o hb e) f0 f1 f3 f4 f5⟩
 self:=λ_ _ _ _ _ st h=>wpAny_pyIter_rangeiter st h
variable {fp:List Addr}
section
def iList(K:k9)(tl:TE):TI:=λσ H R=>tl σ H λx H1=>∃a,x=.ref a/\(∃xs,A9 K H1 a xs)/\R (Q8 K a) H1
def iTup(K:k9)(tl:TE):TI:=λσ H R=>tl σ H λx H1=>∃a,x=.ref a/\(∃xs,Bx K H1 a xs)/\R (Q7 K a) H1
theorem zja{l:Expr}{tl:TE}(hl:PE X l tl):PI X tg l (iList X.K tl):=by
 intro pins s σ H R I h;refine AZ (hl pins s σ H _ I h) λv s1 ⟨x,H1,I1,r1,q1⟩=>?_
 obtain⟨a,e,⟨xs,hq⟩,q⟩:=q1;subst e;cases r1;obtain⟨its,rv,p,hz⟩:=I1.list hq;refine yez p.isList ?_;refine⟨s1.heap.objs.size,[s1.heap.objs.size],_,_,H1,rfl,I1.kept (t':=s1.toks) λb o e=>yaa _ e,zef a _,⟨_,yaw _ rfl,rfl,rfl⟩,λb hb=>?_,q⟩
 have e:b=s1.heap.objs.size:=by simpa using hb
 subst e;exact I1.fpOk (yae _) (I1.hok.fresh (yae _))
theorem zmn{l:Expr}{tl:TE}(hl:PE X l tl):PI X tg l (iTup X.K tl):=by
 intro pins s σ H R I h;refine AZ (hl pins s σ H _ I h) λv s1 ⟨x,H1,I1,r1,q1⟩=>?_
 obtain⟨a,e,⟨xs,hq⟩,q⟩:=q1;subst e;cases r1;obtain⟨its,rv,p,hz⟩:=I1.tuple hq;refine wpAny_pyIter_tuple (show s1.heap.IsTuple a its.toArray from p) ?_;refine⟨s1.heap.objs.size,[s1.heap.objs.size],_,_,H1,rfl,I1.kept (t':=s1.toks) λb o e=>yaa _ e,zdl a _,⟨_,yaw _ rfl,rfl,rfl⟩,λb hb=>?_,q⟩
 have e:b=s1.heap.objs.size:=by simpa using hb
 subst e;exact I1.fpOk (yae _) (I1.hok.fresh (yae _))
theorem zgn{R:It->Hp->Prop}{lo hi:Int}{t u v:Tok}{tk:Nat}(I:Inv X pins σ H s)(h1:-(2 ^ 62)<=lo)(h2:lo<2 ^ 62)(h3:-(2 ^ 62)<=hi)(h4:hi<2 ^ 62)(q:R (MI lo (hi - lo).toNat) H):wpAny (model X.prog X.w) X.A (pyIter (.ref s.heap.objs.size)) (Y8 X pins σ tg R) E { s with heap:=s.heap.push { cls:=.type "range",data:=.fields #[.int lo t,.int hi u,.int 1 v] },toks:=tk }:=by
 refine wpAny_pyIter_range (IsRange.new ..) (small_one h1 h2 h3 h4) ?_;have I1:Inv X pins σ H { s with heap:=s.heap.push { cls:=.type "range",data:=.fields #[.int lo t,.int hi u,.int 1 v] },toks:=tk }:=I.kept λb o e=>yaa _ e
 refine⟨(s.heap.push { cls:=.type "range",data:=.fields #[.int lo t,.int hi u,.int 1 v] }).objs.size,[(s.heap.push { cls:=.type "range",data:=.fields #[.int lo t,.int hi u,.int 1 v] }).objs.size],_,_,H,rfl,
  I1.kept (t':=tk) λb o e=>yaa _ e,zdm _ lo (hi - lo).toNat,?_,λb hb=>?_,q⟩
 .have e1:lo+((0:Nat):Int) * 1=lo:=by simp
  have e2:(((hi - lo).toNat:Nat):Int) - ((0:Nat):Int)=Builtin.Range.rangeSize lo hi 1:=by rw[rangeSize_one];split<;>omega
  show IsRangeIter _ _ (lo+((0:Nat):Int) * 1) ((((hi - lo).toNat:Nat):Int) - ((0:Nat):Int)) 1;rw[e1,e2];exact yaw _ rfl
 .have e:b=(s.heap.push { cls:=.type "range",data:=.fields #[.int lo t,.int hi u,.int 1 v] }).objs.size:=by simpa using hb
  subst e;exact I1.fpOk (yae _) (I1.hok.fresh (yae _))
def iRng1(ta:TA):TI:=λσ H R=>ta σ H λvs H1=>∃j:Int,vs=[.int j]/\-(2 ^ 62)<=j/\j<2 ^ 62/\R (MI 0 j.toNat) H1
theorem zep{a:Expr}{ta:TA}{p:Pos}(hg:Gl X "range")(hm:X.mg "range"=none)(ha:PA X [a] ta)(hs:starEach [a] X.env=[(false,eval a X.env)]:=by rfl):PI X tg (.Call (.Name "range" p) [a] [] pos) (iRng1 ta):=by
 intro pins s σ H R I h;refine Call_ (Fw I hg hm boot_range (ybz (AZ (ha pos pins s σ H _ I h) λus s1 ⟨vs,H1,I1,r1,q1⟩=>?_) hs rfl))
 obtain⟨j,e,q1,q2,q⟩:=q1;subst e;cases r1 with
 |cons r rr =>
  cases rr;obtain⟨t,rfl⟩:=r;exact call_range_1 (zgn I1 (by omega) (by omega) q1 q2 (by simpa using q))
def tFor(wi:TI)(g:TG)(tb:TS):TS:=λD σ H=>wi σ H λJ H1=>∃W:Nat->Nat->St->Hp->Prop,(∃m,W 0 m σ H1)/\∀i m σ H,W i m σ H ->
 (J.stop i H/\D.nx σ H)\/(J.go i H/\∃N:St->Hp->Prop,(∀σ' H',N σ' H'->∃m',m'<m/\W (i+1) m' σ' H')/\∀x H',J.yld i H x H'->g x σ H' λσ2 H2=>tb { D with nx:=N,ct:=N,bk:=D.nx } σ2 H2)
def Ga(fp:List Addr)(h:Heap):List (Addr×Obj):=fp.filterMap λb=>(h.get? b).map λo=>(b,o)
theorem Gd{o:Obj}(hb:b∈fp)(e:h.get? b=some o):(b,o)∈Ga fp h:=ycd.mpr ⟨b,hb,by rw[e];rfl⟩
theorem UH{p:Addr×Obj}(hp:p∈Ga fp h):p.1∈fp/\h.get? p.1=some p.2:=by
 obtain⟨b,hb,e⟩:=ycd.mp hp;cases q:h.get? b with
 |none=>rw[q]at e;cases e
 |some o =>
  rw[q]at e;have e':(b,o)=p:=yao e;subst e';exact⟨hb,q⟩
theorem Inv.pinned(I:Inv X pins σ H s)(hf:∀b∈fp,C1 X pins H b)(ho:∀b∈fp,∃o,s.heap.get? b=some o/\∀v,o.data≠.cell v):Inv X (pins++Ga fp s.heap) σ H s :=
 I.pins_of λp hp=>(yba.mp hp).elim (λz=>I.pin p (yas _ z)) λz=>by
  obtain⟨hb,e⟩:=UH z;obtain⟨f0,f1,f2,_⟩:=hf p.1 hb;obtain⟨o,e',d⟩:=ho p.1 hb;rw[e]at e';cases e';exact⟨e,f0,f1,f2,d⟩
theorem Inv.unpinned{pl:List (Addr×Obj)}(I:Inv X (pins++pl) σ H s):Inv X pins σ H s:=I.pins_of λp hp=>I.pin p (yas _ (yc4 _ hp))
theorem zmj{iter:Expr}{wi:TI}{g:TG}{tb:TS}(hp:PassesOwn (model X.prog X.w) X.A X.env X.xe)(hc:X.calm=true)(hi:PI X tg iter wi)(hg:PG X tg g)(hb:BY X body tb)(hs:∀x,foldedSetIterable iter X.env x=pure x:=by intro _;rfl):PS X (.For tg iter body [] pos) (tFor wi g tb):=by
 intro pins s σ H D I h;refine wpAny_For (AZ (hi pins s σ H _ I h) λv s1 h1=>AZ h1 λitv s2 h2=>?_) hs
 obtain⟨it,fp,tn,J,H2,e,I2,T,st2,f2,W,⟨m0,w0⟩,turn⟩:=h2;subst e;have stat:∀{H':Hp},(∀b∈fp,H' b=none)->∀b∈fp,C1 X pins H' b:=λhn b hb=>⟨hn b hb,(f2 b hb).2⟩
 refine codeAny_forLoop_any (λn s'=>∃i σ' H',Inv X pins σ' H' s'/\tn i s'.heap/\(∀b∈fp,H' b=none)/\W i n σ' H') ?_ m0 ⟨0,σ,H2,I2,st2,λb hb=>(f2 b hb).1,w0⟩
 rintro n s3 ⟨i,σ3,H3,I3,st3,fr3,w3⟩
 rcases turn i n σ3 H3 w3 with ⟨stop,qn⟩|⟨go,N,hN,step⟩
 .refine yey hp (AZ (T.done X rfl rfl rfl hc i pins s3 σ3 H3 X.xe I3 (stat fr3) st3 stop) λr s4 ⟨hr,I4⟩=>?_)
  subst hr;exact yer ⟨σ3,H3,I4,qn⟩
 .refine yey hp (AZ (T.item X rfl rfl rfl hc i pins s3 σ3 H3 X.xe I3 (stat fr3) st3 go) λr s4 ⟨u,hr,h4⟩=>?_)
  subst hr;refine yey hp (AZ h4 λ_ s5 ⟨x,H5,I5,r5,y5,st5,fr5⟩=>?_)
  have I5':=I5.pinned (stat fr5) (T.obj _ _ st5);refine yey hp (AZ (hg _ s5 σ3 H5 x u _ I5' r5 (step x H5 y5)) λ_ s6 ⟨σ6,H6,I6,q6⟩=>?_)
  refine yey hp (AZ (hb _ s6 σ6 H6 _ I6 q6) λf s7 q7=>?_)
  have again:∀{σ7:St} {H7:Hp},Inv X (pins++Ga fp s5.heap) σ7 H7 s7->N σ7 H7->∃m,m<n/\∃i σ' H',Inv X pins σ' H' s7/\tn i s7.heap/\(∀b∈fp,H' b=none)/\W i m σ' H':=λ{σ7 H7} I7 n7=>by
   obtain⟨m',hm,w7⟩:=hN σ7 H7 n7;refine⟨m',hm,i+1,σ7,H7,I7.unpinned,T.keep _ _ _ st5 λb hb o e=>(I7.pin (b,o) (yas _ (yas _ (Gd hb e)))).1,λb hb=>?_,w7⟩
   obtain⟨o,e,d⟩:=T.obj _ _ st5 b hb;exact(I7.pin (b,o) (yas _ (yas _ (Gd hb e)))).2.1
  cases f with
  |next=>obtain⟨σ7,H7,I7,n7⟩:=q7;exact again I7 n7
  |cont=>obtain⟨σ7,H7,I7,n7⟩:=q7;exact again I7 n7
  |brk=>obtain⟨σ7,H7,I7,q7⟩:=q7;exact⟨σ7,H7,I7.unpinned,q7⟩
  |ret v=>obtain⟨x7,σ7,H7,I7,r7,q7⟩:=q7;exact⟨x7,σ7,H7,I7.unpinned,r7,q7⟩
end
abbrev R2:=V->V->Hp->VK->Prop
def Ak(X:Cx)(f:Value->Value->Sem Value)(r:R2):Prop :=
 ∀(pins:List (Addr×Obj)) (s:Shared) (σ:St) (H:Hp) (x y:V) (v u:Value) (Q:VK),Inv X pins σ H s->RelV x v->RelV y u->r x y H Q ->
  wpAny (model X.prog X.w) X.A (f v u) (EP X pins σ Q) X.xe s
def JN(X:Cx)(f:Value->Sem Value)(r:V->Hp->VK->Prop):Prop :=
 ∀(pins:List (Addr×Obj)) (s:Shared) (σ:St) (H:Hp) (x:V) (v:Value) (Q:VK),Inv X pins σ H s->RelV x v->r x H Q ->
  wpAny (model X.prog X.w) X.A (f v) (EP X pins σ Q) X.xe s
def C4(X:Cx)(f:Value)(r:List V->Hp->VK->Prop):Prop :=
 ∀(pins:List (Addr×Obj)) (s:Shared) (σ:St) (H:Hp) (xs:List V) (us:List Value) (Q:VK),Inv X pins σ H s->Ab xs us->r xs H Q ->
  wpAny (model X.prog X.w) X.A (call f us) (EP X pins σ Q) X.xe s
def HN(r:R2)(ta tb:TE):TE:=λσ H Q=>ta σ H λx H1=>tb σ H1 λy H2=>r x y H2 Q
def Qz(r:V->Hp->VK->Prop)(ta:TE):TE:=λσ H Q=>ta σ H λx H1=>r x H1 Q
def rI(C:Int->Int->Prop)(g:Int->Int->V):R2:=λx y H Q=>∃i j,x=.int i/\y=.int j/\C i j/\Q (g i j) H
def Eo(g:Int->Int->V):R2:=λx y H Q=>∃i j,x=.int i/\y=.int j/\Q (g i j) H
def rU(g:Int->V):V->Hp->VK->Prop:=λx H Q=>∃i,x=.int i/\Q (g i) H
variable {r:R2}
section
variable {a b:Expr}{tb tc:TE}
theorem QY(ha:PE X a ta)(hb:PE X b tb){R:V->V->Hp->Prop}(I:Inv X pins σ H s)(h:ta σ H λx H1=>tb σ H1 λy H2=>R x y H2){f:Value->Value->Sem Value}(hf:∀v u s2 x y H2,Inv X pins σ H2 s2->RelV x v->RelV y u->R x y H2->wpAny (model X.prog X.w) X.A (f v u) Q X.xe s2) :
  wpAny (model X.prog X.w) X.A (eval a X.env) (λv s₁=>wpAny (model X.prog X.w) X.A (eval b X.env) (λu s₂=>wpAny (model X.prog X.w) X.A (f v u) Q X.xe s₂) X.xe s₁) X.xe s:=by
 refine AZ (ha pins s σ H _ I h) λv s1 ⟨x,H1,I1,r1,q1⟩=>?_
 refine AZ (hb pins s1 σ H1 _ I1 q1) λu s2 ⟨y,H2,I2,r2,q2⟩=>?_
 exact hf v u s2 x y H2 I2 r1 r2 q2
theorem pe_op{op:Operator}(ho:Ak X (binaryOp op) r)(ha:PE X a ta)(hb:PE X b tb):PE X (.BinOp a op b pos) (HN r ta tb):=by
 intro pins s σ H Q I h;exact wpAny_BinOp (QY ha hb I h λv u s2 x y H2 I2 rx ry q=>ho pins s2 σ H2 x y v u Q I2 rx ry q)
theorem pe_un{op:UnaryOp}{r:V->Hp->VK->Prop}(ho:JN X (unaryOp op) r)(ha:PE X a ta):PE X (.UnaryOp op a pos) (Qz r ta):=by
 intro pins s σ H Q I h;exact UnaryOp_ (AZ (ha pins s σ H _ I h) λv s1 ⟨x,H1,I1,r1,q1⟩=>ho pins s1 σ H1 x v Q I1 r1 q1)
theorem Ik{f:Value->Value->Sem Value}{C:Int->Int->Prop}{g:Int->Int->Int}
  (rule:∀(i j:Int) (t u:Tok) (s:Shared) (Q:Value->Shared->Prop) (E:Value->Shared->Prop),C i j->Q (.int (g i j) s.toks) { s with toks:=s.toks+1 }->wpAny (model X.prog X.w) X.A (f (.int i t) (.int j u)) Q E s) :
  Ak X f (rI C λi j=>.int (g i j)):=by
 intro pins s σ H x y v u Q I rx ry h;obtain⟨i,j,rfl,rfl,hc,q⟩:=h;obtain⟨t,rfl⟩:=rx;obtain⟨t',rfl⟩:=ry;exact rule i j t t' s _ _ hc ⟨.int (g i j),H,I.tok _,⟨_,rfl⟩,q⟩
theorem UB{f:Value->Value->Sem Value}{g:Int->Int->Int}
  (rule:∀(i j:Int) (t u:Tok) (s:Shared) (Q:Value->Shared->Prop) (E:Value->Shared->Prop),Q (.int (g i j) s.toks) { s with toks:=s.toks+1 }->wpAny (model X.prog X.w) X.A (f (.int i t) (.int j u)) Q E s) :
  Ak X f (Eo λi j=>.int (g i j)):=by
 intro pins s σ H x y v u Q I rx ry h;obtain⟨i,j,rfl,rfl,q⟩:=h;obtain⟨t,rfl⟩:=rx;obtain⟨t',rfl⟩:=ry;exact rule i j t t' s _ _ ⟨.int (g i j),H,I.tok _,⟨_,rfl⟩,q⟩
theorem K2{f:Value->Value->Sem Value}{g:Int->Int->Bool}
  (rule:∀(i j:Int) (t u:Tok) (s:Shared) (Q:Value->Shared->Prop) (E:Value->Shared->Prop),Q (.bool (g i j)) s->wpAny (model X.prog X.w) X.A (f (.int i t) (.int j u)) Q E s) :
  Ak X f (Eo λi j=>.bl (g i j)):=by
 intro pins s σ H x y v u Q I rx ry h;obtain⟨i,j,rfl,rfl,q⟩:=h;obtain⟨t,rfl⟩:=rx;obtain⟨t',rfl⟩:=ry;exact rule i j t t' s _ _ ⟨.bl (g i j),H,I,rfl,q⟩
def CPow(i j:Int):Prop:=0<=j/\j<=1000000/\i.natAbs<2 ^ 64
def Qa(i j:Int):Prop:=(-(2 ^ 64)<i/\i<2 ^ 64)\/(-(2 ^ 64)<j/\j<2 ^ 64)
theorem Qa.ok{i j:Int}(h:Qa i j):IntMulOk i j:=by
 rcases h with ⟨h1,h2⟩|⟨h1,h2⟩
 .exact .of_left (intBits_le_64 h1 h2)
 .exact .of_right (intBits_le_64 h1 h2)
theorem zn5:Ak X (binaryOp .Add) (Eo λi j=>.int (i+j)):=UB λ_ _ _ _ _ _ _ q=>add_int q
theorem zmz:Ak X (binaryOp .Sub) (Eo λi j=>.int (i - j)):=UB λ_ _ _ _ _ _ _ q=>sub_int q
theorem Tz:Ak X (binaryOp .Mult) (rI Qa λi j=>.int (i * j)):=Ik λ_ _ _ _ _ _ _ hc q=>mul_int q hc.ok
theorem zjm:Ak X (binaryOp .Mod) (rI (λ_ j=>j≠0) λi j=>.int (i.fmod j)):=Ik λ_ _ _ _ _ _ _ hc q=>mod_int' hc q
theorem zn1:Ak X (binaryOp .Pow) (rI CPow λi j=>.int (i ^ j.toNat)):=Ik λ_ _ _ _ _ _ _ hc q=>pow_int_small hc.1 hc.2.1 hc.2.2 q
theorem unI{f:Value->Sem Value}{g:Int->Int}
  (rule:∀(i:Int) (t:Tok) (s:Shared) (Q:Value->Shared->Prop) (E:Value->Shared->Prop),Q (.int (g i) s.toks) { s with toks:=s.toks+1 }->wpAny (model X.prog X.w) X.A (f (.int i t)) Q E s) :
  JN X f (rU λi=>.int (g i)):=by
 intro pins s σ H x v Q I rx h;obtain⟨i,rfl,q⟩:=h;obtain⟨t,rfl⟩:=rx;exact rule i t s _ _ ⟨.int (g i),H,I.tok _,⟨_,rfl⟩,q⟩
theorem zl5:JN X (unaryOp .USub) (rU λi=>.int (-i)):=unI λ_ _ _ _ _ q=>neg_int q
end
variable {op:CmpOp}{us:List Value}{y:V}
section
variable {a b:Expr}{tb tc:TE}
theorem JE{Q:VK}{k k':Bool}(I:Inv X pins σ H s)(q:Q (.bl k) H)(e:k=k'):EP X pins σ Q (.bool k') s:=by
 subst e;exact⟨.bl k,H,I,rfl,q⟩
theorem op_lt:Ak X (compareOp .Lt) (Eo λi j=>.bl (decide (i<j))):=K2 λ_ _ _ _ _ _ _ q=>lt_int q
theorem UA:Ak X (compareOp .LtE) (Eo λi j=>.bl (decide (i<=j))):=K2 λ_ _ _ _ _ _ _ q=>le_int q
theorem op_gt:Ak X (compareOp .Gt) (Eo λi j=>.bl (decide (j<i))):=K2 λ_ _ _ _ _ _ _ q=>gt_int q
theorem op_ge:Ak X (compareOp .GtE) (Eo λi j=>.bl (decide (j<=i))):=K2 λ_ _ _ _ _ _ _ q=>ge_int q
theorem zeq:Ak X (compareOp .In) (λx y H Q=>∃i j,x=.str i/\y=.str j/\Q (.bl (!(Builtin.Str.occurrences j i 0 j.length 1).isEmpty)) H):=by
 intro pins s σ H x y v u Q I rx ry h;obtain⟨i,j,rfl,rfl,q⟩:=h;obtain⟨t,rfl⟩:=rx;obtain⟨t',rfl⟩:=ry;exact in_str (JE I q rfl)
theorem zn2:Ak X (compareOp .Is) (λx y H Q=>y=.non/\Q (.bl (decide (x=.non))) H):=by
 intro pins s σ H x y v u Q I rx ry h;obtain⟨rfl,q⟩:=h;cases ry;refine is_none_gen (JE I q ?_)
 cases x<;>first
  |(cases rx;rfl)
  |(obtain⟨t,rfl⟩:=rx;rfl)
theorem zjj:Ak X (compareOp .IsNot) (λx y H Q=>y=.non/\Q (.bl (!decide (x=.non))) H):=by
 intro pins s σ H x y v u Q I rx ry h;obtain⟨rfl,q⟩:=h;cases ry;refine isnot_none_gen (JE I q ?_)
 cases x<;>first
  |(cases rx;rfl)
  |(obtain⟨t,rfl⟩:=rx;rfl)
theorem zjf(ho:Ak X (compareOp op) r)(ha:PE X a ta)(hb:PE X b tb)(hm:behindInMarks op b=false):PE X (.Compare a [op] [b] pos) (HN r ta tb):=by
 intro pins s σ H Q I h;exact wpAny_Compare1 (QY ha hb I h λv u s2 x y H2 I2 rx ry q=>ho pins s2 σ H2 x y v u Q I2 rx ry q) hm
def RA(t:TE):TT:=λσ H Q=>t σ H λx H'=>∃k,x=.bl k/\Q k H'
theorem zj2(ho:Ak X (compareOp op) r)(ha:PE X a ta)(hb:PE X b tb)(hm:behindInMarks op b=false):PT X (.Compare a [op] [b] pos) (RA (HN r ta tb)):=by
 intro pins s σ H Q I h
 refine wpAny_isTrue_Compare1 (AZ (ha pins s σ H _ I h) λv s1 ⟨x,H1,I1,r1,q1⟩=>AZ (hb pins s1 σ H1 _ I1 q1) λu s2 ⟨y,H2,I2,r2,q2⟩ =>
  AZ (ho pins s2 σ H2 x y v u _ I2 r1 r2 q2) λc s3 ⟨z,H3,I3,r3,k,e,q3⟩=>?_) hm
 subst e;cases r3;exact yeq ⟨H3,I3,q3⟩
def Ml(r r':R2)(ta tb tc:TE):TE:=λσ H Q=>ta σ H λx H1=>tb σ H1 λy H2=>r x y H2 λz H3=>∃k,z=.bl k /\
 (if k=true then tc σ H3 λw' H4=>r' y w' H4 Q else Q (.bl false) H3)
theorem zgz{op':CmpOp}{r':R2}(ho:Ak X (compareOp op) r)(ho':Ak X (compareOp op') r')(ha:PE X a ta)(hb:PE X b tb)(hc:PE X c tc)(hm:lastMarks [op,op'] [b,c]=false:=by with_unfolding_all rfl):PE X (.Compare a [op,op'] [b,c] pos) (Ml r r' ta tb tc):=by
 intro pins s σ H Q I h
 refine Compare_chain (AZ (ha pins s σ H _ I h) λv s1 ⟨x,H1,I1,r1,q1⟩=>chain_link (AZ (hb pins s1 σ H1 _ I1 q1) λu s2 ⟨y,H2,I2,r2,q2⟩ =>
  AZ (ho pins s2 σ H2 x y v u _ I2 r1 r2 q2) λd s3 ⟨z,H3,I3,r3,k,e,q3⟩=>?_)) hm
 subst e;cases r3;refine yeq ?_;cases k with
 |false=>exact ite_ff ⟨.bl false,H3,I3,rfl,q3⟩
 |true=>exact ite_tt (chain_last (AZ (hc pins s3 σ H3 _ I3 q3) λw' s4 ⟨z',H4,I4,r4,q4⟩=>ho' pins s4 σ H4 y z' u w' Q I4 r2 r4 q4))
theorem zgr{op':CmpOp}{r':R2}(ho:Ak X (compareOp op) r)(ho':Ak X (compareOp op') r')(ha:PE X a ta)(hb:PE X b tb)(hc:PE X c tc)(hm:lastMarks [op,op'] [b,c]=false:=by with_unfolding_all rfl):PT X (.Compare a [op,op'] [b,c] pos) (RA (Ml r r' ta tb tc)):=by
 intro pins s σ H Q I h
 refine isTrue_chain (AZ (ha pins s σ H _ I h) λv s1 ⟨x,H1,I1,r1,q1⟩=>test_link (AZ (hb pins s1 σ H1 _ I1 q1) λu s2 ⟨y,H2,I2,r2,q2⟩ =>
  AZ (ho pins s2 σ H2 x y v u _ I2 r1 r2 q2) λd s3 ⟨z,H3,I3,r3,k,e,q3⟩=>?_)) hm
 subst e;cases r3;refine yeq ?_;cases k with
 |false =>
  obtain⟨k',e',q'⟩:=q3;cases e';exact ite_ff ⟨H3,I3,q'⟩
 |true =>
  refine ite_tt (test_last (AZ (hc pins s3 σ H3 _ I3 q3) λw' s4 ⟨z',H4,I4,r4,q4⟩=>AZ (ho' pins s4 σ H4 y z' u w' _ I4 r2 r4 q4) λd' s5 ⟨z2,H5,I5,r5,k2,e2,q5⟩=>?_))
  subst e2;cases r5;exact yeq ⟨H5,I5,q5⟩
theorem Ip:(sizeLine:Nat)<2 ^ 63:=by rw[yf0];decide
theorem zdr:Ak X (binaryOp .Add) (λx y H Q=>∃i j,x=.str i/\y=.str j/\i.length+j.length<=sizeLine/\Q (.str (i++j)) H):=by
 intro pins s σ H x y v u Q I rx ry h;obtain⟨i,j,rfl,rfl,hz,q⟩:=h;obtain⟨t,rfl⟩:=rx;obtain⟨t',rfl⟩:=ry;exact add_str (λt' tk=>⟨.str (i++j),H,I.tok _,⟨_,rfl⟩,q⟩) hz
theorem Ek{x:V}(r:Ab [x] us):∃u,us=[u]/\RelV x u:=by
 cases r with
 |cons r1 r2=>cases r2;exact⟨_,rfl,r1⟩
theorem IJ{x:V}(r:Ab [x,y] us):∃u w',us=[u,w']/\RelV x u/\RelV y w':=by
 cases r with
 |cons r1 r2 =>
  cases r2 with
  |cons r3 r4=>cases r4;exact⟨_,_,rfl,r1,r3⟩
theorem zi6:C4 X (.builtin "abs") (λxs H Q=>∃i,xs=[.int i]/\Q (.int (if i<0 then -i else i)) H):=by
 intro pins s σ H xs us Q I r h;obtain⟨i,rfl,q⟩:=h;obtain⟨u,rfl,t,rfl⟩:=Ek r;exact call_abs_int λu tk=>⟨.int (if i<0 then -i else i),H,I.tok _,⟨_,rfl⟩,q⟩
theorem YS:C4 X (.type "int") (λxs H Q=>(∃i,xs=[.int i]/\Q (.int i) H)\/∃k,xs=[.bl k]/\Q (.int (if k then 1 else 0)) H):=by
 intro pins s σ H xs us Q I r h
 rcases h with ⟨i,rfl,q⟩|⟨k,rfl,q⟩
 .obtain⟨u,rfl,t,rfl⟩:=Ek r;exact call_int_int ⟨.int i,H,I,⟨_,rfl⟩,q⟩
 .obtain⟨u,rfl,r1⟩:=Ek r;cases r1;exact call_int_bool ⟨.int (if k then 1 else 0),H,I.tok _,⟨_,rfl⟩,q⟩
def LenV(K:k9)(x:V)(H:Hp)(n:Nat):Prop :=
 match x with
 |.str y=>y.length<=sizeLine/\n=y.length
 |.byt y=>y.size<=sizeLine/\n=y.size
 |.ref p=>(∃xs,A9 K H p xs/\n=xs.length)\/∃xs,Bx K H p xs/\n=xs.length
 |_=>False
theorem YR:C4 X (.builtin "len") (λxs H Q=>∃x n,xs=[x]/\LenV X.K x H n/\Q (.int n) H):=by
 intro pins s σ H xs us Q I r h;obtain⟨x,n,rfl,e,q⟩:=h;obtain⟨u,rfl,rx⟩:=Ek r;have hl:=Ip;have hs:sizeLine=16777216:=yf0;cases x with
 |str y =>
  obtain⟨t,rfl⟩:=rx;obtain⟨hy,e'⟩:y.length<=sizeLine/\n=y.length:=e;subst e';exact len_str (by omega) ⟨.int _,H,I.tok _,⟨_,rfl⟩,q⟩
 |byt y =>
  obtain⟨t,rfl⟩:=rx;obtain⟨hy,e'⟩:y.size<=sizeLine/\n=y.size:=e;subst e';exact PySem.W.len_bytes (by omega) ⟨.int _,H,I.tok _,⟨_,rfl⟩,q⟩
 |ref p =>
  cases rx;have e':(∃xs,A9 X.K H p xs/\n=xs.length)\/∃xs,Bx X.K H p xs/\n=xs.length:=e
  rcases e' with ⟨xs,hx,e'⟩|⟨xs,hx,e'⟩
  .subst e';obtain⟨its,r',pl,hz⟩:=I.list hx;have hlen:=r'.length;exact Calls.call_len_list pl.isList (by simp only[yam];omega) ⟨.int xs.length,H,I.tok _,⟨_,by simp only[yam];rw[hlen]⟩,q⟩
  .subst e';obtain⟨its,r',pl,hz⟩:=I.tuple hx;have hlen:=r'.length;exact len_tuple pl (by simp only[yam];omega) ⟨.int xs.length,H,I.tok _,⟨_,by simp only[yam];rw[hlen]⟩,q⟩
 |_=>exact(show False from e).elim
end
structure ObjM(h:Heap)(x dx C:Addr)(mA:Str->Option Value):Prop where
 obj:h.get? x=some (PySem.W.instObj C dx)
 ns:h.Ns1 dx mA
 ne:dx≠x
variable {dx:Addr}{mA:Str->Option Value}
theorem zex(n:h.Ns1 dx mA):∃od,h.get? dx=some od/\∀name,PySem.W.lookIn name od=some (mA name):=by
 obtain⟨o,es,ep,ho,hd,hk,_,hm⟩:=n;refine⟨o,ho,λname=>?_⟩
 have e:=hm name;unfold nsFind findBy at e;rw[<- Array.find?_toList]at e;unfold PySem.W.lookIn;rw[hd];dsimp only;split
 .rename_i y q;rw[q]at e;exact congrArg some e
 .rename_i q;rw[q]at e
  have a:es.toList.any (·.refKey)=false:=by
   rw[List.any_eq_false];intro y hy;obtain⟨z,t,hkey⟩:=hk y (Array.mem_toList_iff.mp hy);simp[DictEntry.refKey,hkey]
  have a':¬ es.toList.any (·.refKey)=true:=by rw[a];exact ybf
  rw[if_neg a'];exact congrArg some e
variable {C:Addr}
theorem ObjM.look{x:Addr}(I:ObjM h x dx C mA):∃od,PySem.W.InstAt h x (PySem.W.instObj C dx) C (some od)/\∀name,PySem.W.lookIn name od=some (mA name) :=
 let ⟨od,ho,hl⟩:=zex I.ns
 ⟨od,⟨I.obj,rfl,rfl,ho⟩,hl⟩
variable {prog:Program}{f:Addr}{kw:List (Str×Value)}
section
variable {K:k9}{x:Addr}{name:Str}{v:Value}
theorem zkn{expr:Bool}(X:K.In s.heap)(I:ObjM s.heap x dx C mA)(hg:PySem.W.plainGet K C name=true)(hh:PySem.W.hasDictIn K C=true)(ha:PySem.W.findIn K (.ref C) name=some none)(hv:mA name=some v)(hv':PySem.W.handedIn v=true)(h:Q v { s with toks:=s.toks+1 }) :
  wpAny (model prog w) A (getAttr (.ref x) name expr) Q E s:=by
 obtain⟨od,J,hl⟩:=I.look;exact PySem.W.get_value X J (ydz hg).1 (PySem.W.findObj_own hh ha rfl (by rw[hl,hv])) hv' h
theorem zhq{pl:Sem Bool}{Q:Value×List Value->Shared->Prop}(X:K.In s.heap)(I:ObjM s.heap x dx C mA)(hg:PySem.W.plainGet K C name=true)
  (hf:PySem.W.findIn K (.ref C) name=some (some (.ref f))) (ht:PySem.W.isFn K (.ref f)=true) (hv:mA name=none) (h:Q (.ref f,[.ref x]) s) :
  wpAny (model prog w) A (getMethod (.ref x) name pl) Q E s:=by
 obtain⟨od,J,hl⟩:=I.look;exact PySem.W.method_fn X J (ydz hg).1 (ydz hg).2 hf (beq_iff_eq.mp ht) (by show(PySem.W.lookIn name od).map (·.isSome)=some false;rw[hl,hv];rfl) h
theorem ziq{ns:List Str}{Q:Unit->Shared->Prop}(X:K.In s.heap)(I:ObjM s.heap x dx C mA)
  (hs:PySem.W.findIn K (.ref C) "__setattr__"=some (some (.builtin "object.__setattr__"))) (hp:PySem.W.plainOver K C=true) (ht:PySem.W.takerIn K C name=some none) (hh:PySem.W.hasDictIn K C=true)
  (hw:PySem.Within mA ns) (hsz:ns.length<=sizeLine)
  (h:∀h',ObjM h' x dx C (λy=>if y=name then some v else mA y)->Heap.SameBut dx s.heap h'->Q () { s with heap:=h',toks:=s.toks+2 }) :
  wpAny (model prog w) A (setAttr (.ref x) name v) Q E s:=by
 obtain⟨od,J,hl⟩:=I.look;refine PySem.W.set_plain X J hs (PySem.W.osa_open (s:={ s with toks:=s.toks+1 }) (r:=none) X J hp ht λb=>?_)
 obtain⟨cd,hc,hd'⟩:=PySem.W.any_some hh;have hx:s.heap.get? x=some ⟨.ref C,some dx,.plain,#[]⟩:=I.obj;refine yet (yew (yet (yet (wpAny_loadPart hx (yet (PySem.W.Looks.here (s:={ s with toks:=s.toks+1 }) (PySem.W.looks_clsIn X hc) ?_))))))
 rw[hd'];refine yew (a:=some dx) (yet (yew (yet ?_)));refine wpAny_nsSet1 (s:={ s with toks:=s.toks+1 }) I.ns λh' hn2 hs2=>?_
 obtain⟨oD,esD,epD,hoD,hdD,hcD⟩:=hn2.count (PySem.Within.cons name v hw);refine yet (wpAny_lookBehind hoD (by rw[hdD];exact pastItsLine_dict (yak hcD (by rw[yaj];omega))) ?_)
 exact yew (h _ ⟨(hs2.2 _ (ybc I.ne)).trans I.obj,hn2,I.ne⟩ hs2)
theorem zhb{R:Result->Shared->Prop}{vs:List Value}(X:K.In s.heap)(hm:PySem.W.makesIn K C=true)(hi:PySem.W.findIn K (.ref C) "__init__"=some (some (.ref f)))(hf:PySem.W.typeIn K (.ref f)=some (.type "function"))(h:codeAny (model prog w) (A.under (.builtin "type.__call__" ⟨.ref C::vs,kw⟩)) (.call (.ref f) ⟨.ref (s.heap.objs.size+1)::vs,kw⟩) (PySem.W.InitBack (s.heap.objs.size+1) R)
   { s with heap:=(s.heap.push PySem.W.emptyDict).push (PySem.W.instObj C s.heap.objs.size) }) :
  codeAny (model prog w) A (.call (.ref C) ⟨vs,kw⟩) R s:=by
 obtain⟨hh,g,d,t,os⟩:=s;exact PySem.W.make_core (PySem.W.makes_of X hm) (PySem.W.looks_findIn X hi) (λself=>PySem.W.bind_fn X self hf) (.inl rfl) h
end
def Cp(f:Str)(v:V):List (Str×V)->List (Str×V)
 |[]=>[(f,v)]
 |(g,x)::r=>if g=f then (g,v)::r else (g,x)::Cp f v r
theorem Vj(f g:Str)(v:V):∀fs:List (Str×V),(Cp f v fs).lookup g=if g=f then some v else fs.lookup g
 |[]=>by
  show List.lookup g [(f,v)]=_
  by_cases h:g=f
  .have hb:(g == f)=true:=beq_iff_eq.mpr h;simp only[List.lookup,hb,if_pos h]
  .have hb:(g == f)=false:=beq_eq_false_iff_ne.mpr h;simp only[List.lookup,hb,if_neg h]
 |(k,x)::r=>by
  have ih:=Vj f g v r;rw[show Cp f v ((k,x)::r)=(if k=f then (k,v)::r else (k,x)::Cp f v r) from rfl]
  by_cases hk:k=f
  .rw[if_pos hk]
   by_cases h:g=k
   .have hb:(g == k)=true:=beq_iff_eq.mpr h;simp only[List.lookup,hb,if_pos (h.trans hk)]
   .have hb:(g == k)=false:=beq_eq_false_iff_ne.mpr h;simp only[List.lookup,hb,if_neg (λe:g=f=>h (e.trans hk.symm))]
  .rw[if_neg hk]
   by_cases h:g=k
   .have hb:(g == k)=true:=beq_iff_eq.mpr h;simp only[List.lookup,hb,if_neg (λe:g=f=>hk (h.symm.trans e))]
   .have hb:(g == k)=false:=beq_eq_false_iff_ne.mpr h;simp only[List.lookup,hb];exact ih
theorem Oa(f:Str)(v:V):∀fs:List (Str×V),f∈(Cp f v fs).map (·.1)/\∀g,g∈fs.map (·.1)->g∈(Cp f v fs).map (·.1)
 |[]=>⟨by simp[Cp],λg h=>by simp at h⟩
 |(k,x)::r=>by
  obtain⟨i1,i2⟩:=Oa f v r;rw[show Cp f v ((k,x)::r)=(if k=f then (k,v)::r else (k,x)::Cp f v r) from rfl]
  by_cases hk:k=f
  .rw[if_pos hk];subst hk;exact⟨by simp,λg h=>by simpa using h⟩
  .rw[if_neg hk];refine⟨?_,λg h=>?_⟩
   .rw[yad];exact ya4 _ i1
   .rw[yad]at h ⊢
    rcases ya9.mp h with e|e
    .exact ya9.mpr (.inl e)
    .exact ya4 _ (i2 g e)
theorem Vq(f:Str)(v:V):∀fs:List (Str×V),(Cp f v fs).length<=fs.length+1
 |[]=>by simp[Cp]
 |(k,x)::r=>by
  have ih:=Vq f v r;rw[show Cp f v ((k,x)::r)=(if k=f then (k,v)::r else (k,x)::Cp f v r) from rfl]
  by_cases hk:k=f
  .rw[if_pos hk,yaj,yaj];omega
  .rw[if_neg hk,yaj,yaj];omega
theorem DQ.some_of{v:V}{o:Option Value}(r:DQ (some v) o):∃u,o=some u/\RelV v u:=by
 cases o with
 |none=>exact(show False from r).elim
 |some u=>exact⟨u,rfl,r⟩
theorem DQ.none_of{o:Option Value}(r:DQ none o):o=none:=by
 cases o with
 |none=>rfl
 |some u=>exact(show False from r).elim
theorem zf5{v:V}(r:RelV v u):PySem.W.handedIn u=true:=by
 cases v with
 |non=>cases (show u=Value.none from r);rfl
 |bl b=>cases (show u=Value.bool b from r);rfl
 |int i=>obtain⟨t,e⟩:=(show ∃t,u=Value.int i t from r);cases e;rfl
 |str x=>obtain⟨t,e⟩:=(show ∃t,u=Value.str x t from r);cases e;rfl
 |byt b=>obtain⟨t,e⟩:=(show ∃t,u=Value.bytes b t from r);cases e;rfl
 |flt b=>obtain⟨t,e⟩:=(show ∃t,u=Value.float b t from r);cases e;rfl
 |ref a=>cases (show u=Value.ref a from r);rfl
 |ty n=>cases (show u=Value.type n from r);rfl
section
variable {fs fs':List (Str×V)}
theorem LD(hok:HOk P w H h)(e:H a=some (.ins C dx fs)):∃mA,ObjM h a dx C mA/\(∀f,DQ (fs.lookup f) (mA f))/\PySem.Within mA (fs.map (·.1))/\fs.length<=1000/\H dx=some (.own a):=by
 obtain⟨d,z,ne,ob,mA,n,r,q⟩:=(show Ba P w H h a (.ins C dx fs) from hok a _ e);exact⟨mA,⟨ob,n,ne⟩,r,q,z,d⟩
end
structure Cls(K:k9)(C:Addr):Prop where
 pg:PySem.W.plainGet K C Str.empty=true
 hd:PySem.W.hasDictIn K C=true
 po:PySem.W.plainOver K C=true
 sa:PySem.W.findIn K (.ref C) "__setattr__"=some (some (.builtin "object.__setattr__"))
theorem Cls.get{K:k9}(c:Cls K C)(f:Str):PySem.W.plainGet K C f=true:=c.pg
def CO(K:k9)(C:Addr)(f:Str):Prop:=PySem.W.findIn K (.ref C) f=some none
theorem CO.taker{K:k9}{f:Str}(n:CO K C f):PySem.W.takerIn K C f=some none:=by
 unfold PySem.W.takerIn;rw[show PySem.W.findIn K (.ref C) f=some none from n]
 rfl
structure Meth(K:k9)(C:Addr)(m:Str)(f:Addr):Prop where
 at_:PySem.W.findIn K (.ref C) m=some (some (.ref f))
 fn:PySem.W.isFn K (.ref f)=true
 kp:PySem.W.keepIn K (.ref f)=true
section
variable {fs:List (Str×V)}{f:Str}{v:V}
theorem ze6{b:Bool}(I:Inv X pins σ H s)(e:H a=some (.ins C dx fs))(c:Cls X.K C)(n:CO X.K C f)(l:fs.lookup f=some v)(h:∀u s',Inv X pins σ H s'->RelV v u->Q u s'):wpAny (model X.prog X.w) A (getAttr (.ref a) f b) Q E s:=by
 obtain⟨mA,O,r,_,_,_⟩:=LD I.hok e;obtain⟨u,hu,ru⟩:=DQ.some_of (v:=v) (o:=mA f) (by rw[<- l];exact r f)
 exact zkn I.kIn O (c.get f) c.hd n hu (zf5 ru) (h u _ (I.tok _) ru)
theorem Wb{m:Str}{g:Addr}{pl:Sem Bool}{Q:Value×List Value->Shared->Prop}(I:Inv X pins σ H s)(e:H a=some (.ins C dx fs))(c:Cls X.K C)(k:Meth X.K C m g)(l:fs.lookup m=none)
  (h:Q (.ref g,[.ref a]) s):wpAny (model X.prog X.w) A (getMethod (.ref a) m pl) Q E s:=by
 obtain⟨mA,O,r,_,_,_⟩:=LD I.hok e;have hn:mA m=none:=DQ.none_of (by rw[<- l];exact r m)
 exact zhq I.kIn O (c.get m) k.at_ k.fn hn h
theorem zdo{Q:Unit->Shared->Prop}(I:Inv X pins σ H s)(e:H a=some (.ins C dx fs))(c:Cls X.K C)(n:CO X.K C f)(hl:fs.length<1000)(ry:RelV y u)(h:∀s',Inv X pins σ (upd H a (.ins C dx (Cp f y fs))) s'->Q () s'):wpAny (model X.prog X.w) A (setAttr (.ref a) f u) Q E s:=by
 obtain⟨mA,O,r,wi,_,ho⟩:=LD I.hok e;have hz:(fs.map (·.1)).length<=sizeLine:=by rw[ya1,yf0];omega
 refine ziq I.kIn O c.sa c.po n.taker c.hd wi hz λh' O' sb=>h _ ?_
 have hd:∃o,h'.get? dx=some o:=let ⟨o,_,_,e',_⟩:=O'.ns;⟨o,e'⟩;refine I.write (x:=a) (e:=dx) (by rw[e];exact True.intro) (.inr ho) (λb q hb z=>(sb.2 b hb).trans z) hd ?_
 refine⟨by rw[Az O.ne];exact ho,?_,O.ne,O'.obj,_,O'.ns,λg=>?_,λg hg=>?_⟩
 .have:=Vq f y fs;omega
 .show DQ ((Cp f y fs).lookup g) (if g=f then some u else mA g)
  rw[Vj]
  by_cases q:g=f
  .rw[if_pos q,if_pos q];exact ry
  .rw[if_neg q,if_neg q];exact r g
 .by_cases q:g=f
  .rw[q];exact(Oa f y fs).1
  .refine(Oa f y fs).2 g (wi g λz=>hg ?_)
   show(if g=f then some u else mA g)=none
   rw[if_neg q];exact z
theorem Inv.made(I:Inv X pins σ H s):Inv X pins σ (upd (upd H s.heap.objs.size (.own (s.heap.objs.size+1))) (s.heap.objs.size+1) (.ins C s.heap.objs.size []))
  { s with heap:=(s.heap.push PySem.W.emptyDict).push (PySem.W.instObj C s.heap.objs.size) }:=by
 have e1:(s.heap.push PySem.W.emptyDict).get? s.heap.objs.size=some PySem.W.emptyDict:=yaw s.heap rfl
 have e2:((s.heap.push PySem.W.emptyDict).push (PySem.W.instObj C s.heap.objs.size)).get? (s.heap.objs.size+1)=some (PySem.W.instObj C s.heap.objs.size):=by
  have:=yaw (s.heap.push PySem.W.emptyDict) (o:=PySem.W.instObj C s.heap.objs.size) rfl
  rwa[ybw]at this
 have e3:(s.heap.push PySem.W.emptyDict).Ns s.heap.objs.size (λ_=>none):=⟨PySem.W.emptyDict,#[],_,e1,rfl,(λe he=>absurd he (by simp)),λ_=>rfl⟩
 have I1:=I.laid (a:=s.heap.objs.size) (o:=.own (s.heap.objs.size+1)) (h':=s.heap.push PySem.W.emptyDict) (t':=s.toks) (λb u q=>yaa _ q) (yae _) ⟨_,e1⟩
 refine I1.laid (a:=s.heap.objs.size+1) (o:=.ins C s.heap.objs.size []) (t':=s.toks) (λb u q=>yaa _ q) (Nat.le_of_eq (ybw _ _)) ?_
 have ne:s.heap.objs.size≠s.heap.objs.size+1:=yav (yca _);refine⟨by rw[Az ne,Cd],ybr _,ne,e2,λ_=>none,(Heap.Ns1.of_empty e3).at λo q=>yaa _ q,λ_=>True.intro,λy hy=>absurd rfl hy⟩
theorem zky{env:Env}{f:Str}(hb:attributeBase e f env (eval e env)=eval e env)(h:wpAny (model prog w) A (eval e env) (λo s₁=>wpAny (model prog w) A (getAttr o f true) Q E s₁) E s):wpAny (model prog w) A (eval (.Attribute e f pos) env) Q E s :=
 Attribute_any_ h (by rw[arm_eval_Attribute,hb])
end
def tFld(K:k9)(ta:TE)(f:Str):TE:=λσ H Q=>ta σ H λx H1=>∃a C dx fs v,x=.ref a/\H1 a=some (.ins C dx fs)/\Cls K C/\CO K C f/\fs.lookup f=some v/\Q v H1
def sFld(K:k9)(ta tv:TE)(f:Str):TS:=λD σ H=>tv σ H λy H1=>ta σ H1 λx H2=>∃a C dx fs,x=.ref a/\H2 a=some (.ins C dx fs)/\Cls K C/\CO K C f/\fs.length<1000 /\
 D.nx σ (upd H2 a (.ins C dx (Cp f y fs)))
section
variable {value:Expr}{f:Str}{pos' tpos:Pos}{tv:TE}
theorem Tt(he:PE X e ta)(hb:attributeBase e f X.env (eval e X.env)=eval e X.env):PE X (.Attribute e f pos) (tFld X.K ta f):=by
 intro pins s σ H Q I h;refine zky hb (AZ (he pins s σ H _ I h) λu s1 ⟨x,H1,I1,rx,a,C,dx,fs,v,ex,ea,c,n,l,q⟩=>?_)
 subst ex;obtain rfl:u=Value.ref a:=rx;exact ze6 I1 ea c n l λu' s2 I2 ru=>⟨v,H1,I2,ru,q⟩
theorem zmk(ha:PE X o ta)(hv:PE X value tv)(hs:swapsWith value (some (.Attribute o f pos')) pos.line X.env=pure false):PS X (.Assign [.Attribute o f pos'] value pos) (sFld X.K ta tv f):=by
 intro pins s σ H D I h;refine plainObj_wpAny_Assign_Attribute (AZ (hv pins s σ H _ I h) λu s1 ⟨y,H1,I1,ry,q⟩=>AZ (ha pins s1 σ H1 _ I1 q) λov s2 ⟨x,H2,I2,rx,a,C,dx,fs,ex,ea,c,n,l,q2⟩=>?_) hs
 subst ex;obtain rfl:ov=Value.ref a:=rx;exact zdo I2 ea c n l ry λs3 I3=>⟨σ,_,I3,q2⟩
end
section
variable {c:Value}{b:Bool}
inductive TyOf(K:k9)(H:Hp):V->Value->Prop where
 |non:TyOf K H .non (.type "NoneType")
 |bl (x:Bool):TyOf K H (.bl x) (.type "bool")
 |int (i:Int):TyOf K H (.int i) (.type "int")
 |str (x:Str):TyOf K H (.str x) (.type "str")
 |flt (x:UInt64):TyOf K H (.flt x) (.type "float")
 |lst {a:Addr} {xs:List V} (e:H a=some (.lst xs)):TyOf K H (.ref a) (.type "list")
 |frz {a:Addr} {o:Obj} {xs:List V} (e:H a=some (.frz o (.lst xs))):TyOf K H (.ref a) (.type "list")
 |tup {a:Addr} {xs:List V} (e:H a=some (.tup xs)):TyOf K H (.ref a) (.type "tuple")
 |dK {a:Addr} {kvs:List (Key×V)} (e:H a=some (.dK kvs)):TyOf K H (.ref a) (.type "dict")
 |dT {a:Addr} {kvs:List (List Key×V)} (e:H a=some (.dT kvs)):TyOf K H (.ref a) (.type "dict")
 |ins {a C dx:Addr} {fs:List (Str×V)} (e:H a=some (.ins C dx fs)) (cl:Cls K C) (ha:PySem.W.findIn K (.ref C) "__class__"=some (some (.builtin "object.__class__")))
   (hn:PySem.W.specialIn K (.builtin "object.__class__") "__get__"=some (some (.builtin "getset_descriptor.__get__"))) (htk:PySem.W.takesIn K (.builtin "object.__class__")=some true)
   (hm:PySem.W.mroIn K C (.type "object")=some true):TyOf K H (.ref a) (.ref C)
theorem Om{x:V}{t:Value}(I:Inv X pins σ H s)(rx:RelV x u)(ty:TyOf X.K H x t)(e:PySem.W.kitOne X.K t c=some b)(h:∀tk,Q (.bool b) { s with toks:=tk }) :
  wpAny (model X.prog X.w) A (call (.builtin "isinstance") [u,c]) Q E s:=by
 cases ty with
 |non=>cases (show u=Value.none from rx);exact ybl PySem.W.kitx_none I.kIn True.intro e (λz=>nomatch z) h
 |bl y=>cases (show u=Value.bool y from rx);exact ybl PySem.W.kitx_bool I.kIn True.intro e (λz=>nomatch z) h
 |int i=>obtain⟨t,q⟩:=(show ∃t,u=Value.int i t from rx);cases q;exact ybl PySem.W.kitx_int I.kIn True.intro e (λz=>nomatch z) h
 |str y=>obtain⟨t,q⟩:=(show ∃t,u=Value.str y t from rx);cases q;exact ybl PySem.W.kitx_str I.kIn True.intro e (λz=>nomatch z) h
 |flt y=>obtain⟨t,q⟩:=(show ∃t,u=Value.float y t from rx);cases q;exact ybl PySem.W.kitx_float I.kIn True.intro e (λz=>nomatch z) h
 |@lst a xs ea =>
  cases (show u=Value.ref a from rx);obtain⟨_,_,n,_,h1⟩:=(show Ba X.prog X.w H s.heap a (.lst xs) from I.hok a _ ea);exact ybl PySem.W.kitx_list I.kIn ⟨_,h1,rfl⟩ e (λz=>nomatch z) h
 |@frz a ob xs ea =>
  cases (show u=Value.ref a from rx);obtain⟨_,_,_,n,_,h1⟩:=(show Ba X.prog X.w H s.heap a (.frz ob (.lst xs)) from I.hok a _ ea);exact ybl PySem.W.kitx_list I.kIn ⟨_,h1,rfl⟩ e (λz=>nomatch z) h
 |@tup a xs ea =>
  cases (show u=Value.ref a from rx);obtain⟨_,_,_,p⟩:=(show Ba X.prog X.w H s.heap a (.tup xs) from I.hok a _ ea);obtain⟨o,h1,h2,_⟩:=p;exact ybl PySem.W.kitx_tuple I.kIn ⟨o,h1,h2⟩ e (λz=>nomatch z) h
 |@dK a kvs ea =>
  cases (show u=Value.ref a from rx);obtain⟨_,_,vs,_,p⟩:=(show Ba X.prog X.w H s.heap a (.dK kvs) from I.hok a _ ea);obtain⟨o,es,ep,h1,h2,_⟩:=p;exact ybl yec I.kIn ⟨o,h1,h2.1⟩ e (λz=>nomatch z) h
 |@dT a kvs ea =>
  cases (show u=Value.ref a from rx);obtain⟨_,_,xs,_,o,es,ep,h1,h2,_⟩:=(show Ba X.prog X.w H s.heap a (.dT kvs) from I.hok a _ ea);exact ybl yec I.kIn ⟨o,h1,h2.1⟩ e (λz=>nomatch z) h
 |@ins a C dx fs ea cl ha hn htk hm =>
  cases (show u=Value.ref a from rx);obtain⟨mA,O,_⟩:=LD I.hok ea;obtain⟨od,J,_⟩:=O.look;exact ybl (PySem.W.kitx_own (cl.get _) cl.hd ha hn htk hm) I.kIn J e (λz=>nomatch z) h
end
structure Room(k:Nat)(A:Around):Prop where
 hd:A.handled=none
 dp:A.depth+3 * k+5<recursionLimit
 un:A.units+16 * k+200<cLine
theorem Room.mono{j k:Nat}(r:Room k A)(h:j<=k):Room j A:=⟨r.hd,by have:=r.dp;omega,by have:=r.un;omega⟩
theorem Room.deeper{k:Nat}{A:Around}(r:Room (k+1) A)(env:Env):Room k (A.deeper env) :=
 ⟨r.hd,by have:=r.dp;show A.depth+1+3 * k+5<_;omega,by have:=r.un;show A.units+3+16 * k+200<_;omega⟩
theorem zdu:(A.under (.builtin "type.__call__" ⟨.ref C::us,kw⟩)).depth=A.depth+1:=by
 first|rfl|simp[Around.under,Code.weight,Code.isCreation,Code.isGuard,Code.isCaller,Code.frames,Code.isFrame,guardIds]
theorem zdt:(A.under (.builtin "type.__call__" ⟨.ref C::us,kw⟩)).units=A.units+1:=by
 first|rfl|simp[Around.under,Code.cUnits,Code.frames,Code.isFrame]
theorem Room.make{k:Nat}(r:Room (k+1) A)(C:Addr)(us:List Value)(kw:List (Str×Value)):Room k (A.under (.builtin "type.__call__" ⟨.ref C::us,kw⟩)) :=
 ⟨r.hd,by have:=r.dp;rw[zdu];omega,by have:=r.un;rw[zdt];omega⟩
theorem Room.depth{k:Nat}{A:Around}(r:Room k A):A.depth<recursionLimit:=by have:=r.dp;omega
theorem Room.units{k:Nat}{A:Around}(r:Room k A):A.units+64<cLine:=by have:=r.un;omega
def RF:TA:=λ_ H Q=>Q [] H
def tCons(ta:TE)(tr:TA):TA:=λσ H Q=>ta σ H λx H1=>tr σ H1 λxs H2=>Q (x::xs) H2
section
variable {t:TA}
theorem E6:PA X [] RF:=λ_ _ _ _ H Q I h=>Calls.spliced_nil ⟨[],H,I,.nil,h⟩
theorem EC(ha:PE X e te)(hr:PA X es t)(hs:starEach (e::es) X.env=(false,eval e X.env)::starEach es X.env:=by rfl):PA X (e::es) (tCons te t):=by
 intro pos pins s σ H Q I h;rw[hs];show wpAny _ _ (spliced ((false,eval e X.env)::backTo pos (starEach es X.env))) _ _ s;refine Calls.spliced_cons (AZ (ha pins s σ H _ I h) λu s1 ⟨x,H1,I1,r1,q1⟩=>?_)
 exact AZ (hr pos pins s1 σ H1 _ I1 q1) λus s2 ⟨xs,H2,I2,r2,q2⟩=>⟨x::xs,H2,I2,.cons r1 r2,q2⟩
def tTup(t:TA):TE:=λσ H Q=>t σ H λxs H1=>xs.length<=sizeLine/\∀p,H1 p=none->Q (.ref p) (upd H1 p (.tup xs))
def tLst(t:TA):TE:=λσ H Q=>t σ H λxs H1=>xs.length<=sizeLine/\∀p,H1 p=none->Q (.ref p) (upd H1 p (.lst xs))
theorem zmr{x1}(h:PA X es t):PE X (.Tuple es x1 pos) (tTup t):=by
 intro pins s σ H Q I hq;refine wpAny_Tuple_spliced (AZ (h pos pins s σ H _ I hq) λus s1 ⟨xs,H1,I1,r,z,q⟩=>⟨by rw[<- r.length];exact z,?_⟩)
 have hf:H1 s1.heap.objs.size=none:=I1.hok.fresh (yae _);refine⟨.ref s1.heap.objs.size,upd H1 s1.heap.objs.size (.tup xs),I1.laid (t':=s1.toks) (λb u e=>yaa _ e) (yae _) ?_,rfl,q _ hf⟩
 exact⟨z,us,r,⟨_,yaw _ rfl,rfl,_,rfl⟩⟩
theorem zmv(h:PA X es t):PE X (.List es pos) (tLst t):=by
 intro pins s σ H Q I hq;refine wpAny_List_spliced (AZ (h pos pins s σ H _ I hq) λus s1 ⟨xs,H1,I1,r,z,q⟩=>⟨by rw[<- r.length];exact z,?_⟩)
 have hf:H1 s1.heap.objs.size=none:=I1.hok.fresh (yae _);refine⟨.ref s1.heap.objs.size,upd H1 s1.heap.objs.size (.lst xs),I1.laid (t':=s1.toks) (λb u e=>yaa _ e) (yae _) ?_,rfl,q _ hf⟩
 exact⟨z,us,0,r,yaw _ rfl⟩
end
abbrev Sp:=List V->Hp->VK->XK->Prop
abbrev GW:=List Env->Hp->Shared->XK->Value->Shared->Prop
structure Env0(P:Program)(w:World)(K:k9)(mg:Str->Option Value)(base:Heap)(A:Around)(outer:List Env)(s:Shared)(H:Hp):Prop where
 frames:A.frames=some outer
 mod:Mod K mg base
 bs:∀b o,base.get? b=some o->s.heap.get? b=some o/\H b=none
 bsz:base.objs.size<=s.heap.objs.size
 funs:s.heap.FunFrames base outer
 frf:∀b∈BK outer,H b=none
 hok:HOk P w H s.heap
 bare:AllBare s.gens
def CE(outer:List Env)(P:Program)(w:World)(H:Hp)(s:Shared)(Q:VK)(u:Value)(s':Shared):Prop :=
 ∃v H',s'.os=s.os/\AllBare s'.gens/\Un (BK outer) [] H H' s.heap s'.heap/\HOk P w H' s'.heap/\RelV v u/\Q v H'
def CR(CX:GW)(outer:List Env)(P:Program)(w:World)(H:Hp)(s:Shared)(Q:VK)(E:XK)(r:Result)(s':Shared):Prop :=
 match r with
 |.ok (.ret u)=>CE outer P w H s Q u s'
 |.ok _=>False
 |.error e=>CX outer H s E e s'
structure FnOk(P:Program)(w:World)(K:k9)(mg:Str->Option Value)(base:Heap)(CX:GW)(k:Nat)(f:Addr)(fd:FuncData)(ps:List Str)(sp:Sp):Prop where
 len:∀vs H Q E,sp vs H Q E->vs.length=ps.length
 run:∀(A:Around) (outer:List Env) (s:Shared) (H:Hp) (args:Args) (us:List Value) (vs:List V) (Q:VK) (E:XK),Room k A->Env0 P w K mg base A outer s H->BindsTo s fd args (ps.zip us)->Ab vs us->sp vs H Q E ->
  codeAny (model P w) A (.call (.ref f) args) (CR CX outer P w H s Q E) s
variable {mg:Str->Option Value}{base:Heap}
theorem Env0.make{K:k9}{outer:List Env}(e:Env0 P w K mg base A outer s H)(C:Addr)(us:List Value)(kw:List (Str×Value)) :
  Env0 P w K mg base (A.under (.builtin "type.__call__" ⟨.ref C::us,kw⟩)) outer s H:=⟨by first|exact e.frames|(simpa[Around.under,Code.envs,Code.isFrame,pushEnvs] using e.frames),e.mod,e.bs,e.bsz,e.funs,e.frf,e.hok,e.bare⟩
section
variable {s':Shared}
theorem Inv.env0(I:Inv X pins σ H s):Env0 X.prog X.w X.K X.mg X.base X.A X.stack s H :=
 ⟨I.ok.frames,I.ok.mod,I.bs,yak I.ok.bsz I.sz,I.stack,I.stkFree,I.hok,I.bare⟩
theorem Inv.after{Q:VK}(I:Inv X pins σ H s)(h:CE X.stack X.prog X.w H s Q u s'):EP X pins σ Q u s':=by
 obtain⟨v,H',os,bare,un,hok,r,q⟩:=h;obtain⟨hh,g,d,t,os'⟩:=s';obtain rfl:os'=s.os:=os;exact⟨v,H',I.call (h':=hh) (g':=g) (d':=d) (t':=t) (ch:=[]) un hok bare (λb z=>absurd z (by simp)),r,q⟩
end
def Dg(K:k9)(fd:FuncData)(ps:List Str)(ds:List Value):Prop :=
 ∀(s:Shared) (us:List Value),K.In s.heap->(us++ds).length=ps.length->BindsTo s fd ⟨us,[]⟩ (ps.zip (us++ds))
variable {fd:FuncData}{ps:List Str}
theorem Dg.all{K:k9}(h:∀us:List Value,us.length=ps.length->bindArgs fd ⟨us,[]⟩=pure (ps.zip us)):Dg K fd ps []:=λs us _ hl=>by
 rw[yay]at hl ⊢;exact .of_eq (h us hl)
variable {CX:GW}{apos:Pos}
section
variable {k:Nat}{sp:Sp}{dvs:List V}{ds:List Value}{E:XK}{m:Str}{p:Pos}{t:TA}
structure Mk(K:k9)(C f:Addr):Prop where
 makes:PySem.W.makesIn K C=true
 init:PySem.W.findIn K (.ref C) "__init__"=some (some (.ref f))
 fn:PySem.W.isFn K (.ref f)=true
 kp:PySem.W.keepIn K (.ref C)=true
end
section
variable {k:Nat}{ks:List Str}{sp:Sp}{E:XK}{m:Str}{p kpos:Pos}{kws:List Keyword}{t tk:TA}{nm:Option Str}
variable {g:List Value->List Value->List Value}{gV:List V->List V->List V}
end
structure FnScope(N P:List Str)(sc:Scope):Prop where
 kind:sc.kind=.function
 co:sc.isCoroutine=false
 gen:sc.isGenerator=false
 nd:N.Nodup
 pre:N.take P.length=P
 par:∀x∈P,sc.names.lookup x=some .local\/sc.names.lookup x=some .cell
 nofree:∀y∈sc.names,y.2≠.free
theorem YZ{kindOf:Str->Option NameKind}{x:Str}:∀{binds:List (Str×Value)} {m:Str->Option Value},(∀v,(x,v)∉binds)->bindL kindOf binds m x=m x
 |[],_,_=>rfl
 |(n,v)::r,m,h=>by
  unfold bindL;rw[YZ λw hw=>h w (ya4 _ hw)]
  split
  .have:x≠n:=by rintro rfl;exact h v ya5
   simp[this]
  .rfl
theorem Y1{kindOf:Str->Option NameKind}{x:Str}:∀{binds:List (Str×Value)} {m:Str->Option Value},(∀v,(x,v)∉binds)->bindC kindOf binds m x=m x
 |[],_,_=>rfl
 |(n,v)::r,m,h=>by
  unfold bindC;rw[Y1 λw hw=>h w (ya4 _ hw)]
  split
  .rfl
  .have:x≠n:=by rintro rfl;exact h v ya5
   simp[this]
theorem Y0{kindOf:Str->Option NameKind}{x:Str}{v:Value}:∀{P:List Str} {vs:List Value} {i:Nat} {m:Str->Option Value},P.Nodup->P[i]?=some x->vs[i]?=some v->kindOf x=some .local ->
  bindL kindOf (P.zip vs) m x=some v
 |[],_,_,_,_,h,_,_=>by simp at h
 |_::_,[],_,_,_,_,h,_=>by simp at h
 |p::P,w::vs,0,m,nd,h1,h2,hk=>by
  simp at h1 h2;subst h1;subst h2;show bindL kindOf ((p,w)::P.zip vs) m p=_;unfold bindL;rw[YZ λv hv=>(ybv.mp nd).1 (yct hv).1,if_pos hk]
  simp
 |p::P,w::vs,i+1,m,nd,h1,h2,hk=>by
  show bindL kindOf ((p,w)::P.zip vs) m x=_;unfold bindL;exact Y0 (i:=i) (ybv.mp nd).2 (by simpa using h1) (by simpa using h2) hk
theorem Y2{kindOf:Str->Option NameKind}{x:Str}{v:Value}:∀{P:List Str} {vs:List Value} {i:Nat} {m:Str->Option Value},P.Nodup->P[i]?=some x->vs[i]?=some v->kindOf x≠some .local ->
  bindC kindOf (P.zip vs) m x=some v
 |[],_,_,_,_,h,_,_=>by simp at h
 |_::_,[],_,_,_,_,h,_=>by simp at h
 |p::P,w::vs,0,m,nd,h1,h2,hk=>by
  simp at h1 h2;subst h1;subst h2;show bindC kindOf ((p,w)::P.zip vs) m p=_;unfold bindC;rw[Y1 λv hv=>(ybv.mp nd).1 (yct hv).1,if_neg hk]
  simp
 |p::P,w::vs,i+1,m,nd,h1,h2,hk=>by
  show bindC kindOf ((p,w)::P.zip vs) m x=_;unfold bindC;exact Y2 (i:=i) (ybv.mp nd).2 (by simpa using h1) (by simpa using h2) hk
def start(N:List Str)(vs:List V):St:=vs.map some++List.replicate (N.length - vs.length) none
noncomputable def FA(CX:GW)(P:Program)(w:World)(K:k9)(mg:Str->Option Value)(base:Heap)(N:List Str)(qual:Str)(scope:Scope)(f:Addr)(cd:Value)(A:Around)(outer:List Env)(s:Shared)(H:Hp)(E:XK):Cx where
 prog:=P
 w:=w
 K:=K
 mg:=mg
 base:=base
 A:=A.deeper (envOfC qual scope s.heap.objs.size f cd)
 N:=N
 s₀:=s
 H₀:=H
 env:=envOfC qual scope s.heap.objs.size f cd
 outer:=outer
 stack:=envOfC qual scope s.heap.objs.size f cd::outer
 ex:=[]
 calm:=true
 fn:=λ_=>true
 pn:=[]
 xe:=λe s'=>wpAny (model P w) (A.deeper (envOfC qual scope s.heap.objs.size f cd)) (leaving (envOfC qual scope s.heap.objs.size f cd) e) (λ_ s''=>CX outer H s E e s'') (λe' s''=>CX outer H s E e' s'') s'
theorem YN{sc:Scope}(h:sc.names.lookup x=some .cell):∃c,(cellsFrom n sc.names []).lookup x=some c:=by
 have q:=PySem.W.cellsFrom_some sc.names n [] (.inl h);exact yd5.mp q
theorem zf2{K:k9}{N:List Str}{qual:Str}{scope:Scope}{cd:Value}{outer:List Env}{s1:Shared}{E:XK}{vs:List V}(S:FnScope N ps scope)(hd:A.handled=none)(e0:Env0 P w K mg base A outer s H)(hl:vs.length=ps.length)(r:Ab vs us)(x:InCallC s s.heap.objs.size (bindL (envOfC qual scope s.heap.objs.size f cd).kindOf (ps.zip us) λ_=>none) (cellsFrom (s.heap.objs.size+1) scope.names []) (bindC (envOfC qual scope s.heap.objs.size f cd).kindOf (ps.zip us) λ_=>none) s1) :
  Inv (FA CX P w K mg base N qual scope f cd A outer s H E) [] (start N vs) H s1:=by
 have hpl:ps.length<=N.length:=by have:=congrArg List.length S.pre;rw[ybi]at this;omega
 obtain⟨h1,tk,rfl,hk⟩:=x.done;have noA:∀b:Addr,b∉(FA CX P w K mg base N qual scope f cd A outer s H E).ex:=λb z=>absurd (show b∈([]:List Addr) from z) (by simp)
 refine⟨⟨e0.mod,S.kind,rfl,rfl,yae _,λy z c h1 h2=>?_,λy hy=>?_,λy c _ h=>?_,λ_=>hd,Around.frames_deeper e0.frames,.inr ⟨rfl,rfl⟩,λb z=>absurd z (noA b),e0.bs,e0.bsz,λb _ _=>noA b,λb z=>absurd z (noA b),e0.funs,e0.frf⟩,
  rfl,e0.bare,Un.kept hk,⟨_,x.toInCall.ns,λi y v h1 h2 h3=>?_⟩,λy c h=>⟨_,x.cell y c h⟩,e0.hok.fresh (yae _),λy c h=>?_,λp hp=>absurd (show p∈([]:List (Addr×Obj)) from hp) (by simp),e0.hok.kept hk,?_⟩
 .exact name_of_addr x.apart (ybu h1) (ybu h2)
 .have hy:scope.names.lookup y=some .cell\/scope.names.lookup y=some .free:=hy
  rcases hy with hy|hy
  .exact YN hy
  .exact absurd rfl (S.nofree _ (ybu hy))
 .exact yeh (x.above y c (ybu h))
 .have hi:i<vs.length:=by
   unfold start at h2
   by_cases hi:i<vs.length
   .exact hi
   .rw[yb2 (by simpa using hi)]at h2
    rw[ydb]at h2;split at h2<;>cases h2
  have ha:vs[i]?=some v:=by
   unfold start at h2;rw[yaz (by simpa using hi),ya3]at h2
   cases e:vs[i]? with
   |none=>rw[e]at h2;cases h2
   |some a=>rw[e]at h2;cases h2;rfl
  obtain⟨u,hu,rv⟩:=r.get ha
  have hp:ps[i]?=some y:=by
   rw[<- S.pre,yc5 (by omega)];exact h1
  have ndP:ps.Nodup:=by rw[<- S.pre];exact S.nd.sublist (List.take_sublist _ _)
  refine⟨u,rv,?_⟩
  rcases S.par y (yab hp) with k|k
  .exact .inl ⟨k,Y0 ndP hp hu k⟩
  .obtain⟨c,e⟩:=YN (n:=s.heap.objs.size+1) k;refine .inr ⟨.inl k,c,e,?_⟩;have q:=x.cell y c e;rw[Y2 ndP hp hu (by show scope.names.lookup y≠_;rw[k];decide)]at q
   exact q
 .exact e0.hok.fresh (yeh (x.above y c (ybu h)))
 .unfold start;show _=N.length;rw[yac,ya1,ydn]
  omega
theorem fn_of{K:k9}{k:Nat}{name qual:Str}{params:Arguments}{scope:Scope}{dV kV doc pm cdv ct oc:Value}{an od:Option Addr}{osl:Array (Option Value)}{N:List Str}{sp:Sp}(lk:K.lookup f=some ⟨oc,od,.func (PySem.W.fnOf name qual params body scope dV kV doc pm an cdv ct),osl⟩)(hcd:PySem.W.codeIn K cdv qual=true)(S:FnScope N ps scope)(len:∀vs H Q E,sp vs H Q E->vs.length=ps.length)(hbody:∀(A:Around) (outer:List Env) (s:Shared) (H:Hp) (vs:List V) (Q:VK) (E:XK),Room k (A.deeper (envOfC qual scope s.heap.objs.size f cdv))->sp vs H Q E ->
   ∃t,BY (FA CX P w K mg base N qual scope f cdv A outer s H E) body t/\t { nx:=λ_ H'=>Q .non H',rt:=Q } (start N vs) H) :
  FnOk P w K mg base CX (k+1) f (PySem.W.fnOf name qual params body scope dV kV doc pm an cdv ct) ps sp:=by
 refine⟨len,λA outer s H args us vs Q E hr e0 hb r hsp=>?_⟩
 have hl:=len _ _ _ _ hsp;have KX:K.In s.heap:=e0.mod.kin.keeps λb o e=>(e0.bs b o e).1
 have BP:s.heap.NoLimit:=e0.mod.nolimit.keeps λb o e=>(e0.bs b o e).1
 have hkind:∀y∈ps.zip us,scope.names.lookup y.1=some .local\/(scope.names.lookup y.1=some .cell/\((cellsFrom (s.heap.objs.size+1) scope.names []).lookup y.1).isSome=true):=λ⟨n,v⟩ hy=>by
  rcases S.par n (yct hy).1 with q|q
  .exact .inl q
  .exact .inr ⟨q,PySem.W.cellsFrom_some _ _ _ (.inl q)⟩
 refine codeAny_call_function hr.depth (KX _ _ lk) rfl S.co S.gen rfl (PySem.W.codeRec_of KX hcd) (hb _ _ _ _ ?_);refine wpAny_newFunctionEnv_cells S.kind hkind λenv he s1 x=>?_
 subst he;refine⟨BP.keeps x.toInCall.keep,codeAny_func ?_⟩;obtain⟨t,ht,hq⟩:=hbody A outer s H vs Q E (hr.deeper _) hsp;have I:Inv (FA CX P w K mg base N qual scope f cdv A outer s H E) [] (start N vs) H s1:=zf2 S hr.hd e0 hl r x;refine yep (ht [] s1 (start N vs) H _ I hq) (λfl s' hs=>?_) λe s' hs=>hs
 have BE:∀{σ':St} {H':Hp} {v:V} {u:Value},Inv (FA CX P w K mg base N qual scope f cdv A outer s H E) [] σ' H' s'->RelV v u->Q v H'->CE outer P w H s Q u s' :=
  λ{σ' H' v u} J rv q=>⟨v,H',J.os,J.bare,J.base,J.hok,rv,q⟩
 cases fl with
 |ret u =>
  obtain⟨v,σ',H',J,rv,q⟩:=hs;exact BE J rv q
 |next =>
  obtain⟨σ',H',J,q⟩:=hs;exact BE (v:=V.non) (u:=Value.none) J rfl q
 |brk =>
  obtain⟨_,_,_,q⟩:=hs;exact False.elim q
 |cont =>
  obtain⟨_,_,_,q⟩:=hs;exact False.elim q
section
variable {p:Pos}{t:TA}{id T:String}{r:List V->Hp->VK->Prop}
def RP(r:List V->Hp->VK->Prop)(t:TA):TE:=λσ H Q=>t σ H λvs H1=>r vs H1 Q
theorem KY(hc:C4 X (.builtin id) r)(hg:Gl X x)(hm:X.mg x=none)(hv:bootBuiltins x=some (.builtin id))(ha:PA X (e::es) t)(hn:x≠"__name__":=by decide)(hdb:(x == ("__debug__":Str))=false:=by decide)
  (he:starEach (e::es) X.env=(false,eval e X.env)::starEach es X.env:=by rfl) (hpl:(backTo pos (starEach es X.env)).any (·.1)=false:=by rfl):PE X (.Call (.Name x p) (e::es) [] pos) (RP r t):=by
 intro pins s σ H Q I h;refine yf1 (Fw I hg hm hv ?_ hn hdb);exact PyProof.Rows.callWith_builtin1 (AZ (ha pos pins s σ H _ I h) λus s1 ⟨vs,H1,I1,r1,q1⟩=>hc pins s1 σ H1 vs us Q I1 r1 q1) he hpl
theorem Tu(hc:C4 X (.type T) r)(hg:Gl X x)(hm:X.mg x=none)(hv:bootBuiltins x=some (.type T))(ha:PA X (e::es) t)(hn:x≠"__name__":=by decide)(hdb:(x == ("__debug__":Str))=false:=by decide)
  (he:starEach (e::es) X.env=(false,eval e X.env)::starEach es X.env:=by rfl) (hpl:(backTo pos (starEach es X.env)).any (·.1)=false:=by rfl):PE X (.Call (.Name x p) (e::es) [] pos) (RP r t):=by
 intro pins s σ H Q I h;refine yf1 (Fw I hg hm hv ?_ hn hdb);exact ybz (AZ (ha pos pins s σ H _ I h) λus s1 ⟨vs,H1,I1,r1,q1⟩=>hc pins s1 σ H1 vs us Q I1 r1 q1) he hpl
end
end L2
namespace HT
open PySem PyProof.Rows
section
open PySem.SeqAt
open PySem.AutoSeq1 (wpAny_loadPart')
open PySem.MeetsSeq PySem.MeetsSeq2 PySem.MeetsSeq3
end
section
variable {prog:Program}{w:World}{A:Around}{E:Value->Shared->Prop}{s:Shared}
noncomputable def sIx(n d:Nat):Option Int->Nat
 |none=>d
 |some v=>if v<0 then (v+(n:Int)).toNat else min v.toNat n
end
end HT
namespace L2
open PySem PySem.Spec PyProof.Rows
variable {X:Cx}{E:Value->Shared->Prop}
abbrev TO:=St->Hp->(Option Int->Hp->Prop)->Prop
def PO(X:Cx)(e:Option Expr)(t:TO):Prop :=
 ∀(pins:List (Addr×Obj)) (s:Shared) (σ:St) (H:Hp) (Q:Option Int->Hp->Prop),Inv X pins σ H s->t σ H Q ->
  wpAny (model X.prog X.w) X.A (evalPart e X.env) (λu s'=>∃o H',Inv X pins σ H' s'/\IsPart u o/\Q o H') X.xe s
def zif:TO:=λ_ H Q=>Q none H
def tPart(t:TE):TO:=λσ H Q=>t σ H λx H1=>∃i,x=.int i/\Q (some i) H1
variable {e:Expr}{te:TE}{pos:Pos}
section
variable {lo hi:Option Expr}{tl th:TO}{p2:Pos}
theorem zj9:PO X none zif:=by
 intro pins s σ H Q I h;rw[evalPart_none];exact yew ⟨none,H,I,.none,h⟩
theorem zj8(h:PE X e te):PO X (some e) (tPart te):=by
 intro pins s σ H Q I hw;rw[evalPart_some];refine AZ (h pins s σ H _ I hw) λu s1 ⟨x,H1,I1,r1,q1⟩=>?_
 obtain⟨i,rfl,q⟩:=q1;obtain⟨t,rfl⟩:=r1;exact⟨some i,H1,I1,.int i t,q⟩
def Q1(X:Cx)(r:V->Option Int->Option Int->Hp->VK->Prop):Prop :=
 ∀(pins:List (Addr×Obj)) (s:Shared) (σ:St) (H:Hp) (x:V) (v vl vu:Value) (lo hi:Option Int) (sl:Addr) (Q:VK),Inv X pins σ H s->RelV x v->s.heap.IsSliceOf sl vl vu .none->IsPart vl lo->IsPart vu hi->r x lo hi H Q ->
  ∃T id,typeLookup (.type T) "__getitem__"=pure (some (.builtin id))/\s.TypeIs v T/\wpAny (model X.prog X.w) X.A (getItem v (.ref sl)) (EP X pins σ Q) X.xe s
def tSl(r:V->Option Int->Option Int->Hp->VK->Prop)(te:TE)(tl th:TO):TE:=λσ H Q=>te σ H λx H1=>tl σ H1 λl H2=>th σ H2 λu H3=>r x l u H3 Q
theorem Tp{r:V->Option Int->Option Int->Hp->VK->Prop}(hr:Q1 X r)(he:PE X e te)(hl:PO X lo tl)(hu:PO X hi th):PE X (.Subscript e (.Slice lo hi none p2) pos) (tSl r te tl th):=by
 intro pins s σ H Q I h;refine Subscript_ (AZ (he pins s σ H _ I h) λv s1 ⟨x,H1,I1,r1,q1⟩=>?_)
 refine wpAny_Slice (AZ (hl pins s1 σ H1 _ I1 q1) λvl s2 ⟨l,H2,I2,pl,q2⟩=>AZ (hu pins s2 σ H2 _ I2 q2) λvu s3 ⟨u,H3,I3,pu,q3⟩=>?_)
 rw[evalPart_none];refine yew ?_;have I4:Inv X pins σ H3 { s3 with heap:=s3.heap.push { cls:=.type "slice",data:=.fields #[vl,vu,.none] } }:=I3.kept (t':=s3.toks) λb ob q=>yaa _ q
 obtain⟨T,id,hT,ht,hg⟩:=hr pins { s3 with heap:=s3.heap.push { cls:=.type "slice",data:=.fields #[vl,vu,.none] } } σ H3 x v vl vu l u s3.heap.objs.size Q I4 r1 (Heap.IsSliceOf.new ..) pl pu q3
 show wpAny (model X.prog X.w) X.A (subscriptTail e (.Slice lo hi none p2) v (.ref s3.heap.objs.size)) (EP X pins σ Q) X.xe { s3 with heap:=s3.heap.push { cls:=.type "slice",data:=.fields #[vl,vu,.none] } }
 exact tail_any (ops:=[.ref s3.heap.objs.size,v]) ht hT hg (by with_unfolding_all rfl)
def Hl(xs:List V)(lo hi:Option Int):List V:=(xs.drop (HT.sIx xs.length 0 lo)).take (HT.sIx xs.length xs.length hi - HT.sIx xs.length 0 lo)
theorem zdb(xs:List V)(lo hi:Option Int):(Hl xs lo hi).length<=xs.length:=by
 unfold Hl;rw[ybi,List.length_drop]
 omega
end
noncomputable def DN(n:Nat)(i:Int):Option Nat:=if 0<=i then (if i<n then some i.toNat else none) else if -(n:Int)<=i then some (i+n).toNat else none
def A8{α:Type}(xs:List α)(i:Int):Option α:=(DN xs.length i).bind λj=>xs[j]?
variable {n:Nat}
theorem Oj{i:Int}{j:Nat}(h:DN n i=some j):seqIndex? i n=some j/\j<n/\-(n:Int)<=i/\i<n:=by
 unfold DN at h
 by_cases h0:0<=i
 .rw[if_pos h0]at h
  by_cases h1:i<n
  .rw[if_pos h1]at h;have e:i.toNat=j:=yao h;exact⟨by rw[seqIndex_of h0 h1,e],by omega,by omega,h1⟩
  .rw[if_neg h1]at h;cases h
 .rw[if_neg h0]at h
  by_cases h1:-(n:Int)<=i
  .rw[if_pos h1]at h;have e:(i+n).toNat=j:=yao h;exact⟨by rw[seqIndex_neg (by omega) h1,e],by omega,h1,by omega⟩
  .rw[if_neg h1]at h;cases h
theorem QZ{α:Type}{xs:List α}{i:Int}{v:α}(h:A8 xs i=some v):∃j,seqIndex? i xs.length=some j/\xs[j]?=some v/\j<xs.length/\-(xs.length:Int)<=i/\i<xs.length:=by
 unfold A8 at h;cases e:DN xs.length i with
 |none=>rw[e]at h;cases h
 |some j =>
  rw[e]at h;obtain⟨h1,h2,h3,h4⟩:=Oj e;exact⟨j,h1,h,h2,h3,h4⟩
theorem CZ{α:Type}{xs:List α}{j:Nat}{v:α}(h:xs[j]?=some v):A8 xs (j:Int)=some v:=by
 have hj:j<xs.length:=(ya6.mp h).1
 have e:DN xs.length (j:Int)=some j:=by
  unfold DN;rw[if_pos (by omega),if_pos (by omega)];simp
 unfold A8;rw[e];exact h
def MH(b:Expr):Prop:=∀o i,subscripted b false o i=operate [o,i] (getItem o i)
def FJ(X:Cx)(r:R2):Prop :=
 ∀(value slice:Expr) (pins:List (Addr×Obj)) (s:Shared) (σ:St) (H:Hp) (x y:V) (v u:Value) (Q:VK),Inv X pins σ H s->RelV x v->RelV y u->r x y H Q ->
  subscripted slice false v u=operate [v,u] (getItem v u)->wpAny (model X.prog X.w) X.A (subscriptTail value slice v u) (EP X pins σ Q) X.xe s
def MtR(X:Cx)(id:String)(r:V->List V->Hp->VK->Prop):Prop :=
 ∀(pins:List (Addr×Obj)) (s:Shared) (σ:St) (H:Hp) (x:V) (xs:List V) (v:Value) (us:List Value) (Q:VK),Inv X pins σ H s->RelV x v->Ab xs us->r x xs H Q ->
  wpAny (model X.prog X.w) X.A (call (.builtin id) (v::us)) (EP X pins σ Q) X.xe s
variable {ta:TE}{r:R2}{pins:List (Addr×Obj)}{σ:St}{H:Hp}{s:Shared}{xs:List V}{its:List Value}{o:Expr}{es:List Expr}{apos:Pos}
section
variable {a b:Expr}{tb:TE}
theorem FJ.or{r':R2}(h:FJ X r)(h':FJ X r'):FJ X (λx y H Q=>r x y H Q\/r' x y H Q):=by
 intro value slice pins s σ H x y v u Q I rx ry q hs
 rcases q with q|q
 .exact h value slice pins s σ H x y v u Q I rx ry q hs
 .exact h' value slice pins s σ H x y v u Q I rx ry q hs
theorem Tr(hr:FJ X r)(ha:PE X a ta)(hb:PE X b tb)(hs:MH b):PE X (.Subscript a b pos) (HN r ta tb):=by
 intro pins s σ H Q I h;exact Subscript_ (QY ha hb I h λv u s2 x y H2 I2 rx ry q=>hr a b pins s2 σ H2 x y v u Q I2 rx ry q (hs _ _))
def Td(K:k9):R2:=λx y H Q=>∃p xs i v,x=.ref p/\y=.int i/\A9 K H p xs/\A8 xs i=some v/\Q v H
def Ta(K:k9):R2:=λx y H Q=>∃p xs i v,x=.ref p/\y=.int i/\Bx K H p xs/\A8 xs i=some v/\Q v H
def Tc:R2:=λx y H Q=>∃z i c,x=.str z/\y=.int i/\z.length<=sizeLine/\A8 z.cps.toList i=some c/\Q (.str ⟨#[c]⟩) H
theorem zkd:FJ X (Td X.K):=by
 intro value slice pins s σ H x y v u Q I rx ry h hs;obtain⟨p,xs,i,z,rfl,rfl,hq,he,q⟩:=h;cases rx;obtain⟨t,rfl⟩:=ry;obtain⟨its,r,pl,hz⟩:=I.list hq;obtain⟨j,h1,h2,h3,h4,h5⟩:=QZ he;obtain⟨w,ew,rw'⟩:=r.get h2;have hl:=r.length;have hn:=Ip;have BE:EP X pins σ Q w s:=⟨z,H,I,rw',q⟩
 by_cases h0:0<=i
 .have hj:i.toNat=j:=by
   rw[seqIndex_of h0 h5]at h1;exact yao h1
  exact item_listR pl.isList h0 (by omega) (by rw[hj];simpa using ew) BE hs
 .have hj:(i+(its.toArray.size:Int)).toNat=j:=by
   rw[seqIndex_neg (by omega) h4]at h1
   rw[yam,<- hl];exact yao h1
  exact subscriptTail_builtinR (x:=w) pl.isList.typeIs slot_list_getitem.lookup
   (wpAny_getItem_list_neg (Q:=λr s'=>r=w/\EP X pins σ Q r s') pl.isList (by omega) (by rw[yam]<;>omega) (by omega) (by rw[hj];simpa using ew) ⟨rfl,BE⟩) hs
theorem znx:FJ X (Ta X.K):=by
 intro value slice pins s σ H x y v u Q I rx ry h hs;obtain⟨p,xs,i,z,rfl,rfl,hq,he,q⟩:=h;cases rx;obtain⟨t,rfl⟩:=ry;obtain⟨its,r,pl,hz⟩:=I.tuple hq;obtain⟨j,h1,h2,h3,h4,h5⟩:=QZ he;obtain⟨w,ew,rw'⟩:=r.get h2;have hl:=r.length;have hn:=Ip;have BE:EP X pins σ Q w s:=⟨z,H,I,rw',q⟩
 exact subscriptTail_builtinR (x:=w) pl.typeIs slot_tuple_getitem.lookup
  (getItem_tuple (j:=j) (Q:=λr s'=>r=w/\EP X pins σ Q r s') pl (by omega) (by omega) (by rw[yam,<- hl];exact h1) (by simpa using ew) ⟨rfl,BE⟩) hs
theorem zny:FJ X Tc:=by
 intro value slice pins s σ H x y v u Q I rx ry h hs;obtain⟨z,i,c,rfl,rfl,hz,he,q⟩:=h;obtain⟨t,rfl⟩:=rx;obtain⟨t',rfl⟩:=ry;obtain⟨j,h1,h2,h3,h4,h5⟩:=QZ he;have hl:z.cps.toList.length=z.length:=by simp[Str.length]
 rw[hl]at h1 h4 h5;have hn:=Ip
 exact tail_any (yf2 s z t) slot_str_getitem.lookup (getItem_str (c:=c) (by
  have e1:decide (i < -(2 ^ 63:Int))=false:=yeo (by omega)
  have e2:decide (i ≥ 2 ^ 63)=false:=yeo (by omega)
  rw[e1,e2,yd0]) (by rw[h1];simpa using h2) ⟨.str ⟨#[c]⟩,H,I.tok _,⟨_,rfl⟩,q⟩) hs
def Te(K:k9):R2:=λx y H Q=>Td K x y H Q\/Ta K x y H Q\/Tc x y H Q
theorem znz:FJ X (Te X.K):=zkd.or (znx.or zny)
theorem zds(its:List Value)(n j:Nat)(u:Value):Obj.mapSeq (·.setIfInBounds j u) { cls:=.type "list",data:=.seq its.toArray n }={ cls:=.type "list",data:=.seq (its.set j u).toArray n }:=by
 simp[Obj.mapSeq]
theorem Inv.lst{pins:List (Addr×Obj)}{σ:St}{H:Hp}{s:Shared}{p:Addr}{xs:List V}(I:Inv X pins σ H s)(h:H p=some (.lst xs)) :
  ∃(its:List Value) (n:Nat),Ab xs its/\s.heap.get? p=some { cls:=.type "list",data:=.seq its.toArray n }/\xs.length<=sizeLine:=by
 obtain⟨z,its,n,r,e⟩:=I.hok p _ h;exact⟨its,n,r,e,z⟩
theorem Inv.lstUpd{p:Addr}{ys:List V}{its':List Value}{n':Nat}{f:Obj->Obj}(I:Inv X pins σ H s)(h:H p=some (.lst xs))(ho:s.heap.get? p=some { cls:=.type "list",data:=.seq its.toArray n })(hf:f { cls:=.type "list",data:=.seq its.toArray n }={ cls:=.type "list",data:=.seq its'.toArray n' })(r:Ab ys its')(hz:ys.length<=sizeLine)(t:Nat) :
  Inv X pins σ (upd H p (.lst ys)) { s with heap:=s.heap.update p f,toks:=t }:=by
 have e:(s.heap.update p f).get? p=some { cls:=.type "list",data:=.seq its'.toArray n' }:=by
  rw[ycw f ho (by rw[hf]<;>rfl),hf]
 refine I.write (x:=p) (e:=p) (by rw[h];trivial) (.inl rfl) (λb u hb q=>(ybo _ _ (ybc hb)).trans q) ⟨_,e⟩ ?_
 exact⟨hz,its',n',r,e⟩
def rSetL:V->V->V->Hp->(Hp->Prop)->Prop:=λo i v H Q=>∃p xs k j,o=.ref p/\i=.int k/\H p=some (.lst xs)/\DN xs.length k=some j/\Q (upd H p (.lst (xs.set j v)))
theorem zgf:Q3 X rSetL:=by
 intro pins s σ H o i v ov iv u Q I ro ri rv h;obtain⟨p,xs,k,j,rfl,rfl,hp,hj,q⟩:=h;cases ro;obtain⟨t,rfl⟩:=ri;obtain⟨its,n,r,ho,hz⟩:=I.lst hp;obtain⟨h1,h2,h3,h4⟩:=Oj hj;have hl:=r.length;have hn:=Ip
 have I':Inv X pins σ (upd H p (.lst (xs.set j v))) { s with heap:=s.heap.update p (Obj.mapSeq (·.setIfInBounds j u)) } :=
  I.lstUpd hp ho (zds its n j u) (r.set rv j) (by rw[yci];exact hz) s.toks
 by_cases h0:0<=k
 .have hk:k.toNat=j:=by
   rw[seqIndex_of h0 h4]at h1;exact yao h1
  exact PySem.W.ki_setAt ho h0 (by omega) (by rw[yam,<- hl];exact h4) (by rw[hk];exact⟨_,I',q⟩)
 .have hk:(k+(its.toArray.size:Int)).toNat=j:=by
   rw[seqIndex_neg (by omega) h3]at h1
   rw[yam,<- hl];exact yao h1
  exact PySem.W.ki_setBack ho (by omega) (by rw[yam,<- hl];exact h3) (by omega) (by rw[hk];exact⟨_,I',q⟩)
theorem zc2(lo hi:Option Int)(n:Nat):(sliceBounds lo hi none n).1=((HT.sIx n 0 lo:Nat):Int)/\(sliceBounds lo hi none n).2.1=((HT.sIx n n hi:Nat):Int)/\(sliceBounds lo hi none n).2.2=1:=by
 refine⟨?_,?_,rfl⟩
 .cases lo with
  |none=>simp[sliceBounds,HT.sIx]
  |some i =>
   simp only[sliceBounds,HT.sIx,Option.getD_none,show(1:Int) > 0 by decide,yf3]
   by_cases h:i<0
   .simp only[h,yf3]<;>omega
   .simp only[h,yf4]<;>omega
 .cases hi with
  |none=>simp[sliceBounds,HT.sIx]
  |some i =>
   simp only[sliceBounds,HT.sIx,Option.getD_none,show(1:Int) > 0 by decide,yf3]
   by_cases h:i<0
   .simp only[h,yf3]<;>omega
   .simp only[h,yf4]<;>omega
theorem zbk(its:List Value)(lo hi:Option Int):slicePick its.toArray lo hi none=((its.drop (HT.sIx its.length 0 lo)).take (HT.sIx its.length its.length hi - HT.sIx its.length 0 lo)).toArray:=by
 obtain⟨h1,h2,h3⟩:=zc2 lo hi its.toArray.size;unfold slicePick;rw[h1,h2,h3];simp only[sliceRange_one,pick_run,yam]<;>rfl
def T9(K:k9):V->Option Int->Option Int->Hp->VK->Prop:=λx lo hi H Q=>∃a xs,x=.ref a/\A9 K H a xs/\∀p,H p=none->Q (.ref p) (upd H p (.lst (Hl xs lo hi)))
theorem zil:Q1 X (T9 X.K):=by
 intro pins s σ H x v vl vu lo hi sl Q I rx hs pl pu h;obtain⟨a,xs,rfl,hx,q⟩:=h;cases rx;obtain⟨its,r,ht,hz⟩:=I.list hx;have hlen:=r.length;refine⟨"list",_,slot_list_getitem.lookup,ht.isList.typeIs,?_⟩;refine wpAny_getItem_list_slice ht.isList hs pl pu .none (by simp) ?_ (by rw[yam]<;>omega)
 rw[zbk,<- hlen];refine⟨.ref s.heap.objs.size,_,I.laid (t':=s.toks) (o:=.lst (Hl xs lo hi)) (λb ob q=>yaa _ q) (yae _) ?_,rfl,q _ (I.hok.fresh (yae _))⟩
 exact⟨yak (zdb xs lo hi) hz,_,0,(r.drop (HT.sIx xs.length 0 lo)).take (HT.sIx xs.length xs.length hi - HT.sIx xs.length 0 lo),yaw _ rfl⟩
theorem zco:C4 X (.type "list") (λxs H Q=>∃p ys,xs=[.ref p]/\(A9 X.K H p ys\/Bx X.K H p ys)/\∀l,H l=none->Q (.ref l) (upd H l (.lst ys))):=by
 intro pins s σ H xs us Q I r h;obtain⟨p,ys,rfl,hq,q⟩:=h;obtain⟨u,rfl,rx⟩:=Ek r;cases rx
 have BE:∀(its:List Value),Ab ys its->ys.length<=sizeLine->∀(h':Heap) (c':Nat),(∀b o',s.heap.get? b=some o'->h'.get? b=some o') ->
   h'.get? s.heap.objs.size=some { cls:=.type "list",dict:=none,data:=.seq its.toArray c',slots:=#[] }->EP X pins σ Q (.ref s.heap.objs.size) { s with heap:=h' }:=λits r' hz h' c' kp e =>
  ⟨.ref s.heap.objs.size,_,I.laid (t':=s.toks) kp (yae _) (show Ba X.prog X.w _ h' _ (.lst ys) from⟨hz,its,c',r',e⟩),rfl,q _ (I.hok.fresh (yae _))⟩
 rcases hq with hq|hq
 .obtain⟨its,r',pl,hz⟩:=I.list hq;have hlen:=r'.length;obtain⟨o,ho,hc,n,hd⟩:=pl.isList;exact call_list_seq p (.inl rfl) ho hc hd (λh' c' kp e=>BE its r' hz h' c' kp e) (by simp only[yam]<;>omega)
 .obtain⟨its,r',pl,hz⟩:=I.tuple hq;have hlen:=r'.length;obtain⟨o,ho,hc,n,hd⟩:=pl;exact call_list_seq p (.inr rfl) ho hc hd (λh' c' kp e=>BE its r' hz h' c' kp e) (by simp only[yam]<;>omega)
def Qr(K:k9)(T:String)(x:V)(H:Hp):Prop:=match x with
 |.str _=>T="str"
 |.int _=>T="int"
 |.ref p=>(T="list"/\∃xs,A9 K H p xs)\/(T="tuple"/\∃o,K.lookup p=some o/\o.cls=.type "tuple"/\o.dict=none) \/
   (T="dict"/\((∃kvs,H p=some (.dK kvs))\/∃kvs,H p=some (.dT kvs)))\/(T="set"/\∃S n,H p=some (.set S n))
 |_=>False
theorem zl6{T:String}{x:V}{v:Value}(I:Inv X pins σ H s)(r:RelV x v)(ty:Qr X.K T x H) :
  s.TypeIs v T/\∀a,v=.ref a->∃ob,s.heap.get? a=some ob/\ob.dict=none:=by
 cases x with
 |str z =>
  obtain⟨t,rfl⟩:=r;cases (show T="str" from ty);exact⟨yf2 s z t,λ_ e=>nomatch e⟩
 |int i =>
  obtain⟨t,rfl⟩:=r;cases (show T="int" from ty);exact⟨typeIs_int s i t,λ_ e=>nomatch e⟩
 |ref p =>
  cases r
  rcases ty with ⟨rfl,xs,hq⟩|⟨rfl,o,hk,hc,hd⟩|⟨rfl,hk⟩|⟨rfl,S,n,hk⟩
  .obtain⟨its,_,pl,_⟩:=I.list hq;refine⟨pl.isList.typeIs,λa e=>?_⟩
   cases e;obtain⟨o,n,e,c,hd,_⟩:=pl;exact⟨o,e,hd⟩
  .refine⟨⟨o,I.kIn p o hk,hc⟩,λa e=>?_⟩
   cases e;exact⟨o,I.kIn _ o hk,hd⟩
  .have z:∃o,s.heap.get? p=some o/\o.ExactDict:=by
    rcases hk with ⟨kvs,hk⟩|⟨kvs,hk⟩
    .obtain⟨_,_,_,_,o,_,_,e,ex,_⟩:=I.hok p _ hk;exact⟨o,e,ex⟩
    .obtain⟨_,_,_,_,o,_,_,e,ex,_⟩:=I.hok p _ hk;exact⟨o,e,ex⟩
   obtain⟨o,e,ex⟩:=z;refine⟨⟨o,e,ex.1⟩,λa e2=>?_⟩
   cases e2;exact⟨o,e,ex.2.1⟩
  .obtain⟨o,_,_,_,e,ex,_⟩:=I.hok p _ hk;refine⟨⟨o,e,ex.1⟩,λa e2=>?_⟩
   cases e2;exact⟨o,e,ex.2.1⟩
 |_=>exact False.elim ty
def tBM(K:k9)(T:String)(r:V->List V->Hp->VK->Prop)(to:TE)(t:TA):TE:=λσ H Q=>to σ H λx H1=>Qr K T x H1/\t σ H1 λxs H2=>r x xs H2 Q
variable {to:TE}{t:TA}{name:Str}{cpos:Pos}{T id:String}{r:V->List V->Hp->VK->Prop}
theorem Ig(pa:PlainAttrs T)(slot:Slot T name id)(hty:typeOf (.builtin id)=pure (.type "method_descriptor"))(hm:MtR X id r)(ho:PE X o to)(ha:PA X (e::es) t)
  (hbase:attributeBase o name X.env (eval o X.env)=eval o X.env:=by rfl)
  (hfew : ((backTo cpos (starEach (e :: es) X.env)).all (fun x => !x.1) && (backToKw cpos (keywordEach [] X.env)).all (fun x => x.1.isSome)
   && decide ((e::es).length+([]:List Keyword).length+(if ([]:List Keyword).isEmpty then 0 else 1)<30))=true:=by rfl)
  (hline:(apos.endLine == cpos.line)=true:=by rfl) (hs:starEach (e::es) X.env=(false,eval e X.env)::starEach es X.env:=by rfl) (hplain:(backTo cpos (starEach es X.env)).any (·.1)=false:=by rfl) :
  PE X (.Call (.Attribute o name apos) (e::es) [] cpos) (tBM X.K T r to t):=by
 intro pins s σ H Q I h;refine wpAny_Call_method_late hbase hfew hline rfl (AZ (ho pins s σ H _ I h) λv s1 ⟨x,H1,I1,r1,ty,q1⟩=>?_)
 obtain⟨h1,h2⟩:=zl6 I1 r1 ty;refine⟨T,id,pa,slot,hty,h1,h2,?_⟩;have hA:=ha cpos pins s1 σ H1 _ I1 q1;rw[hs]at hA ⊢;refine Calls.callWith_builtin (by show(false || (backTo cpos (starEach es X.env)).any (·.1))=false;rw[hplain]<;>rfl) (Calls.evalArgs_plain ?_)
 exact AZ hA λus s2 ⟨vs,H2,I2,r2,q2⟩=>hm pins s2 σ H2 x vs v us Q I2 r1 r2 q2
end
def J2(X:Cx)(id:String)(r:V->List V->Hp->VK->Prop):Prop :=
 ∀(pins:List (Addr×Obj)) (s:Shared) (σ:St) (H:Hp) (x:V) (xs:List V) (v:Value) (us:List Value) (Q:VK),Inv X pins σ H s->RelV x v->Ab xs us->r x xs H Q ->
  wpAny (model X.prog X.w) X.A (call (.builtin id) (v::us)) (EP X pins σ Q) X.xe s
theorem Ab.one:∀{x:V} {us:List Value},Ab [x] us->∃u,us=[u]/\RelV x u
 |_,_,.cons r .nil=>⟨_,rfl,r⟩
theorem Ab.rep{xs:List V}{us:List Value}(h:Ab xs us):∀k:Nat,Ab (List.replicate k xs).flatten (List.replicate k us).flatten
 |0=>.nil
 |k+1=>by
  rw[yc1,yc1,ycm,ycm];exact Ab.append h (Ab.rep h k)
theorem Wf(its:List Value):∀(k:Nat) (acc:List Value),
  List.foldl (λx1 x2=>x1++x2) acc.toArray (List.replicate k its.toArray)=(acc++(List.replicate k its).flatten).toArray
 |0,acc=>by simp
 |k+1,acc=>by
  have e:acc.toArray++its.toArray=(acc++its).toArray:=by simp
  have e2:(acc++its)++(List.replicate k its).flatten=acc++(List.replicate (k+1) its).flatten:=by
   rw[yc1,ycm,ybp]
  rw[<- e2,<- Wf its k (acc++its),<- e,yc1,yds]
variable {b:Addr}{t':Nat}
section
variable {l:Addr}{ys zs:List V}
theorem Inv.lset{its':List Value}{f:Array Value->Array Value}(I:Inv X pins σ H s)(hH:H l=some (.lst xs))(e:s.heap.get? l=some { cls:=.type "list",data:=.seq its.toArray n })(hf:f its.toArray=its'.toArray)(hv:Ab ys its')(hz:ys.length<=sizeLine) :
  Inv X pins σ (upd H l (.lst ys)) { s with heap:=s.heap.update l (Obj.mapSeq f),toks:=t' }:=by
 have q:=PySem.IsL.update e f;rw[hf]at q;refine I.write (x:=l) (e:=l) (by rw[hH];exact trivial) (.inl rfl) (λb' u hb hu=>(ybo s.heap (Obj.mapSeq f) (ybc hb)).trans hu) ⟨_,q⟩ ?_
 exact⟨hz,its',_,hv,q⟩
theorem Inv.lnew(I:Inv X pins σ H s)(hv:Ab ys its)(hz:ys.length<=sizeLine) :
  Inv X pins σ (upd H s.heap.objs.size (.lst ys)) { s with heap:=s.heap.push { cls:=.type "list",data:=.seq its.toArray },toks:=t' } :=
 I.laid (λ_ _ q=>yaa _ q) (yae _) ⟨hz,its,0,hv,yaw _ rfl⟩
theorem Inv.fresh(I:Inv X pins σ H s):H s.heap.objs.size=none:=I.hok.fresh (yae _)
theorem Inv.lstM(I:Inv X pins σ H s)(hH:H l=some (.lst xs)):xs.length<=sizeLine/\∃(its:List Value) (n:Nat),Ab xs its/\xs.length=its.length/\s.heap.get? l=some { cls:=.type "list",data:=.seq its.toArray n }:=by
 obtain⟨z,its,n,r,e⟩:=I.hok l _ hH;exact⟨z,its,n,r,r.length,e⟩
theorem VT(h:n<=sizeLine):Builtin.List.listTooLong n=false:=by
 unfold Builtin.List.listTooLong;exact yeo (by omega)
end
section
def ziy:V->List V->Hp->VK->Prop:=λx vs H Q=>∃l xs y,x=.ref l/\vs=[y]/\H l=some (.lst xs)/\xs.length<sizeLine/\Q .non (upd H l (.lst (xs++[y])))
theorem zev:J2 X "list.append" ziy:=by
 intro pins s σ H x vs v us Q I rx rv h;obtain⟨l,xs,y,rfl,rfl,hH,hz,q⟩:=h;cases rx;obtain⟨u,rfl,ru⟩:=rv.one;obtain⟨z,its,n,r,hl,e⟩:=I.lstM hH;refine yf5 F.slot_list_append ⟨_,e,rfl⟩ F.entry_list_append (F.args_list_append_2 _ _) (PySem.list_append l its.toArray n u (by rw[yam];omega)) ⟨e,?_⟩
 refine⟨.non,_,I.lset (its':=its++[u]) hH e (by simp) (r.append (.cons ru .nil)) ?_,rfl,q⟩
 rw[yac,ybg]
 omega
def zix:V->List V->Hp->VK->Prop:=λx vs H Q=>∃l b xs zs,x=.ref l/\vs=[.ref b]/\H l=some (.lst xs)/\H b=some (.lst zs)/\xs.length+zs.length<=sizeLine/\Q .non (upd H l (.lst (xs++zs)))
theorem zeu:J2 X "list.extend" zix:=by
 intro pins s σ H x vs v us Q I rx rv h;obtain⟨l,b,xs,zs,rfl,rfl,hH,hB,hz,q⟩:=h;cases rx;obtain⟨u,rfl,ru⟩:=rv.one;cases ru;obtain⟨z,its,n,r,hl,e⟩:=I.lstM hH;obtain⟨z2,its2,n2,r2,hl2,e2⟩:=I.lstM hB;have hsz:its.toArray.size+its2.toArray.size<=sizeLine:=by rw[yam,yam];omega
 have hlong:¬ (!its.toArray.isEmpty && Builtin.List.listTooLong (its.toArray.size+its2.toArray.size))=true:=by
  rw[VT hsz,Bool.and_false];exact ybf
 refine yf5 F.slot_list_extend ⟨_,e,rfl⟩ F.entry_list_extend (F.args_list_extend_2 _ _)
  (AutoSeq1.list_extend_list_list_0 l its.toArray n b its2.toArray n2 hlong (by rw[yam];omega) (by omega)) ⟨e,e2,?_⟩
 refine⟨.non,_,I.lset (its':=its++its2) hH e (by simp) (r.append r2) ?_,rfl,q⟩
 rw[yac]
 omega
def rCat:R2:=λx y H Q=>∃l b xs zs,x=.ref l/\y=.ref b/\H l=some (.lst xs)/\H b=some (.lst zs)/\xs.length+zs.length<=sizeLine/\∀p,H p=none->Q (.ref p) (upd H p (.lst (xs++zs)))
theorem zn4:Ak X (binaryOp .Add) rCat:=by
 intro pins s σ H x y v u Q I rx ry h;obtain⟨l,b,xs,zs,rfl,rfl,hH,hB,hz,q⟩:=h;cases rx;cases ry;obtain⟨z,its,n,r,hl,e⟩:=I.lstM hH;obtain⟨z2,its2,n2,r2,hl2,e2⟩:=I.lstM hB;refine PySem.P.add_list e e2 ?_ (by rw[yam,yam];omega)
 have ea:its.toArray++its2.toArray=(its++its2).toArray:=by simp
 rw[ea];exact⟨.ref _,_,I.lnew (t':=s.toks) (r.append r2) (by rw[yac];omega),rfl,q _ I.fresh⟩
def rRep:R2:=λx y H Q=>∃l k xs,x=.ref l/\y=.int k/\H l=some (.lst xs)/\-(2 ^ 63)<=k/\k<2 ^ 63/\xs.length * k.toNat<=sizeLine /\
 ∀p,H p=none->Q (.ref p) (upd H p (.lst (List.replicate k.toNat xs).flatten))
theorem zk7{α:Type}(xs:List α)(k:Nat):(List.replicate k xs).flatten.length=k * xs.length:=by
 induction k with
 |zero=>simp
 |succ k ih=>rw[yc1,ycm,yac,ih,Nat.succ_mul,ydt]
theorem zn0:Ak X (binaryOp .Mult) rRep:=by
 intro pins s σ H x y v u Q I rx ry h;obtain⟨l,k,xs,rfl,rfl,hH,h1,h2,hz,q⟩:=h;cases rx;obtain⟨t,rfl⟩:=ry;obtain⟨z,its,n,r,hl,e⟩:=I.lstM hH;have hlen:its.toArray.size * k.toNat<=sizeLine:=by rw[yam,<- hl];exact hz
 have hcap:¬ its.toArray.size * k.toNat > (2 ^ 63 - 1) / 8:=by
  have:(sizeLine:Nat)<=(2 ^ 63 - 1) / 8:=by decide
  omega
 have hfit:¬ (!Builtin.List.listFitsIndex k)=true:=by
  rw[fitsIndex_both h1 h2];exact ybf
 have hlong:¬ Builtin.List.listTooLong (its.toArray.size * k.toNat)=true:=by
  rw[VT hlen];exact ybf
 have hnew:List.foldl (λx1 x2=>x1++x2) #[] (List.replicate (if its.toArray.isEmpty=true then 0 else k.toNat) its.toArray)=(List.replicate k.toNat its).flatten.toArray:=by
  have f0:∀m:Nat,List.foldl (λx1 x2=>x1++x2) #[] (List.replicate m its.toArray)=(List.replicate m its).flatten.toArray:=λm=>by
   have:=Wf its m [];rw[ybm]at this;exact this
  rw[f0];cases its with
  |nil=>simp
  |cons a r'=>rw[if_neg (by simp)]
 refine wpAny_binaryOp_repeat_ref (T:="list") (U:="int") (by decide) ⟨_,e,rfl⟩ (λs'=>typeIs_int s' k t) noFill_list_mul F.fills_int_mul F.slot_int_rmul repeat_list F.slot_int_index.lookup
  (yf5 F.slot_int_rmul (typeIs_int s k t) F.entry_int_rmul (F.args_int_rmul_2 _ _) (int___rmul___int_list k t l its.toArray n)
   ⟨e,rfl,⟨_,e,rfl⟩,yf5 F.slot_list_mul ⟨_,e,rfl⟩ F.entry_list_mul (F.args_list_mul_2 _ _) (AutoListH.list___mul___list_int_3 l its.toArray n k t hfit hcap hlong) ⟨e,?_⟩⟩)
 rw[hnew];exact⟨.ref _,_,I.lnew (t':=s.toks) (r.rep k.toNat) (by rw[zk7,Nat.mul_comm];exact hz),rfl,q _ I.fresh⟩
end
variable {prog:Program}{w:World}{A:Around}
section
end
section
end
end L2
namespace Att
open PySem PySem.W PySem.Calls PyProof.Rows
theorem zan{P:Params}{h:Heap}:∀(ns:List Int) (vs:List Value),WellAll P h vs (ns.map WData.int)->IntsAre vs ns:=by
 intro ns
 induction ns with
 |nil =>
  intro vs w;rw[yc6]at w;cases w;exact .nil
 |cons n ns ih =>
  intro vs w;rw[yad]at w;cases w with
  |cons a b =>
   cases a;exact .cons _ _ (ih _ b)
theorem zel{l:OpenLaw}{n:Nat}(hn:l.most=some n){P:Params}{h:Heap}{args:List WData}{vals:List Value}
  (hpre:l.row.toRowW.claim.pre args=true) (hwl:WellAll P h vals args) :
  ∃a vs ns,vals=[Value.ref a]/\args=[WData.list (ns.map WData.int)]/\h.get? a=some { cls:=.type "list",data:=.seq vs.toArray }/\IntsAre vs ns/\ns.length<=n:=by
 have hsh:WShape.hasAll [] args [.list .int]=true:=(pre_splitW hpre).1;have hc:l.pre.holds [] { args:=args }=true:=(pre_splitW hpre).2;obtain⟨d,r,rfl,h1,h2⟩:=hasAllW_cons hsh;obtain rfl:=hasAllW_nil h2;obtain⟨xs,rfl,h3⟩:=hasW_list h1;obtain⟨ns,rfl⟩:=items_int h3
 have hlen:ns.length<=n:=by
  unfold OpenLaw.pre at hc
  have h4:(WTm.not (.lt (.lit (.int (n:Int))) (.len (.arg 0)))).holds [] { args:=[.list (ns.map .int)] }=true:=by
   have h4:=(holds_andW hc).1;rw[hn]at h4;exact h4
  have h5:=condW_of h4 (w_not (w_lt w_lit (w_len_list (w_arg rfl))));rw[ya1]at h5;refine Nat.le_of_not_lt λq=>?_
  have q':(n:Int)<((ns.length:Nat):Int):=by omega
  first
   |(rw[yf6 q']at h5;exact absurd h5 (by decide))
   |(simp at h5;omega)
 cases hwl with
 |cons w1 w2 =>
  cases w2;cases w1 with
  |list ho hall=>exact⟨_,_,ns,rfl,rfl,ho,zan ns _ hall,hlen⟩
theorem zeo(l:OpenLaw)(args:List WData):l.row.toRowW.claim.post args (.bool true) args=true :=
 postW_of (r:=l.row.toRowW) (X:=(true == true))
  (show WShape.has [] (.bool true) .bool=true by first|rfl|decide|simp[WShape.has,WShape.arms,WShape.armsAll])
  (show(WTm.eq .res (.lit (.bool true))).value [] { args:=args,res:=some (.bool true),after:=args }=some (.bool (true == true)) from w_eq_bool (w_res rfl) w_lit) rfl
theorem attach_call{l:OpenLaw}{n:Nat}{q:Program}{loose:List Str}{XP:(Str->Option Value)->Heap->Prop}{YP:World->Heap->Prop}{d:DefRec}
  (hn:l.most=some n) (hdf:d.params.defaults=[])
  (call : ∀ (w : World) (s₀ s₁ : Shared) (mg mb : Str -> Option Value) (fa : Addr) (o : Obj) (pm cd doc : Value) (a : Addr) (vs : List Value) (ns : List Int),
   Ground q loose [] XP w s₀ mg mb s₁.heap->YP w s₁.heap ->
   s₁.heap.get? fa=some o->o.data=.func (docDef d.name d.params d.body d.scope pm cd doc)->s₁.heap.CodeRec cd d.name->mg d.name=some (.ref fa) ->
   s₁.heap.get? a=some { cls:=.type "list",data:=.seq vs.toArray }->IntsAre vs ns->ns.length<=n->s₁.gens=#[] ->
   codeAny (model l.prog w) callerA (.call (.ref fa) ⟨[.ref a],[]⟩) (λr s'=>r=.ok (.ret (.bool true))/\OldK s₁.heap s'.heap/\s'.os=s₁.os/\AllBare s'.gens) s₁) :
  WalkO q loose XP YP l.row.toRowW d [] (λf vs=>PySem.call f vs):=by
 intro w s₀ s₁ mg mb G Y fa o pm cd doc dV kV ho hd hcd hD hmg hg args vals as hpre hlay hrd hwl hlo;obtain rfl:dV=.none:=Dflts.none hD hdf;obtain rfl:kV=.none:=Dflts.noKw hD;obtain⟨a,vs,ns,rfl,rfl,hobj,hints,hlen⟩:=zel hn hpre hwl;refine enter_call (yf7 (call w s₀ s₁ mg mb fa o pm cd doc a vs ns G Y ho (fd_plain hd) hcd hmg hobj hints hlen hg) λr s' hq=>?_)
 obtain⟨rfl,h2,h3,h4⟩:=hq;exact⟨.inl ⟨.bool true,.bool true,[],rfl,λ_=>rfl,.bool true,zeo l _,λ_=>⟨List.Pairwise.nil,λ_ hm=>(nomatch hm)⟩⟩,h2,h3,h4⟩
section
variable {prog:Program}{w:World}{A:Around}{E:Value->Shared->Prop}{s:Shared}{K:Frag}
end
end Att
namespace L2
open PySem PySem.Spec PyProof.Rows
variable {X:Cx}{E:Value->Shared->Prop}
theorem Ql:∀{vs:List Value} {ns:List Int},IntsAre vs ns->Ab (ns.map V.int) vs
 |_,_,.nil=>.nil
 |_,_,.cons n t h=>.cons ⟨t,rfl⟩ (Ql h)
def Q4(H:Hp):Prop:=∀b,H b=none\/∃o xs,H b=some (.frz o (.lst xs))
variable {P:Program}{w:World}{mg:Str->Option Value}{CX:GW}{a:Addr}{fd:FuncData}{x:Str}
theorem zhe{K:k9}{mb:Str->Option Value}{k:Nat}{fa:Addr}{sp:Sp}{s₁:Shared}{vs:List Value}{ns:List Int}(KX:K.In s₁.heap)(hns:s₁.heap.Ns mainGlobals mg)(hb:s₁.heap.Ns builtinsNs mb)(hbb:∀x:Str,x≠"__name__"->mb x=bootBuiltins x)(hlim:s₁.heap.NoLimit)(hg:s₁.gens=#[])(ha:s₁.heap.get? a=some { cls:=.type "list",data:=.seq vs.toArray })(hi:IntsAre vs ns)(hl:ns.length<=sizeLine)(hr:Room k callerA)(F:∀base:Heap,K.In base->base.Ns mainGlobals mg->FnOk P w K mg base CX k fa fd [x] sp)(hbind:∀(s:Shared) (u:Value),BindsTo s fd ⟨[u],[]⟩ [(x,u)])(hsp:∀H:Hp,Q4 H->A9 K H a (ns.map V.int)->sp [.ref a] H (λv _=>v=.bl true) λ_ _ _=>False)(hCX:∀H e s',CX [] H s₁ (λ_ _ _=>False) e s'->False) :
  codeAny (model P w) callerA (.call (.ref fa) ⟨[.ref a],[]⟩) (λr s'=>r=.ok (.ret (.bool true))/\OldK s₁.heap s'.heap/\s'.os=s₁.os/\AllBare s'.gens) s₁:=by
 have rv:=Ql hi;have lenV:=hi.length
 have core:∀H:Hp,Q4 H->A9 K H a (ns.map V.int)->HOk P w H s₁.heap->(∀b,H b≠none->b=a)->(H a≠none->K.lookup a=none) ->
   codeAny (model P w) callerA (.call (.ref fa) ⟨[.ref a],[]⟩) (λr s'=>r=.ok (.ret (.bool true))/\OldK s₁.heap s'.heap/\s'.os=s₁.os/\AllBare s'.gens) s₁:=by
  intro H hO hS hok hA hK;have base_of:∀{b:Addr} {o:Obj},s₁.heap.get? b=some o->H b=none->(F7 s₁.heap H).get? b=some o:=λe n=>zhh e n
  have noA:∀{b:Addr} {o:Obj} {es:Array DictEntry} {ep:Nat},s₁.heap.get? b=some o->o.data=.dict es ep->H b=none:=λ{b o es ep} e d=>by
   cases q:H b with
   |none=>rfl
   |some u =>
    have e':b=a:=hA b (by rw[q];simp)
    subst e';rw[ha]at e;cases e;have d':Data.seq vs.toArray _=Data.dict es ep:=d;cases d'
  have nsK:∀{b:Addr} {m:Str->Option Value},s₁.heap.Ns b m->(F7 s₁.heap H).Ns b m:=λ{b m} ⟨o,es,ep,e,d,r⟩=>⟨o,es,ep,base_of e (noA e d),d,r⟩
  have hKb:K.In (F7 s₁.heap H):=λb o e=>base_of (KX b o e) (by
   cases q:H b with
   |none=>rfl
   |some u =>
    have e':b=a:=hA b (by rw[q];simp)
    subst e';rw[hK (by rw[q];simp)]at e;cases e)
  have hM:Mod K mg (F7 s₁.heap H):=⟨hKb,nsK hns,⟨mb,nsK hb,hbb⟩,let ⟨mc,h1,h2⟩:=hlim;⟨mc,nsK h1,h2⟩⟩;have e0:Env0 P w K mg (F7 s₁.heap H) callerA [] s₁ H:=⟨rfl,hM,λb o e=>zjt e,Nat.le_of_eq (zf4 _ _),trivial,λb hb=>absurd (show b∈([]:List Addr) from hb) (by simp),hok,.of_eq hg⟩
  refine yf7 ((F _ hKb (nsK hns)).run callerA [] s₁ H ⟨[.ref a],[]⟩ [.ref a] [.ref a] _ _ hr e0 (hbind s₁ (.ref a)) (.cons rfl .nil) (hsp H hO hS)) λr s' h=>?_
  cases r with
  |error e=>exact(hCX H e s' h).elim
  |ok fl =>
   cases fl with
   |next=>exact False.elim h
   |brk=>exact False.elim h
   |cont=>exact False.elim h
   |ret u =>
    obtain⟨v,H',os,bare,un,hok',r',q⟩:=h;have q':v=.bl true:=q;subst q';obtain rfl:u=Value.bool true:=r';refine⟨rfl,OldK.of_keep λb o e=>?_,os,bare⟩
    cases q:H b with
    |none=>exact un.keep b o e q (by intro z;exact absurd (show b∈([]:List Addr) from z) (by simp)) (by simp)
    |some u =>
     rcases hO b with z|⟨ob,xs,z⟩
     .rw[q]at z;cases z
     .have z2:=un.frzs b ob _ z;obtain⟨e1,_⟩:=hok b _ z;obtain⟨e2,_⟩:=hok' b _ z2;rw[e]at e1;cases e1;exact e2
 cases hk:K.lookup a with
 |some o =>
  have e:=KX a o hk;rw[ha]at e;cases e;refine core (λ_=>none) (λ_=>.inl rfl) (.inr ⟨_,vs.toArray,_,hk,rfl,rfl,rfl,by rw[yam,lenV];exact hl,by simpa using rv⟩) (λb u z=>by have z':(none:Option HO)=some u:=z;cases z') (λb z=>absurd rfl z) λz=>absurd rfl z
 |none =>
  refine core (λb=>if b=a then some (.frz { cls:=.type "list",data:=.seq vs.toArray } (.lst (ns.map V.int))) else none) (λb=>?_) (.inl (.inr ⟨{ cls:=.type "list",data:=.seq vs.toArray },if_pos rfl⟩)) (λb u z=>?_) (λb z=>?_) λ_=>hk
  .by_cases hb:b=a
   .exact .inr ⟨_,_,if_pos hb⟩
   .exact .inl (if_neg hb)
  .by_cases hb:b=a
   .have z':=(if_pos hb).symm.trans z;cases z';subst hb;exact⟨ha,by rw[ya1];exact hl,vs,_,rv,ha⟩
   .have z':=(if_neg hb).symm.trans z;cases z'
  .by_cases hb:b=a
   .exact hb
   .exact absurd (if_neg hb) z
variable {n:Nat}
theorem walk_of{l:PySem.W.OpenLaw}{k:Nat}{q:Program}{loose:List Str}{XP:(Str->Option Value)->Heap->Prop}{YP:World->Heap->Prop}{d:DefRec}{K:Params->k9}{CX:World->GW}{sp:World->Sp}(hn:l.most=some n)(hn2:n<=sizeLine)(hdf:d.params.defaults=[])(hr:Room k callerA)(hY:∀(w:World) (h:Heap),YP w h->(K w.params).In h)(F:∀(w:World) (mg:Str->Option Value) (fa:Addr) (h:Heap),(K w.params).In h->h.Ns mainGlobals mg->mg d.name=some (.ref fa) ->
   ∃fd:FuncData,(∀(s:Shared) (u:Value),BindsTo s fd ⟨[u],[]⟩ [(x,u)]) /\
    ∀base:Heap,(K w.params).In base->base.Ns mainGlobals mg->FnOk l.prog w (K w.params) mg base (CX w) k fa fd [x] (sp w)) (hsp:∀(w:World) (H:Hp) (a:Addr) (ns:List Int),ns.length<=n->Q4 H->A9 (K w.params) H a (ns.map V.int)->sp w [.ref a] H (λv _=>v=.bl true) λ_ _ _=>False) (hCX:∀(w:World) (H:Hp) (s:Shared) (e:Value) (s':Shared),CX w [] H s (λ_ _ _=>False) e s'->False) :
  PySem.W.WalkO q loose XP YP l.row.toRowW d [] (λf vs=>PySem.call f vs):=by
 refine Att.attach_call hn hdf λw s₀ s₁ mg mb fa o pm cd doc a vs ns G Y ho hd hcd hmg hobj hints hlen hg=>?_
 have KX:=hY w _ Y;obtain⟨fd,hb,hF⟩:=F w mg fa _ KX G.T.g hmg;exact zhe KX G.T.g G.T.b G.T.builtins G.T.nolimit hg hobj hints (yak hlen hn2) hr hF hb (λH hO hS=>hsp w H a ns hlen hO hS) λH e s'=>hCX w H s₁ e s'
def Hj(s:Stmt):Arguments:=match s with
 |.FunctionDef _ a _ _ _ _ _ _ _ _=>a
 |_=>{ posonlyargs:=[],args:=[],vararg:=none,kwonlyargs:=[],kw_defaults:=[],kwarg:=none,defaults:=[] }
def Ez(s:Stmt):List Stmt:=match s with
 |.FunctionDef _ _ b _ _ _ _ _ _ _=>b
 |_=>[]
noncomputable def A2(s:Stmt):Scope:=match s with
 |.FunctionDef _ _ _ _ _ _ sc _ _ _=>sc
 |_=>{ kind:=.function,names:=[],isGenerator:=false,isCoroutine:=false }
abbrev J5:GW:=λ_ _ _ _ _ _=>False
abbrev E0:XK:=λ_ _ _=>False
variable {base:Heap}
section
variable {K:k9}
end
section
end
theorem Iv{A B:Prop}(h:B):if false=true then A else B:=by
 rw[if_neg ybf];exact h
theorem Iu{A B:Prop}(h:A):if true=true then A else B:=by
 rw[if_pos rfl];exact h
def A7(H H':Hp):Prop:=∀b o,H b=some o->H' b=some o
theorem A7.refl(H:Hp):A7 H H:=λ_ _ h=>h
variable {H:Hp}
theorem A7.trans{H1 H2:Hp}(a:A7 H H1)(b:A7 H1 H2):A7 H H2:=λc o h=>b c o (a c o h)
variable {H':Hp}{xs:List V}
theorem A7.seq{K:k9}(e:A7 H H')(h:A9 K H a xs):A9 K H' a xs:=by
 rcases h with (h|⟨o,h⟩)|h
 .exact .inl (.inl (e _ _ h))
 .exact .inl (.inr ⟨o,e _ _ h⟩)
 .exact .inr h
variable {y:V}{u:Value}
section
variable {κ:Type} [DecidableEq κ]
noncomputable def Dh(kvs:List (κ×V))(k:κ):Option V:=(kvs.find? λkv=>decide (kv.1=k)).map (·.2)
noncomputable def Dn(kvs:List (κ×V))(k:κ)(v:V):List (κ×V) :=
 if (kvs.any λkv=>decide (kv.1=k))=true then kvs.map (λkv=>if kv.1=k then (kv.1,v) else kv) else kvs++[(k,v)]
theorem Jl{p:κ×V}{r:List (κ×V)}{k:κ}(e:p.1=k):Dh (p::r) k=some p.2:=by simp[Dh,ycj,e]
theorem Jm{p:κ×V}{r:List (κ×V)}{k:κ}(e:¬ p.1=k):Dh (p::r) k=Dh r k:=by simp[Dh,ycj,e]
theorem Qn(k:κ):∀kvs:List (κ×V),(kvs.any λkv=>decide (kv.1=k))=(Dh kvs k).isSome
 |[]=>rfl
 |p::r=>by
  rw[ydj]
  by_cases e:p.1=k
  .simp only[Jl e,yf6 e,ydu,Option.isSome_some]
  .rw[Jm e,yeo e,ye9];exact Qn k r
theorem Vp(kvs:List (κ×V))(k:κ)(v:V):(Dn kvs k v).length<=kvs.length+1:=by
 unfold Dn;split
 .rw[ya1];omega
 .rw[yac,yaj,yb0];omega
theorem DQ.isSome_eq{o:Option V}{u:Option Value}(r:DQ o u):o.isSome=u.isSome:=by
 cases o with
 |none=>cases u with
  |none=>rfl
  |some _=>exact(show False from r).elim
 |some _=>cases u with
  |none=>exact(show False from r).elim
  |some _=>rfl
theorem KV.val{kvs:List (κ×V)}{vs:List (κ×Value)}(r:KV kvs vs)(k:κ):DQ (Dh kvs k) (valueAt vs k):=by
 unfold KV at r
 induction r with
 |nil=>exact True.intro
 |@cons p q ps qs h t ih =>
  obtain⟨h1,h2⟩:=h
  by_cases e:p.1=k
  .have e':q.1=k:=h1.symm.trans e;have b:valueAt (q::qs) k=some q.2:=by simp[valueAt,ycj,e']
   rw[Jl e,b];exact h2
  .have e':¬ q.1=k:=λz=>e (h1.trans z)
   have b:valueAt (q::qs) k=valueAt qs k:=by simp[valueAt,ycj,e']
   rw[Jm e,b];exact ih
theorem KV.any{kvs:List (κ×V)}{vs:List (κ×Value)}(r:KV kvs vs)(k:κ):(kvs.any λkv=>decide (kv.1=k))=vs.any λkv=>decide (kv.1=k):=by
 unfold KV at r
 induction r with
 |nil=>rfl
 |cons h t ih=>rw[ydj,ydj,ih,h.1]
theorem KV.repl{kvs:List (κ×V)}{vs:List (κ×Value)}(r:KV kvs vs)(k:κ)(ry:RelV y u) :
  KV (kvs.map λkv=>if kv.1=k then (kv.1,y) else kv) (vs.map λkv=>if kv.1=k then (kv.1,u) else kv):=by
 unfold KV at r ⊢
 induction r with
 |nil=>exact .nil
 |@cons p q ps qs h t ih =>
  rw[yad,yad];refine .cons ?_ ih;obtain⟨h1,h2⟩:=h
  by_cases e:p.1=k
  .rw[if_pos e,if_pos (h1.symm.trans e)];exact⟨h1,ry⟩
  .rw[if_neg e,if_neg (λz=>e (h1.trans z))];exact⟨h1,h2⟩
theorem KV.put{kvs:List (κ×V)}{vs:List (κ×Value)}(r:KV kvs vs)(k:κ)(ry:RelV y u):KV (Dn kvs k y) (stored vs k u):=by
 unfold Dn stored;rw[r.any k]
 by_cases e:(vs.any λkv=>decide (kv.1=k))=true
 .rw[if_pos e,if_pos e];exact r.repl k ry
 .rw[if_neg e,if_neg e];exact Paired.snoc r ⟨rfl,ry⟩
theorem KV.length{kvs:List (κ×V)}{vs:List (κ×Value)}(r:KV kvs vs):kvs.length=vs.length:=ye8 r
end
theorem Og{k:Key}(r:RelV (kV k) u):(Cr P w).is k u=true:=by
 cases k with
 |inl i=>obtain⟨t,e⟩:=(show ∃t,u=Value.int i t from r);subst e;exact zcr P w i t
 |inr x=>obtain⟨t,e⟩:=(show ∃t,u=Value.str x t from r);subst e;exact zcq P w x t
theorem WJ{P:Program}{w:World}:∀{ks:List Key} {us:List Value},Ab (ks.map kV) us->ItemsAre (Cr P w) ks us
 |[],_,r=>by rw[yc6]at r;cases r;exact .nil
 |k::ks,_,r=>by
  rw[yad]at r;cases r with
  |cons h t=>exact .cons (Og h) (WJ t)
abbrev KT(H:Hp):List (List Key×V)->List (List Key×Addr×Value)->Prop:=Paired λp q=>p.1=q.1/\H q.2.1=some (.tup (p.1.map kV))/\RelV p.2 q.2.2
variable {kvs:List (List Key×V)}
theorem KT.val{xs:List (List Key×Addr×Value)}(r:KT H kvs xs)(k:List Key):DQ (Dh kvs k) ((atKey xs k).map (·.2)):=by
 induction r with
 |nil=>exact True.intro
 |@cons p q ps qs h t ih =>
  obtain⟨h1,_,h2⟩:=h
  by_cases e:p.1=k
  .have e':q.1=k:=h1.symm.trans e;have b:atKey (q::qs) k=some q.2:=by simp[atKey,ycj,e']
   rw[Jl e,b];exact h2
  .have e':¬ q.1=k:=λz=>e (h1.trans z)
   have b:atKey (q::qs) k=atKey qs k:=by simp[atKey,ycj,e']
   rw[Jm e,b];exact ih
theorem KT.repl{xs:List (List Key×Addr×Value)}(r:KT H kvs xs)(k:List Key)(ry:RelV y u) :
  KT H (kvs.map λkv=>if kv.1=k then (kv.1,y) else kv) (xs.map (putAt k u)):=by
 induction r with
 |nil=>exact .nil
 |@cons p q ps qs h t ih =>
  rw[yad,yad];refine .cons ?_ ih;obtain⟨h1,h2,h3⟩:=h;unfold putAt
  by_cases e:p.1=k
  .rw[if_pos e,if_pos (h1.symm.trans e)];exact⟨h1,h2,ry⟩
  .rw[if_neg e,if_neg (λz=>e (h1.trans z))];exact⟨h1,h2,h3⟩
variable {b:Addr}
theorem KT.put{xs:List (List Key×Addr×Value)}(r:KT H kvs xs)(k:List Key)(hb:H b=some (.tup (k.map kV)))(ry:RelV y u) :
  KT H (Dn kvs k y) (storedH xs k b u):=by
 have e:(kvs.any λkv=>decide (kv.1=k))=(atKey xs k).isSome:=by
  rw[Qn,(r.val k).isSome_eq,Option.isSome_map]
 unfold Dn storedH;rw[e]
 by_cases q:(atKey xs k).isSome=true
 .rw[if_pos q,if_pos q];exact r.repl k ry
 .rw[if_neg q,if_neg q];exact Paired.snoc r ⟨rfl,hb,ry⟩
theorem KT.keeps{xs:List (List Key×Addr×Value)}(r:KT H kvs xs)(ht:∀b ys,H b=some (.tup ys)->H' b=some (.tup ys)):KT H' kvs xs :=
 Paired.mapP r λ_ _ z=>⟨z.1,ht _ _ z.2.1,z.2.2⟩
variable {h:Heap}
section
theorem TX{u:HO}(ok:HOk P w H h)(e:Rd H a u):Ba P w H h a u:=e.ok ok
theorem Xm{kvs:List (Key×V)}(ok:HOk P w H h)(e:Rd H a (.dK kvs)):kvs.length<=sizeLine/\(a == sysModules)=false/\∃vs,KV kvs vs/\h.DictOf (Cr P w) a vs :=
 show Ba P w H h a (.dK kvs) from TX ok e
theorem Xn{kvs:List (Key×V)}(ok:HOk P w H h)(e:H a=some (.dK kvs)):kvs.length<=sizeLine/\(a == sysModules)=false/\∃vs,KV kvs vs/\h.DictOf (Cr P w) a vs:=Xm ok (.inl e)
theorem Od{ks:List Key}(ok:HOk P w H h)(e:H a=some (.tup (ks.map kV))):(tupleKind (Cr P w)).is h ks a:=by
 obtain⟨_,its,r,o,h1,h2,n,h3⟩:=(show Ba P w H h a (.tup (ks.map kV)) from ok a _ e);exact⟨o,its.toArray,n,h1,h2,h3,by simpa using WJ r⟩
theorem Xk(ok:HOk P w H h)(e:Rd H a (.dT kvs)):kvs.length<=sizeLine/\(a == sysModules)=false /\
  ∃xs,KT H kvs xs/\h.DictOfH (tupleKind (Cr P w)) a xs:=by
 obtain⟨z,y,xs,r,o,es,ep,h1,h2,h3,h4,h5⟩:=(show Ba P w H h a (.dT kvs) from TX ok e);refine⟨z,y,xs,r,o,es,ep,h1,h2,h3,h4,λx hx=>?_,h5⟩
 have all:∀{l:List (List Key×V)} {m:List (List Key×Addr×Value)},KT H l m->∀x∈m,(tupleKind (Cr P w)).is h x.1 x.2.1:=by
  intro l m q
  induction q with
  |nil=>intro x hx;exact nomatch hx
  |@cons p q ps qs hq t ih =>
   intro x hx
   rcases(ya9.mp hx) with e|hx
   .subst e;exact Od ok (by rw[<- hq.1];exact hq.2.1)
   .exact ih x hx
 exact all r x hx
theorem dt_of(ok:HOk P w H h)(e:H a=some (.dT kvs)):kvs.length<=sizeLine/\(a == sysModules)=false /\
  ∃xs,KT H kvs xs/\h.DictOfH (tupleKind (Cr P w)) a xs:=Xk ok (.inl e)
end
def J4(H:Hp)(a:Addr)(y:V)(r:Option V):Prop :=
 (∃kvs k,Rd H a (.dK kvs)/\y=kV k/\r=Dh kvs k)\/∃kvs k b,Rd H a (.dT kvs)/\y=.ref b/\H b=some (.tup (k.map kV))/\r=Dh kvs k
def ML(H:Hp)(a:Addr)(y v:V)(H':Hp):Prop :=
 (∃kvs k,H a=some (.dK kvs)/\y=kV k/\kvs.length<sizeLine/\H'=upd H a (.dK (Dn kvs k v))) \/
 ∃kvs k b,H a=some (.dT kvs)/\y=.ref b/\H b=some (.tup (k.map kV))/\kvs.length<sizeLine/\H'=upd H a (.dT (Dn kvs k v))
theorem J4.k{H:Hp}{a:Addr}{kvs:List (Key×V)}{k:Key}(e:H a=some (.dK kvs)):J4 H a (kV k) (Dh kvs k):=.inl ⟨kvs,k,.inl e,rfl,rfl⟩
theorem ML.k{H:Hp}{a:Addr}{kvs:List (Key×V)}{k:Key}{v:V}(e:H a=some (.dK kvs))(hl:kvs.length<sizeLine):ML H a (kV k) v (upd H a (.dK (Dn kvs k v))):=.inl ⟨kvs,k,e,rfl,hl,rfl⟩
variable {pins:List (Addr×Obj)}{σ:St}{s:Shared}{A:Around}{Q:Value->Shared->Prop}{h':Heap}{t':Nat}
section
variable {v:V}{r:Value}{o:Option V}
theorem Inv.big(I:Inv X pins σ H s):sysModules<s.heap.objs.size:=by
 have h:mainGlobals<s.heap.objs.size:=(I.mod.glob.keeps I.bk).lt;exact ydq (by decide) h
theorem zfo(hu:A.units+1<cLine)(I:Inv X pins σ H s)(g:J4 H a y (some v))(ry:RelV y u)(h:∀w' s',Inv X pins σ H s'->RelV v w'->Q w' s') :
  wpAny (model X.prog X.w) A (getItem (.ref a) u) Q E s:=by
 rcases g with ⟨kvs,k,e,ey,l⟩|⟨kvs,k,b,e,ey,eb,l⟩
 .subst ey;obtain⟨z,hd,vs,rel,dd⟩:=Xm I.hok e;obtain⟨w',hw,rw'⟩:=DQ.some_of (v:=v) (o:=valueAt vs k) (by rw[l];exact rel.val k)
  exact wpAny_getItem_of (Og ry) dd.mapOf hw (h w' _ (I.tok _) rw')
 .subst ey;cases (show u=Value.ref b from ry);obtain⟨z,hd,xs,rel,dd⟩:=Xk I.hok e;obtain⟨w',hw,rw'⟩:=DQ.some_of (v:=v) (o:=(atKey xs k).map (·.2)) (by rw[l];exact rel.val k)
  obtain⟨p,hp,hp2⟩:=yah.mp hw;refine wpAny_getItem_heap (tupleKind_room_in1 hu) (Od I.hok eb) dd hp ?_;rw[hp2];exact h w' _ (I.tok _) rw'
theorem Xs{ob:HO}(I:Inv X pins σ H s)(mu:J1 (H a))(hs:Heap.SameBut a s.heap h')(he:∃q,h'.get? a=some q)(new:Ba X.prog X.w (upd H a ob) h' a ob) :
  Inv X pins σ (upd H a ob) { s with heap:=h',toks:=t' } :=
 I.write (x:=a) (e:=a) mu (.inl rfl) (λb q hb z=>(hs.2 b hb).trans z) he new
theorem zoa{kvs:List (Key×V)}{vs:List (Key×Value)}(z:kvs.length<=sizeLine)(hd:(a == sysModules)=false)(rel:KV kvs vs)(dd:h'.DictOf (Cr P w) a vs) :
  Ba P w H' h' a (.dK kvs):=⟨z,hd,vs,rel,dd⟩
theorem zfn{Q:Unit->Shared->Prop}(hu:A.units+1<cLine)(I:Inv X pins σ H s)(g:ML H a y v H')(ry:RelV y u)(rv:RelV v r)(h:∀s',Inv X pins σ H' s'->Q () s') :
  wpAny (model X.prog X.w) A (setItem (.ref a) u r) Q E s:=by
 rcases g with ⟨kvs,k,e,ey,l,eH⟩|⟨kvs,k,b,e,ey,eb,l,eH⟩
 .subst ey eH;obtain⟨z,hd,vs,rel,dd⟩:=Xn I.hok e;have hz:vs.length<=sizeLine:=by rw[<- rel.length];exact z
  have hl:(Dn kvs k v).length<=sizeLine:=by have:=Vp kvs k v;omega
  refine wpAny_setItem_pairs (hsz:=hz) (Og ry) dd λh' dd' hs=>h _ ?_
  have he:∃q,h'.get? a=some q:=let ⟨q,_,_,hq,_⟩:=dd';⟨q,hq⟩;exact Xs I (by rw[e];exact True.intro) hs he (zoa hl hd (rel.put k rv) dd')
 .subst ey eH;cases (show u=Value.ref b from ry);obtain⟨z,hd,xs,rel,dd⟩:=dt_of I.hok e;have hz:xs.length<=sizeLine:=by rw[<- ye8 rel];exact z
  have hl:(Dn kvs k v).length<=sizeLine:=by have:=Vp kvs k v;omega
  refine wpAny_setItem_heap (hsz:=hz) (tupleKind_room_in1 hu) (Od I.hok eb) dd λh' dd' hs=>h _ ?_
  obtain⟨q,es,ep,hq,h2,h3,h4,_,h5⟩:=dd';refine Xs I (by rw[e];exact True.intro) hs ⟨q,hq⟩ ⟨hl,hd,_,(rel.put k eb rv).keeps λc ys ec=>?_,q,es,ep,hq,h2,h3,h4,h5⟩
  rw[Az (ne_of ec e (λz=>nomatch z))]
  exact ec
end
section
variable {kvs:List (Key×V)}{k:Key}
end
variable {o e:Expr}{pos:Pos}
section
variable {i value:Expr}{pos' tpos:Pos}{td ty tv:TE}
end
theorem zhw(h:Heap)(hb:sysModules<h.objs.size):Ba P w H (h.push { cls:=.type "dict",data:=.dict #[] }) h.objs.size (.dK []) :=
 ⟨ybr _,beq_eq_false_iff_ne.mpr (ybc (yav hb)),[],.nil,Heap.DictOf.new h⟩
section
end
section
variable {d:V}{r:Value}{o:Option V}
end
variable {apos:Pos}
section
variable {f:Expr}{cpos:Pos}{td ty tx:TE}
end
section
variable {kvs:List (Key×V)}
end
section
end
end L2
namespace Zm
theorem zhr(a b:Int):Int.gcd b (a.fmod b)=Int.gcd a b:=by
 rw[Int.fmod_def,Int.gcd_comm a b,yce];exact Int.gcd_sub_mul_right_right b a (a.fdiv b)
variable {b:Int}
theorem fmod_less(a:Int)(h:b≠0):(a.fmod b).natAbs<b.natAbs:=by
 rcases Int.lt_or_gt_of_ne h with hb|hb
 .have e:a.fmod b=-((-a).fmod (-b)):=by rw[Int.neg_fmod_neg,Int.neg_neg]
  have h1:=yb3 (-a) (show 0 < -b by omega)
  have h2:=ybn (-a) (show 0 < -b by omega)
  omega
 .have h1:=yb3 a hb;have h2:=ybn a hb
  omega
noncomputable def gd(a b:Int):Int:=(Int.gcd a b:Nat)
theorem gd_end{a a0 b0:Int}(hg:gd a b=gd a0 b0)(hb:b=0):(if a<0 then -a else a)=gd a0 b0:=by
 subst hb;rw[<- hg];unfold gd;rw[Int.gcd_zero_right];split<;>omega
theorem gd_turn{a a0 b0:Int}(hg:gd a b=gd a0 b0):gd b (a.fmod b)=gd a0 b0:=by
 rw[<- hg];unfold gd;rw[zhr]
theorem gd_abs(a b:Int):gd (if a<0 then -a else a) (if b<0 then -b else b)=gd a b:=by
 unfold gd
 have e1:Int.gcd (if a<0 then -a else a) (if b<0 then -b else b)=Int.gcd a b:=by
  split<;>split<;>simp[Int.gcd_neg,Int.neg_gcd]
 rw[e1]
theorem gd_pos{a:Int}(h:b≠0):0<gd a b:=by
 unfold gd;have:=Int.gcd_pos_of_ne_zero_right a h
 omega
theorem gd_le{a:Int}(h:0<b):gd a b<=b:=by
 unfold gd;exact Int.le_of_dvd h (Int.gcd_dvd_right a b)
def lt(t b:Int):Int:=t.fdiv (gd t b)
def lb(t b:Int):Int:=b.fdiv (gd t b)
theorem X8{x g:Int}(hg:g≠0)(h:g ∣ x):x.fdiv g * g=x:=by
 rw[yce];exact Int.mul_fdiv_cancel' h
theorem lt_mul{t:Int}(h:b≠0):lt t b * gd t b=t:=by
 unfold lt;exact X8 (by have:=gd_pos (a:=t) h;omega) (Int.gcd_dvd_left t b)
theorem lb_mul{t:Int}(h:b≠0):lb t b * gd t b=b:=by
 unfold lb;exact X8 (by have:=gd_pos (a:=t) h;omega) (Int.gcd_dvd_right t b)
theorem lb_pos{t:Int}(h:0<b):0<lb t b:=by
 have h1:=lb_mul (t:=t) (show b≠0 by omega)
 have h2:=gd_pos (a:=t) (show b≠0 by omega)
 rcases Int.lt_or_le 0 (lb t b) with q|q
 .exact q
 .have:=Int.mul_nonpos_of_nonpos_of_nonneg q (Int.le_of_lt h2)
  omega
theorem zee{x g:Int}(h:0<g):x.natAbs<=(x * g).natAbs:=by
 rw[Int.natAbs_mul];exact Nat.le_mul_of_pos_right _ (by omega)
theorem lb_le{t:Int}(h:0<b):lb t b<=b:=by
 have h1:=lb_mul (t:=t) (show b≠0 by omega)
 have h2:=zee (x:=lb t b) (gd_pos (a:=t) (show b≠0 by omega))
 have h3:=lb_pos (t:=t) h
 omega
theorem gd_low{t:Int}(h:b≠0):gd (lt t b) (lb t b)=1:=by
 have hp:=gd_pos (a:=t) h;unfold lt lb gd;have hp':0<Int.gcd t b:=by unfold gd at hp;omega
 have e:=Int.gcd_ediv_gcd_ediv_gcd hp';rw[Int.fdiv_eq_ediv_of_nonneg _ (ye4 _),Int.fdiv_eq_ediv_of_nonneg _ (ye4 _),e]
 rfl
theorem cross{t g T B:Int}(hg:0<g)(ht:T * g=t)(hb:B * g=b):T * b=t * B:=by
 rw[<- ht,<- hb,ycl,yce g B]
end Zm
namespace Zw
open PySem PySem.Spec PyProof.Rows L2
variable {X:Cx}
def Sm(i:Int):Prop:=-(10 ^ 70)<i/\i<10 ^ 70
theorem Sm.nat{i:Int}(h:Sm i):i.natAbs<10 ^ 70:=by
 unfold Sm at h
 omega
theorem zml:10 ^ 70<=2 ^ 300:=by decide +kernel
theorem Sm.log{i:Int}(h:Sm i):i.natAbs.log2<300:=by
 by_cases z:i.natAbs=0
 .rw[z]
  decide
 .exact(Nat.log2_lt z).mpr (yan h.nat zml)
theorem Sm.bits{i:Int}(h:Sm i):Builtin.Int.intBits i<=2 ^ 20:=by
 have q:=h.log;have e20:(2:Nat) ^ 20=1048576:=by decide
 unfold Builtin.Int.intBits;split<;>omega
section
theorem zjl:Ak X (binaryOp .Mult) (rI (λi j=>Sm i/\Sm j) λi j=>.int (i * j)):=Ik λ_ _ _ _ _ _ _ hc q=>mul_int q (.of_bits hc.1.bits hc.2.bits)
theorem zh2:Ak X (binaryOp .FloorDiv) (rI (λ_ j=>j≠0/\Sm j) λi j=>.int (i.fdiv j)) :=
 Ik λ_ _ _ _ _ _ _ hc q=>floordiv_int hc.1 q (.inl (PyProof.noPylong_of_log2 (ydq hc.2.log (by decide))))
theorem WL{x:V}{v:Value}{b:Bool}(r:RelV x v):PySem.plainIs v (.bool b)=true/\(v == Value.bool b)=decide (x=V.bl b):=by
 cases x with
 |non=>cases r;exact⟨rfl,by simp⟩
 |bl c=>cases r;exact⟨rfl,by cases c<;>cases b<;>simp⟩
 |int i=>obtain⟨t,rfl⟩:=r;exact⟨rfl,by simp⟩
 |str i=>obtain⟨t,rfl⟩:=r;exact⟨rfl,by simp⟩
 |byt i=>obtain⟨t,rfl⟩:=r;exact⟨rfl,by simp⟩
 |flt i=>obtain⟨t,rfl⟩:=r;exact⟨rfl,by simp⟩
 |ref i=>cases r;exact⟨rfl,by simp⟩
 |ty i=>cases r;exact⟨rfl,by simp⟩
theorem zn3:Ak X (compareOp .Is) (λx y H Q=>∃b,y=.bl b/\Q (.bl (decide (x=.bl b))) H):=by
 intro pins s σ H x y v u Q I rx ry h;obtain⟨b,rfl,q⟩:=h;cases ry;obtain⟨e1,e2⟩:=WL (b:=b) rx;exact wpAny_is_plain e1 (JE I q e2.symm)
theorem zjk:Ak X (compareOp .IsNot) (λx y H Q=>∃b,y=.bl b/\Q (.bl (!decide (x=.bl b))) H):=by
 intro pins s σ H x y v u Q I rx ry h;obtain⟨b,rfl,q⟩:=h;cases ry;obtain⟨e1,e2⟩:=WL (b:=b) rx;exact wpAny_isNot_plain e1 (JE I q (by rw[e2]))
theorem zi3{c:String}:C4 X (.builtin "isinstance") (λxs H Q=>∃x t b,xs=[x,.ty c]/\TyOf X.K H x t/\PySem.W.kitOne X.K t (.type c)=some b/\Q (.bl b) H):=by
 intro pins s σ H xs us Q I r h;obtain⟨x,t,b,rfl,ty,e,q⟩:=h;obtain⟨u,w',rfl,rx,ry⟩:=IJ r;cases ry;exact Om I rx ty e λtk=>⟨.bl b,H,I.tok _,rfl,q⟩
end
section
end
section
variable {pos:Pos}
end
section
end
theorem zct:PySem.W.kitMeta "int"=true:=by decide +kernel
theorem zc5:PySem.W.kitMeta "bool"=true:=by decide +kernel
theorem zbl:PySem.W.kitMeta "tuple"=true:=by decide +kernel
theorem zhf(K:k9)(c:String):PySem.W.kitOne K (.type c) (.type c)=some true:=by
 unfold PySem.W.kitOne;rw[if_pos (by simp)]
theorem znq(K:k9){t c:String}{l:List Value}{b:Bool}(h:t≠c)(hm:PySem.W.kitMeta c=true)(hl:(fastBuiltinMro t).map (·.contains (Value.type c))=some b):PySem.W.kitOne K (.type t) (.type c)=some b:=by
 unfold PySem.W.kitOne;rw[if_neg (by simpa using h)]
 unfold PySem.W.kitCls;show(if PySem.W.kitMeta c=true then PySem.W.subIn K (.type t) (.type c) else none)=some b
 rw[if_pos hm];exact hl
set_option genInjectivity false in
structure FunD(K:k9)(x qual:Str)(st:Stmt)(f:Addr)(fd:FuncData):Prop where
 ex:∃(oc:Value) (od:Option Addr) (dV kV doc pm:Value) (an:Option Addr) (cdv ct:Value) (osl:Array (Option Value)),
  fd=PySem.W.fnOf x qual (Hj st) (Ez st) (A2 st) dV kV doc pm an cdv ct/\K.lookup f=some ⟨oc,od,.func fd,osl⟩/\PySem.W.codeIn K cdv qual=true
 kp:PySem.W.keepIn K (.ref f)=true
theorem EJ{K:k9}{x qual:Str}{st:Stmt}{f:Addr}{oc:Value}{od an:Option Addr}{osl:Array (Option Value)}{dV kV doc pm cdv ct:Value}(l:K.lookup f=some ⟨oc,od,.func (PySem.W.fnOf x qual (Hj st) (Ez st) (A2 st) dV kV doc pm an cdv ct),osl⟩)
  (c:PySem.W.codeIn K cdv qual=true) (k:PySem.W.keepIn K (.ref f)=true):FunD K x qual st f (PySem.W.fnOf x qual (Hj st) (Ez st) (A2 st) dV kV doc pm an cdv ct):=⟨⟨oc,od,dV,kV,doc,pm,an,cdv,ct,osl,rfl,l,c⟩,k⟩
set_option genInjectivity false in
structure Tx(K:k9)(mg:Str->Option Value)(x:Str)(st:Stmt)(ps:List Str) where
 f:Addr
 fd:FuncData
 F:FunD K x x st f fd
 m:mg x=some (.ref f)
 b:Dg K fd ps []
section
variable {k j:Nat}{x:Str}{ps:List Str}{sp:Sp}{p pos:Pos}{e:Expr}{es:List Expr}{t:TA}
end
theorem KL{H:Hp}{p:Addr}(h:H p=none)(o:HO):A7 H (upd H p o):=λb u q=>by
 rw[Az (C8 q h)];exact q
noncomputable def zoe(X:Cx)(scope:Scope)(cl:List (Str×Addr))(N':List Str)(C:Addr)(s₀:Shared)(H₀:Hp)(ex:List Addr):Cx :=
 { X with N:=N',s₀:=s₀,H₀:=H₀,env:=compEnvC scope cl C X.env,outer:=X.stack,ex:=ex,fn:=λ_=>false,xe:=λ_ _=>False }
theorem HOk.adopt{P:Program}{w:World}{H:Hp}{h:Heap}{a:Addr}{o:HO}(x:HOk P w H h)(hn:H a=none)(new:Ba P w (upd H a o) h a o):HOk P w (upd H a o) h:=λb u e=>by
 by_cases hb:b=a
 .subst hb;rw[Cd]at e;cases e;exact new
 .rw[Az hb]at e;exact(x b u e).stay (λc v _ q=>q) (λc q=>by rw[Az (C8 q hn)];exact q) λc xs q=>by rw[Az (C8 q hn)];exact q
section
variable {elt iter tg:Expr}{scope:Scope}{pos:Pos}{cl:List (Str×Addr)}{N':List Str}{wi:TI}{g:TG}{te:TE}
end
end Zw
namespace Zx
open PySem PySem.Spec PyProof.Rows L2 Zw
variable {X:Cx}{E:L2.St->XK}
def Le(h B:Heap)(a:Addr)(cls fl:Value):Prop :=
 ∃oe vs T oT ts,h.get? a=some oe/\(oe.cls=cls/\vs[2]?=some .none)/\oe.data=.fields vs/\vs[1]?=some (.ref T)/\B.get? T=none/\T≠a/\h.get? T=some oT/\oT.data=.fields ts/\ts[3]?=some fl
def Ej(B:Heap)(l:List Env)(a:Addr)(cls:Value)(h:Heap):Prop:=B.StaysIn h/\B.get? a=none/\h.FunFrames B l/\Le h B a cls .none
def Q9(B:Heap)(l:List Env)(a:Addr)(cls:Value)(L:Addr)(h:Heap):Prop:=B.StaysIn h/\B.get? a=none/\h.FunFrames B l/\Le h B a cls (rawInt L)
variable {B h:Heap}{l:List Env}{a:Addr}{cls:Value}
theorem Ej.first(x:Ej B l a cls h):∃oe vs,h.get? a=some oe/\oe.cls=cls/\oe.data=.fields vs/\vs[2]?=some .none :=
 let ⟨_,_,_,oe,vs,_,_,_,he,hc,hd,_⟩:=x;⟨oe,vs,he,hc.1,hd,hc.2⟩
theorem Ej.there(x:Ej B l a cls h):∃ob,h.get? a=some ob/\ob.cls=cls :=
 let ⟨oe,_,he,hc,_⟩:=x.first;⟨oe,he,hc⟩
variable {A:Around}{s:Shared}
section
variable {M:Model}{E:Value->Shared->Prop}{env v:Env}{L:Addr}{Q:Unit->Shared->Prop}
theorem Xe{oe:Obj}{vs:Array Value}{head:Value}{hn:Bool}(hfr:A.frames=some (v::l))(hl:s.heap.FunFrames B (v::l))(hL:v.frame=some L)(he:s.heap.get? a=some oe)(hk:B.StaysIn s.heap)(ha:B.get? a=none)
  (hd:oe.data=.fields vs) (hsz:1<vs.size) (h2:vs[2]?=some .none) (h:∀h',Q9 B (v::l) a oe.cls L h'->s.heap.UpToSlots h'->Q () { s with heap:=h' }) :
  wpAny M A (do let f <- frameOf v;let pl <- entryPlaceOf L hn;let b <- EntryCells.newEntry head f .none (rawInt L) .none pl;setField (.ref a) 1 b) Q E s:=by
 have nof:a∉(v::l).filterMap (·.frame):=λz=>by
  obtain⟨_,o,ho,n⟩:=hl.mem z;rw[he]at ho;cases ho;exact n vs hd
 refine yet (wpAny_frameOf_fun hfr hl hL λh1 k1=>?_)
 refine yet (wpAny_entryPlaceOf λpl hpl=>?_)
 unfold EntryCells.newEntry newFields;refine yet (yex ?_ (hpl.sizeOk5 _ _ _ _ _));have e1:h1.get? a=some oe:=(k1.2.1 a nof).trans he;have b1:B.StaysIn h1:=λb o q=>(k1.2.1 b λz=>by rw[(hl.mem z).1]at q;cases q).trans (hk b o q)
 have ne:h1.objs.size≠a:=Nat.ne_of_gt (yaf e1);refine yf8 (yaa _ e1) hd hsz ?_;have hd3:=yd6 hd (·.setIfInBounds 1 (Value.ref h1.objs.size));have kp:∀nw b o,b≠a->h1.get? b=some o->((h1.push nw).update a (Obj.mapFields (·.setIfInBounds 1 (Value.ref h1.objs.size)))).get? b=some o:=λnw b o n q=>(ybo _ _ (ybc n)).trans (yaa _ q)
 have nr:∀b o,s.heap.get? b=some o->(∀ws,o.data≠.fields ws)->b≠a:=λb o q n z=>by
  rw[z,he]at q;cases q;exact n vs hd
 have sm:∀nw,s.heap.UpToSlots ((h1.push nw).update a (Obj.mapFields (·.setIfInBounds 1 (Value.ref h1.objs.size)))):=λnw b o q n=>by
  obtain⟨sl,q1⟩:=k1.2.2 b o q;exact⟨sl,kp nw b _ (nr b o q n) q1⟩
 refine h _ ⟨λb o q=>kp _ b o (λz=>by rw[z,ha]at q;cases q) (b1 b o q),ha,hl.of_keeps λb o q n=>?_,_,_,h1.objs.size,_,_,ycw _ (yaa _ e1) (ydo hd3),⟨Obj.cls_mapFields _ _,?_⟩,hd3,by simp[hsz],b1.fresh,ne,
  (ybo _ _ (ybc ne)).trans (yaw h1 rfl),rfl,?_⟩ (sm _)
 .obtain⟨sl,q1⟩:=sm _ b o q n;exact⟨_,q1,rfl⟩
 .rw[Array.getElem?_setIfInBounds_ne (by decide)]
  exact h2
 .first|(simp;done)|(rcases hpl with rfl|⟨_,_,_,_,_,_,_,rfl⟩<;>simp)
theorem X3{fl:Value}(hk:B.StaysIn s.heap)(ha:B.get? a=none)(hl:s.heap.FunFrames B l)(ht:Le s.heap B a cls fl)(h:∀h',Ej B l a cls h'->s.heap.UpToSlots h'->Q () { s with heap:=h' }):wpAny M A (setFlight (.ref a) none) Q E s:=by
 obtain⟨oe,vs,T,oT,ts,he,hc,hd,g1,nT,Tne,hT,dT,g3⟩:=ht;have s3:3<ts.size:=(yc2.mp g3).1;have oth:∀b,b≠T->(s.heap.update T (Obj.mapFields (·.setIfInBounds 3 ((none:Option Addr).elim Value.none λf=>rawInt f)))).get? b=s.heap.get? b:=λb hb=>ybo _ _ (ybc hb)
 have nr:∀b o,s.heap.get? b=some o->(∀ws,o.data≠.fields ws)->b≠T:=λb o q n z=>by
  rw[z,hT]at q;cases q;exact n ts dT
 unfold setFlight;refine yet (yf9 he hd g1 ?_);rw[if_pos (by simp)]
 exact yf8 hT dT s3 (h _ ⟨λb o q=>(oth b λz=>by rw[z,nT]at q;cases q).trans (hk b o q),ha,hl.of_keeps λb o q n=>⟨o,(oth b (nr b o q n)).trans q,rfl⟩,
  oe,vs,T,_,_,(oth a (ybc Tne)).trans he,hc,hd,g1,nT,Tne,ycw _ hT (ydo (yd6 dT _)),yd6 dT _,by simp[s3]⟩ λb o q n=>⟨o.slots,(oth b (nr b o q n)).trans q⟩)
theorem O9(hh:Q9 B l a cls L s.heap)(hQ:∀h',Ej B l a cls h'->s.heap.UpToSlots h'->Q () { s with heap:=h' }):wpAny M A (setFlight (.ref a) none) Q E s :=
 X3 hh.1 hh.2.1 hh.2.2.1 hh.2.2.2 hQ
theorem zok(hh:Ej B l a cls s.heap)(hQ:∀h',Ej B l a cls h'->s.heap.UpToSlots h'->Q () { s with heap:=h' }):wpAny M A (setFlight (.ref a) none) Q E s :=
 X3 hh.1 hh.2.1 hh.2.2.1 hh.2.2.2 hQ
theorem madeX{args:List Value}(hfr:A.frames=some (v::l))(hL:v.frame=some L)(hk:B.StaysIn h)(hl:h.FunFrames B (v::l))(hx:Heap.MadeExcOf h s.heap a cls args)(hQ:∀h',Ej B l a cls h'->s.heap.UpToSlots h'->Q () { s with heap:=h' }):wpAny M A (leaving v (.ref a)) Q E s:=by
 obtain⟨t,he,_,_⟩:=hx.there
 have fr:B.get? a=none:=by
  cases q:B.get? a with
  |none=>rfl
  |some o =>
   have:=hk a o q;rw[hx.new]at this;cases this
 unfold leaving noteFrame;simp only[hL];refine yet (yet (yf9 (x:=.none) he rfl rfl ?_));rw[if_neg (by simp)]
 refine Xe hfr (hl.of_keeps λb o q _=>⟨o,hx.keeps b o q,rfl⟩) hL he (λb o q=>hx.keeps b o (hk b o q)) fr rfl (by simp) rfl λh1 k1 sm=>O9 (s:={ s with heap:=h1 }) k1 λh2 k2 sm2=>?_
 obtain⟨k1,k2,⟨_,_,k3⟩,k4⟩:=k2;exact hQ h2 ⟨k1,k2,k3,k4⟩ (sm.trans sm2)
end
def HB(B:Heap)(l:List Env)(a:Addr)(cls:Value)(h:Heap):Prop:=∃fl,B.StaysIn h/\B.get? a=none/\h.FunFrames B l/\Le h B a cls fl
theorem X2(x:Ej B l a cls h):HB B l a cls h:=⟨.none,x⟩
section
variable {M:Model}{E:Value->Shared->Prop}{env v:Env}{L:Addr}{Q:Unit->Shared->Prop}
theorem N6(hfr:A.frames=some (v::l))(hv:env.frame=v.frame)(hL:v.frame=some L)(hx:HB B (v::l) a cls s.heap)(hQ:∀h',Q9 B (v::l) a cls L h'->s.heap.UpToSlots h'->Q () { s with heap:=h' }):wpAny M A (noteFrame (.ref a) env) Q E s:=by
 have en:noteFrame (.ref a) env=noteFrame (.ref a) v:=by
  unfold noteFrame PySem.frameOf;rw[hv]
 rw[en];obtain⟨fl,f1,f2,f3,f4⟩:=hx
 by_cases hfl:fl=rawInt L
 .subst hfl;obtain⟨oe,ws,Tb,oT,ts,ha,_,hd,g1,_,_,hT,dT,g3⟩:=id f4;unfold noteFrame;simp only[hL];refine yet (yf9 ha hd g1 ?_);rw[if_pos (by simp)]
  refine yet (yf9 hT dT g3 ?_);rw[if_pos (by simp)]
  exact yew (hQ _ ⟨f1,f2,f3,f4⟩ (.refl _))
 .obtain⟨oe,ws,Tb,oT,ts,ha,⟨rfl,g0⟩,hd,g1,nT,Tne,hT,dT,g3⟩:=f4;have g3s:=(yc2.mp g3).1;have oth:∀b,b≠Tb->(s.heap.update Tb (Obj.mapFields (·.setIfInBounds 3 Value.none))).get? b=s.heap.get? b:=λb hb=>ybo _ _ (ybc hb)
  have nr:∀b o,s.heap.get? b=some o->(∀us,o.data≠.fields us)->b≠Tb:=λb o hb hn z=>by
   rw[z,hT]at hb;cases hb;exact hn ts dT
  unfold noteFrame;simp only[hL];refine yet (yf9 ha hd g1 ?_);rw[if_pos (by simp)]
  refine yet (yf9 hT dT g3 ?_);rw[if_neg (λz=>hfl (beq_iff_eq.mp z))]
  refine yet (yf8 hT dT g3s ?_);refine Xe hfr (f3.of_keeps λb o hb hn=>⟨o,(oth b (nr b o hb hn)).trans hb,rfl⟩) hL ((oth a (ybc Tne)).trans ha) (λb o hb=>(oth b λz=>by rw[z,nT]at hb;cases hb).trans (f1 b o hb)) f2 hd (yc2.mp g1).1 g0 λh' k k4=>?_
  exact hQ h' k λb o hb hn=>k4 b o ((oth b (nr b o hb hn)).trans hb) hn
theorem leavX(hfr:A.frames=some (v::l))(hL:v.frame=some L)(hx:HB B (v::l) a cls s.heap)(hQ:∀h',Ej B l a cls h'->s.heap.UpToSlots h'->Q () { s with heap:=h' }):wpAny M A (leaving v (.ref a)) Q E s:=by
 unfold leaving;refine yet (N6 hfr rfl hL hx λh1 hh sm1=>O9 hh λh2 hf sm2=>?_)
 obtain⟨k1,k2,⟨_,_,k3⟩,k4⟩:=hf;exact hQ h2 ⟨k1,k2,k3,k4⟩ (sm1.trans sm2)
end
def Bo(P:Program)(w:World):GW:=λouter H s E e s'=>∃(a:Addr) (cls:Value) (H':Hp) (B:Heap),
 e=.ref a/\s'.os=s.os/\AllBare s'.gens/\Un (BK outer) [] H H' s.heap s'.heap/\HOk P w H' B/\(∀b o,s.heap.get? b=some o->H b=none->b∉BK outer->B.get? b=some o) /\
 (∀b o,s.heap.get? b=some o->b∉BK outer->∃o',B.get? b=some o')/\HB B outer a cls s'.heap/\E cls none H'
def BH(X:Cx)(E:L2.St->XK):Prop:=∀(pins:List (Addr×Obj)) (σ:L2.St) (H:Hp) (s:Shared) (e:Value) (s':Shared),Inv X pins σ H s->Bo X.prog X.w X.stack H s (E σ) e s'->X.xe e s'
def Q5(X:Cx)(E:L2.St->XK):Prop:=∀(pins:List (Addr×Obj)) (σ:L2.St) (H:Hp) (s:Shared) (a:Addr) (cls:Value) (vs:List Value) (h':Heap),Inv X pins σ H s->Heap.MadeExcOf s.heap h' a cls vs->E σ cls none H->X.xe (.ref a) { s with heap:=h' }
variable {pins:List (Addr×Obj)}{H:Hp}
section
variable {σ:L2.St}
theorem K8(I:Inv X pins σ H s){b:Addr}{o:Obj}(e:X.s₀.heap.get? b=some o)(hb:b∉BK X.outer):b∉BK X.stack:=λz=>by
 rcases ya9.mp (I.stkSub b z) with q|q
 .exact absurd (yan (yaf e) I.ok.above) (by rw[q];exact ybd _)
 .exact hb q
theorem zej(hst:X.stack=X.env::X.outer){b:Addr}(hb:b∈BK X.outer):b∈BK X.stack:=by
 rw[hst];obtain⟨v,h1,h2⟩:=ycd.mp hb;exact ycd.mpr ⟨v,ya4 _ h1,h2⟩
theorem zo6(I:Inv X pins σ H s):HOk X.prog X.w H (PySem.W.hideAll s.heap (BK X.stack)):=λb u e=>(I.hok b u e).stay (λc v hc q=>yc9 _ q λz=>by
  have f:=I.stkFree c z
  rcases hc with y|y
  .rw[y,e]at f;cases f
  .rw[y]at f;cases f) (λ_ q=>q) λ_ _ q=>q
theorem zk5(hst:X.stack=X.env::X.outer)(hf:X.env.frame=some X.env.locals)(hex:X.ex=[]){E:XK}{vs:List Value}{h':Heap}{Ex:Value->Shared->Prop}(I:Inv X pins σ H s)(hx:Heap.MadeExcOf s.heap h' a cls vs)(he:E cls none H) :
  wpAny (model X.prog X.w) X.A (leaving X.env (.ref a)) (λ_ s2=>Bo X.prog X.w X.outer X.H₀ X.s₀ E (.ref a) s2) Ex { s with heap:=h' }:=by
 have nex:∀b:Addr,b∉X.ex:=λb z=>by rw[hex]at z;cases z
 have hfr:X.A.frames=some (X.env::X.outer):=hst▸I.ok.frames
 have FF:s.heap.FunFrames (PySem.W.hideAll s.heap (BK X.stack)) (X.env::X.outer):=by
  rw[<- hst];exact PySem.W.funFrames_hide I.stack λv hv b hb=>ycd.mpr ⟨v,hv,hb⟩
 refine madeX (B:=PySem.W.hideAll s.heap (BK X.stack)) (h:=s.heap) (args:=vs) hfr hf (λb o q=>ycs _ q) FF hx λh2 fl sm=>?_
 have kB:∀b o,X.s₀.heap.get? b=some o->X.H₀ b=none->b∉BK X.outer->(PySem.W.hideAll s.heap (BK X.stack)).get? b=some o:=λb o e n hb=>yc9 _ (I.base.keep b o e n hb (nex b)) (K8 I e hb)
 have tB:∀b o,X.s₀.heap.get? b=some o->b∉BK X.outer->∃o',(PySem.W.hideAll s.heap (BK X.stack)).get? b=some o':=λb o e hb=>by
  obtain⟨o',e'⟩:=I.base.there b o e (nex b);exact⟨o',yc9 _ e' (K8 I e hb)⟩
 have sl:∀b o,X.s₀.heap.get? b=some o->X.H₀ b=none->b∈BK X.outer->∃z,h2.get? b=some { o with slots:=z }:=λb o e n hb=>by
  obtain⟨z,e1⟩:=I.base.slot b o e n hb (nex b);obtain⟨_,o2,ho2,hd⟩:=I.funs.mem hb;rw[e1]at ho2;cases ho2;obtain⟨z3,e3⟩:=sm b { o with slots:=z } (hx.keeps b _ e1) hd
  exact⟨z3,e3⟩
 refine⟨a,cls,H,_,rfl,I.os,I.bare,⟨λb o e n hb _=>fl.1 b o (kB b o e n hb),λb o e n hb _=>sl b o e n hb,λb o e n _=>I.base.free b o e n (nex b),λb o e _=>?_,I.base.tups,I.base.frzs,I.base.tbls⟩,zo6 I,kB,tB,X2 fl,he⟩
 by_cases hb:b∈BK X.outer
 .obtain⟨z,q⟩:=sl b o e (I.ok.frf b hb) hb;exact⟨_,q⟩
 .obtain⟨o',q⟩:=tB b o e hb;exact⟨o',fl.1 b o' q⟩
theorem zjh(hst:X.stack=X.env::X.outer)(hf:X.env.frame=some X.env.locals)(hex:X.ex=[]){E:XK}{e:Value}{s':Shared}{Ex:Value->Shared->Prop}(I:Inv X pins σ H s)(h:Bo X.prog X.w X.stack H s E e s') :
  wpAny (model X.prog X.w) X.A (leaving X.env e) (λ_ s2=>Bo X.prog X.w X.outer X.H₀ X.s₀ E e s2) Ex s':=by
 obtain⟨a,cls,H',B,rfl,os,bare,un,hok,kB0,tB0,fl0,he⟩:=h;have nex:∀b:Addr,b∉X.ex:=λb z=>by rw[hex]at z;cases z
 have hfr:X.A.frames=some (X.env::X.outer):=hst▸I.ok.frames;have fl1:HB B (X.env::X.outer) a cls s'.heap:=hst▸fl0;refine leavX hfr hf fl1 λh2 fl sm=>?_
 have kB:∀b o,X.s₀.heap.get? b=some o->X.H₀ b=none->b∉BK X.outer->B.get? b=some o:=λb o e n hb=>kB0 b o (I.base.keep b o e n hb (nex b)) (I.base.free b o e n (nex b)) (K8 I e hb)
 have tB:∀b o,X.s₀.heap.get? b=some o->b∉BK X.outer->∃o',B.get? b=some o':=λb o e hb=>by
  obtain⟨o',e'⟩:=I.base.there b o e (nex b);exact tB0 b o' e' (K8 I e hb)
 have sl:∀b o,X.s₀.heap.get? b=some o->X.H₀ b=none->b∈BK X.outer->∃z,h2.get? b=some { o with slots:=z }:=λb o e n hb=>by
  obtain⟨z,e1⟩:=I.base.slot b o e n hb (nex b);obtain⟨_,o2,ho2,hd⟩:=I.funs.mem hb;rw[e1]at ho2;cases ho2;obtain⟨z2,e2⟩:=un.slot b { o with slots:=z } e1 (I.base.free b o e n (nex b)) (zej hst hb) (by simp)
  obtain⟨z3,e3⟩:=sm b { o with slots:=z2 } e2 hd
  exact⟨z3,e3⟩
 refine⟨a,cls,H',B,rfl,os.trans I.os,bare,⟨λb o e n hb _=>fl.1 b o (kB b o e n hb),λb o e n hb _=>sl b o e n hb,λb o e n _=>?_,λb o e _=>?_,λb xs e=>un.tups b xs (I.base.tups b xs e),λb o u e=>un.frzs b o u (I.base.frzs b o u e),λb ps e=>?_⟩,hok,kB,tB,X2 fl,he⟩
 .obtain⟨o',e'⟩:=I.base.there b o e (nex b);exact un.free b o' e' (I.base.free b o e n (nex b)) (by simp)
 .by_cases hb:b∈BK X.outer
  .obtain⟨z,q⟩:=sl b o e (I.ok.frf b hb) hb;exact⟨_,q⟩
  .obtain⟨o',q⟩:=tB b o e hb;exact⟨o',fl.1 b o' q⟩
 .obtain⟨m1,e1⟩:=I.base.tbls b ps e;obtain⟨m2,e2⟩:=un.tbls b _ e1;exact⟨m1++m2,e2.trans (by rw[Array.append_assoc])⟩
end
section
variable {P:Program}{w:World}{K:k9}{mg:Str->Option Value}{base:Heap}
theorem Tv{N:List Str}{qual:Str}{sc:Scope}{f:Addr}{cd:Value}{outer:List Env}{E:XK}:BH (FA (Bo P w) P w K mg base N qual sc f cd A outer s H E) (λ_=>E) :=
 λ_ _ _ _ _ _ I h=>zjh rfl rfl rfl I h
theorem Vd{N:List Str}{qual:Str}{sc:Scope}{f:Addr}{cd:Value}{outer:List Env}{E:XK}:Q5 (FA (Bo P w) P w K mg base N qual sc f cd A outer s H E) (λ_=>E) :=
 λ_ _ _ _ _ _ _ _ I hx he=>zk5 rfl rfl rfl I hx he
theorem UD{x qual:Str}{st:Stmt}{f:Addr}{fd:FuncData}{N ps:List Str}{k:Nat}{sp:Sp}(F:FunD K x qual st f fd)(S:FnScope N ps (A2 st))(len:∀vs H Q E,sp vs H Q E->vs.length=ps.length)
  (hbody : ∀ (cdv : Value) (A : Around) (outer : List Env) (s : Shared) (H : Hp) (vs : List V) (Q : VK) (E : XK), Room k (A.deeper (envOfC qual (A2 st) s.heap.objs.size f cdv)) -> sp vs H Q E ->
   ∃t,BY (FA (Bo P w) P w K mg base N qual (A2 st) f cdv A outer s H E) (Ez st) t/\t { nx:=λ_ H'=>Q .non H',rt:=Q } (start N vs) H):FnOk P w K mg base (Bo P w) (k+1) f fd ps sp:=by
 obtain⟨oc,od,dV,kV,doc,pm,an,cdv,ct,osl,rfl,lk,hcd⟩:=F.ex;exact fn_of lk hcd S len λA outer s H vs Q E hr hsp=>hbody cdv A outer s H vs Q E hr hsp
end
set_option genInjectivity false in
structure DefX(P:Program)(w:World)(K:k9)(mg:Str->Option Value)(base:Heap)(k:Nat)(x:Str)(ps:List Str)(sp:Sp) where
 f:Addr
 fd:FuncData
 ok:FnOk P w K mg base (Bo P w) k f fd ps sp
 m:mg x=some (.ref f)
 kp:PySem.W.keepIn K (.ref f)=true
 b:Dg K fd ps []
structure DefsX(K:k9)(fd:FuncData)(ps:List Str)(dvs:List V):Prop where
 ex:∃ds,Dg K fd ps ds/\Ab dvs ds
variable {pos:Pos}
section
variable {k j:Nat}{f:Addr}{fd:FuncData}{x:Str}{ps:List Str}{sp:Sp}{p:Pos}{e:Expr}{es:List Expr}{t:TA}{dvs:List V}
theorem KQ{σ:L2.St}{Q:VK}{us ds:List Value}{vs:List V}(F:FnOk X.prog X.w X.K X.mg X.base (Bo X.prog X.w) k f fd ps sp)(hr:Room k X.A)(hb:Dg X.K fd ps ds)(hd:Ab dvs ds)(hx:BH X E)(I:Inv X pins σ H s)(r:Ab vs us)(h:sp (vs++dvs) H Q (E σ)):wpAny (model X.prog X.w) X.A (call (.ref f) us) (EP X pins σ Q) X.xe s:=by
 have r2:Ab (vs++dvs) (us++ds):=r.append hd;have hl:(us++ds).length=ps.length:=r2.length.symm.trans (F.len _ _ _ _ h);refine yfa (yf7 (F.run X.A X.stack s H ⟨us,[]⟩ (us++ds) (vs++dvs) Q (E σ) hr I.env0 (hb s us I.kIn hl) r2 h) λr s' hq=>?_)
 cases r with
 |error v=>exact hx pins σ H s v s' I hq
 |ok fl =>
  cases fl with
  |ret u=>exact I.after hq
  |_=>exact False.elim hq
def Mm(sp:Sp)(dvs:List V)(E:L2.St->XK)(t:TA):TE:=λσ H Q=>t σ H λvs H1=>sp (vs++dvs) H1 Q (E σ)
theorem px(D:DefX X.prog X.w X.K X.mg X.base k x ps sp)(hr:Room j X.A)(hx:BH X E)(ha:PA X (e::es) t)(hk:k<=j:=by decide)(hg:Gl X x:=by rfl)(hdb:(x == ("__debug__":Str))=false:=by decide)
  (he:starEach (e::es) X.env=(false,eval e X.env)::starEach es X.env:=by rfl) (hpl:(backTo pos (starEach es X.env)).any (·.1)=false:=by rfl):PE X (.Call (.Name x p) (e::es) [] pos) (Mm sp [] E t):=by
 intro pins s σ H Q I h;refine yf1 (HZ I hg D.m ?_ hdb);refine yd7 (h₀:=X.base) I.ok.mod.kin D.kp (AZ (ha pos pins s σ H _ I h) λus s1 ⟨vs,H1,I1,r,q⟩=>⟨I1.kIn,?_⟩) he hpl
 exact KQ D.ok (hr.mono hk) D.b .nil hx I1 r q
theorem pxd(D:DefX X.prog X.w X.K X.mg X.base k x ps sp)(DD:DefsX X.K D.fd ps dvs)(hr:Room j X.A)(hx:BH X E)(ha:PA X (e::es) t)(hk:k<=j:=by decide)(hg:Gl X x:=by rfl)(hdb:(x == ("__debug__":Str))=false:=by decide)
  (he:starEach (e::es) X.env=(false,eval e X.env)::starEach es X.env:=by rfl) (hpl:(backTo pos (starEach es X.env)).any (·.1)=false:=by rfl):PE X (.Call (.Name x p) (e::es) [] pos) (Mm sp dvs E t):=by
 intro pins s σ H Q I h;obtain⟨ds,hb,hd⟩:=DD.ex;refine yf1 (HZ I hg D.m ?_ hdb);refine yd7 (h₀:=X.base) I.ok.mod.kin D.kp (AZ (ha pos pins s σ H _ I h) λus s1 ⟨vs,H1,I1,r,q⟩=>⟨I1.kIn,?_⟩) he hpl
 exact KQ D.ok (hr.mono hk) hb hd hx I1 r q
end
noncomputable abbrev Qj:List Value:=[.type "ValueError",.type "Exception",.type "BaseException",.type "object"]
structure ExcK(K:k9)(C:Addr):Prop where
 q:PySem.W.excIn K C Qj "ValueError.__new__"=true
 self:PySem.W.subIn K (.ref C) (.ref C)=some true
 cd:∃cd,PySem.W.clsIn K C=some cd
 ty:PySem.W.typeIn K (.ref C)=some (.type "type")
 ga:PySem.W.findIn K (.ref C) "__getattribute__"=some (some (.builtin "BaseException.__getattribute__"))
 gt:PySem.W.findIn K (.ref C) "__getattr__"=some none
 ca:PySem.W.findIn K (.ref C) "__class__"=some (some (.builtin "object.__class__"))
 ob:PySem.W.mroIn K C (.type "object")=some true
 be:PySem.W.mroIn K C (.type "BaseException")=some true
 gs:PySem.W.specialIn K (.builtin "object.__class__") "__get__"=some (some (.builtin "getset_descriptor.__get__"))
 tk:PySem.W.takesIn K (.builtin "object.__class__")=some true
structure ECls(K:k9)(mg:Str->Option Value)(x:Str) where
 C:Addr
 m:mg x=some (.ref C)
 k:ExcK K C
theorem X9{K:k9}{C:Addr}{bmB:List Value}{newId:String}(X:K.In h)(q:PySem.W.excIn K C bmB newId=true):∃bm N nm qn bs hd sn sub ab col dd k0 k1 k2 k3 k5 mN,
  h.get? C=some (excClassObj nm qn C N bs bm hd sn sub ab col dd k0 k1 k2 k3 k5 newId)/\h.Ns N mN/\mN "__init__"=none/\OwnTail h bmB bm:=by
 unfold PySem.W.excIn at q;split at q
 .rename_i dd cd sl ho;split at q
  .rename_i C2 bm k0 k1 k2 k3 nid k5 hm hs;simp only[ybs,ya7,yfb]at q;obtain⟨⟨⟨⟨⟨z1,z2⟩,hdel⟩,ht⟩,hok⟩,hni⟩:=q;subst z1;subst z2;obtain⟨nm,bs,mro,nsp,qn,hd,sn,sub,ab,col,dl⟩:=cd;dsimp only at hm hok hni hdel;subst hm;subst hdel
   have hsl:sl=#[k0,k1,k2,k3,some (.builtin nid),k5]:=by
    obtain⟨l⟩:=sl;have hs':l=[k0,k1,k2,k3,some (.builtin nid),k5]:=hs;rw[hs']
   subst hsl;exact⟨bm,nsp,nm,qn,bs,hd,sn,sub,ab,col,dd,k0,k1,k2,k3,k5,_,X _ _ ho,.of_isNs (PySem.W.isNs_of_in X hok),PySem.W.nsMap_none_of_in X hok hni,PySem.W.tail_of_in X ht⟩
  .exact absurd q ybf
 .exact absurd q ybf
section
variable {x:Str}{p cpos:Pos}{e:Expr}{es:List Expr}{t:TA}
def zlh(C:Addr)(E:L2.St->XK)(t:TA):TS:=λ_ σ H=>t σ H λvs H1=>vs.length<=sizeLine/\E σ (.ref C) none H1
theorem zgu(T:ECls X.K X.mg x)(hc:X.calm=true)(hx:Q5 X E)(ha:PA X (e::es) t)(hg:Gl X x:=by rfl)(hdb:(x == ("__debug__":Str))=false:=by decide)
  (he:starEach (e::es) X.env=(false,eval e X.env)::starEach es X.env:=by rfl) (hpl:(backTo cpos (starEach (e::es) X.env)).any (·.1)=false:=by rfl) :
  PS X (.Raise (some (.Call (.Name x p) (e::es) [] cpos)) none pos) (zlh T.C E t):=by
 intro pins s σ H D I h;obtain⟨bm,N,nm,qn,bs,hd,sn,sub,ab,col,dd,k0,k1,k2,k3,k5,mN,hC,hN,hni,TL⟩:=X9 I.mod.kin T.k.q
 refine wpAny_Raise_call_subT (C:=T.C) (nm:=nm) (q:=qn) (N:=N) (bs:=bs) (bm:=bm) (hdct:=hd) (sn:=sn) (sub:=sub) (ab:=ab) (col:=col) (dd:=dd) (k0:=k0) (k1:=k1) (k2:=k2) (k3:=k3) (k5:=k5) (mN:=mN)
  yd1 (TL.hasType yd1.hasBase) (I.ok.hd hc) hpl hni (HZ I hg T.m ⟨rfl,?_⟩ hdb)
 have h2:=ha cpos pins s σ H _ I h;rw[he]at h2 ⊢;exact Calls.evalArgs_plain (AZ h2 λus s1 ⟨vs,H1,I1,r,z,q1⟩=>⟨rfl,r.length▸z,I1.bk _ _ hC,hN.keeps I1.bk,TL.keeps I1.bk,λh' a hm=>hx pins σ H1 s1 a _ us h' I1 hm q1⟩)
end
def J3(H:Hp)(a C:Addr):Prop:=∃ob,H a=some (.frz ob (.own 0))/\ob.cls=.ref C/\∃vs,ob.data=.fields vs/\vs[2]?=some .none
theorem J3.of{F:Hp}{C:Addr}(x:J3 H a C)(e:∀u,H a=some u->F a=some u):J3 F a C :=
 let ⟨ob,y,r⟩:=x;⟨ob,e _ y,r⟩
section
variable {K:k9}{C:Addr}
end
section
end
noncomputable abbrev EZ(X:Cx)(pins:List (Addr×Obj))(xe:Value->Shared->Prop):Cx:={ X with pn:=X.pn++pins,xe:=xe }
abbrev Hk(X:Cx)(a:Addr):Cx:={ X with A:=X.A.mark (some (.ref a)),calm:=false,xe:=λ_ _=>False }
section
variable {σ:L2.St}{xe:Value->Shared->Prop}
theorem zna(ok:X.Ok):(EZ X pins xe).Ok:=⟨ok.mod,ok.kind,ok.glob,ok.blt,ok.above,ok.inj,ok.has,ok.cab,ok.hd,ok.frames,ok.stk,ok.exf,ok.bs,ok.bsz,ok.noex,ok.exfs,ok.funs,ok.frf⟩
theorem zh4(ok:X.Ok):(Hk X a).Ok:=⟨ok.mod,ok.kind,ok.glob,ok.blt,ok.above,ok.inj,ok.has,ok.cab,λz=>Bool.noConfusion z,ok.frames,ok.stk,ok.exf,ok.bs,ok.bsz,ok.noex,ok.exfs,ok.funs,ok.frf⟩
theorem zo3(I:Inv X pins σ H s):Inv (EZ X pins xe) [] σ H s:=⟨zna I.ok,I.os,I.bare,I.base,I.loc,I.cell,I.free,I.freeC,λp hp=>I.pin p (by simpa using hp),I.hok,I.len⟩
theorem UG{ok:X.Ok}{pn2:List (Addr×Obj)}(I:Inv (EZ X pins xe) pn2 σ H s):Inv X pins σ H s:=⟨ok,I.os,I.bare,I.base,I.loc,I.cell,I.free,I.freeC,λp hp=>I.pin p (yc4 _ hp),I.hok,I.len⟩
theorem WQ(I:Inv X pins σ H s):Inv (Hk X a) pins σ H s:=⟨zh4 I.ok,I.os,I.bare,I.base,I.loc,I.cell,I.free,I.freeC,I.pin,I.hok,I.len⟩
theorem K3(ok:X.Ok)(I:Inv (Hk X a) pins σ H s):Inv X pins σ H s:=⟨ok,I.os,I.bare,I.base,I.loc,I.cell,I.free,I.freeC,I.pin,I.hok,I.len⟩
end
section
variable {E:Value->Shared->Prop}{M:Model}
theorem exm{g:Array GenState}{d:Drawn}{t:Nat}{os:OsState}{C W N:Addr}{oe:Obj}{Q:Bool->Shared->Prop}{nm q:Str}{bs bm:List Value}{hdct:Bool}{sn:List Str}{sub:List Value}{ab:Bool}{col:Option Bool}{dd:Option Addr}{k0 k1 k2 k3 k5:Option Value}{newId:String}(hW:h.get? W=some (excClassObj nm q W N bs bm hdct sn sub ab col dd k0 k1 k2 k3 k5 newId))(he:h.get? a=some oe)(hcls:oe.cls=.ref C)(hb:bm.contains (.type "BaseException")=true)(LS:PySem.W.Looks M h (isSubtype (.ref C) (.ref W)) true)(hq:Q true ⟨h,g,d,t,os⟩):wpAny M A (excMatches (.ref a) (.ref W)) Q E ⟨h,g,d,t,os⟩:=by
 have hcB:(Value.ref W::bm).contains (.type "BaseException")=true:=by
  rw[ye5,hb];exact yei _
 have f:=tc_notTuple;unfold excMatches
 repeat (first|(with_reducible refine wpAny_loadPart_at he ?_;rw[hcls])|with_reducible refine wpAny_loadPart_at hW ?_|(with_reducible refine wpAny_isSubtype_exc hW ?_;rw[hcB])|with_reducible refine PySem.W.Looks.at LS ?_|wp_step)
 exact hq
end
variable {body:List Stmt}
section
variable {i:Nat}{x n:Str}{np hpos:Pos}{suite:List Stmt}{b₀:Stmt}{tb th:TS}
end
end Zx
namespace Pu
open PySem PySem.Spec PyProof.Rows L2 Zw Zx
variable {X:Cx}{E:L2.St->XK}{ca:Str->Value}
abbrev Rg:=Addr->Prop
def R0:Rg:=λ_=>False
inductive Kd where
 |lst|rl|tup|rt|pin (p:Addr)
inductive Ob where
 |ins (C:Addr) (fs:List Str)|exn (C:Addr)|sdc (ks:List Str)|lab (p:Addr)
inductive T where
 |non|bl (b:Bool)|int (i:Int)|str (x:Str)|nd (o:Bool) (k:Kd) (l:List T)|dic (ks:List Int) (l:List T)|pdc (ks:List Int) (l:List T)|odc (ks:List Int) (l:List T)
 |obj (k:Ob) (l:List T)|oob (p C:Addr) (fs:List Str) (l:List T)|osd (ks:List Str) (l:List T)
noncomputable abbrev T.lst(l:List T):T:=.nd false .lst l
noncomputable abbrev T.own(l:List T):T:=.nd true .lst l
noncomputable abbrev T.tup(l:List T):T:=.nd false .tup l
mutual
def T.share:T->T
 |.nd _ k l=>.nd false k (BF l)
 |.dic ks l=>.dic ks (BF l)
 |.pdc ks l=>.pdc ks (BF l)
 |.odc ks l=>.pdc ks (BF l)
 |.obj k l=>.obj k (BF l)
 |.oob _ C fs l=>.obj (.ins C fs) (BF l)
 |.osd ks l=>.obj (.sdc ks) (BF l)
 |.non=>.non
 |.bl b=>.bl b
 |.int i=>.int i
 |.str x=>.str x
def BF:List T->List T
 |[]=>[]
 |t::r=>t.share::BF r
end
mutual
def T.sh:T->Bool
 |.nd o _ l=>!o && A3 l
 |.dic _ l=>A3 l
 |.pdc _ l=>A3 l
 |.odc _ _=>false
 |.obj _ l=>A3 l
 |.oob _ _ _ _=>false
 |.osd _ _=>false
 |.non=>true
 |.bl _=>true
 |.int _=>true
 |.str _=>true
def A3:List T->Bool
 |[]=>true
 |t::r=>t.sh && A3 r
end
noncomputable def T.flat:T->Bool
 |.nd _ _ _=>false
 |.dic _ _=>false
 |.pdc _ _=>false
 |.odc _ _=>false
 |.obj _ _=>false
 |.oob _ _ _ _=>false
 |.osd _ _=>false
 |_=>true
theorem Cw:∀l:List T,BF l=l.map T.share
 |[]=>rfl
 |t::r=>by rw[BF,Cw r];rfl
theorem DK:∀l:List T,A3 l=l.all T.sh
 |[]=>rfl
 |t::r=>by rw[A3,DK r];rfl
mutual
theorem Ao:∀t:T,t.sh=true->t.share=t
 |.nd o k l,h=>by
  rw[T.sh,ya7]at h;have ho:o=false:=by simpa using h.1
  subst ho;rw[T.share,AG l h.2]
 |.dic ks l,h=>by
  rw[T.sh]at h;rw[T.share,AG l h]
 |.pdc ks l,h=>by
  rw[T.sh]at h;rw[T.share,AG l h]
 |.odc ks l,h=>by
  rw[T.sh]at h;cases h
 |.obj k l,h=>by
  rw[T.sh]at h;rw[T.share,AG l h]
 |.oob p C fs l,h=>by
  rw[T.sh]at h;cases h
 |.osd ks l,h=>by
  rw[T.sh]at h;cases h
 |.non,_=>rfl
 |.bl _,_=>rfl
 |.int _,_=>rfl
 |.str _,_=>rfl
theorem AG:∀l:List T,A3 l=true->BF l=l
 |[],_=>rfl
 |t::r,h=>by
  rw[A3,ya7]at h;rw[BF,Ao t h.1,AG r h.2]
end
def FI(K:k9)(F:Hp)(k:Kd)(p:Addr)(xs:List V):Prop:=match k with
 |.lst=>F p=some (.lst xs)
 |.rl=>A9 K F p xs
 |.tup=>F p=some (.tup xs)
 |.rt=>Bx K F p xs
 |.pin _=>F p=some (.lst xs)
variable {F F':Hp}{p:Addr}{xs:List V}
theorem Fj{K:k9}(s:A7 F F')(h:Bx K F p xs):Bx K F' p xs:=by
 rcases h with (h|⟨o,h⟩)|h
 .exact .inl (.inl (s _ _ h))
 .exact .inl (.inr ⟨o,s _ _ h⟩)
 .exact .inr h
theorem FI.same{K:k9}{k:Kd}(h:FI K F k p xs)(s:A7 F F'):FI K F' k p xs:=by
 cases k with
 |lst=>exact s _ _ h
 |rl=>exact s.seq h
 |tup=>exact s _ _ h
 |rt=>exact Fj s h
 |pin q=>exact s _ _ h
def JZ(k:Kd)(p:Addr):Prop:=match k with
 |.lst=>True
 |.pin q=>q=p
 |_=>False
theorem JZ.node{K:k9}{k:Kd}(hk:JZ k p)(h:F p=some (.lst xs)):FI K F k p xs:=by
 cases k with
 |lst=>exact h
 |pin q=>exact h
 |_=>exact hk.elim
def FZ(ks:List Int)(xs:List V):List (Key×V):=List.zipWith (λk x=>(Sum.inl k,x)) ks xs
def CU(ks:List Str)(xs:List V):List (Key×V):=List.zipWith (λk x=>(Sum.inr k,x)) ks xs
def J0(F:Hp)(k:Ob)(p:Addr)(xs:List V):Prop:=match k with
 |.ins C fs=>∃dx,F p=some (.ins C dx (fs.zip xs))
 |.exn C=>J3 F p C
 |.sdc ks=>ks.length=xs.length/\F p=some (.dK (CU ks xs))
 |.lab q=>q=p/\xs=[.ref p]
theorem J0.same{k:Ob}(h:J0 F k p xs)(s:A7 F F'):J0 F' k p xs:=by
 cases k with
 |ins C fs=>exact h.elim λdx e=>⟨dx,s _ _ e⟩
 |exn C=>exact h.of λu=>s p u
 |sdc ks=>exact⟨h.1,s _ _ h.2⟩
 |lab q=>exact h
inductive Rp(K:k9)(F H:Hp):T->V->Rg->Prop where
 |non:Rp K F H .non .non R0
 |bl (b:Bool):Rp K F H (.bl b) (.bl b) R0
 |int (i:Int):Rp K F H (.int i) (.int i) R0
 |str (x:Str):Rp K F H (.str x) (.str x) R0
 |shr {k:Kd} {p:Addr} {xs:List V} {l:List T} (h:FI K F k p xs) (e:l.length=xs.length) (c:∀(i:Nat) (t:T) (x:V),l[i]?=some t->xs[i]?=some x->Rp K F H t x R0):Rp K F H (.nd false k l) (.ref p) R0
 |dic {p:Addr} {ob:Obj} {ks:List Int} {xs:List V} {l:List T} (h:F p=some (.frz ob (.dK (FZ ks xs)))) (e:l.length=xs.length) (ek:ks.length=xs.length) (c:∀(i:Nat) (t:T) (x:V),l[i]?=some t->xs[i]?=some x->Rp K F H t x R0):Rp K F H (.dic ks l) (.ref p) R0
 |pdc {p:Addr} {ks:List Int} {xs:List V} {l:List T} (h:F p=some (.dK (FZ ks xs))) (e:l.length=xs.length) (ek:ks.length=xs.length) (c:∀(i:Nat) (t:T) (x:V),l[i]?=some t->xs[i]?=some x->Rp K F H t x R0):Rp K F H (.pdc ks l) (.ref p) R0
 |odc {p:Addr} {ks:List Int} {xs:List V} {l:List T} (f:F p=none) (h:H p=some (.dK (FZ ks xs))) (e:l.length=xs.length) (ek:ks.length=xs.length) (c:∀(i:Nat) (t:T) (x:V),l[i]?=some t->xs[i]?=some x->Rp K F H t x R0):Rp K F H (.odc ks l) (.ref p) (λa=>a=p)
 |obj {k:Ob} {p:Addr} {xs:List V} {l:List T} (h:J0 F k p xs) (e:l.length=xs.length) (c:∀(i:Nat) (t:T) (x:V),l[i]?=some t->xs[i]?=some x->Rp K F H t x R0):Rp K F H (.obj k l) (.ref p) R0
 |oob {C p dx:Addr} {fs:List Str} {xs:List V} {l:List T} (R:Nat->Rg) (f:F p=none) (h:H p=some (.ins C dx (fs.zip xs))) (e:l.length=xs.length) (c:∀(i:Nat) (t:T) (x:V),l[i]?=some t->xs[i]?=some x->Rp K F H t x (R i))
   (d:∀i j a,i≠j->R i a->¬ R j a) (dp:∀i,¬ R i p) (o:∀i a,R i a->i<l.length):Rp K F H (.oob p C fs l) (.ref p) (λa=>a=p\/∃i,R i a)
 |osd {p:Addr} {ks:List Str} {xs:List V} {l:List T} (f:F p=none) (h:H p=some (.dK (CU ks xs))) (e:l.length=xs.length) (ek:ks.length=xs.length) (c:∀(i:Nat) (t:T) (x:V),l[i]?=some t->xs[i]?=some x->Rp K F H t x R0):Rp K F H (.osd ks l) (.ref p) (λa=>a=p)
 |own {k:Kd} {p:Addr} {xs:List V} {l:List T} (hk:JZ k p) (R:Nat->Rg) (f:F p=none) (h:H p=some (.lst xs)) (e:l.length=xs.length) (c:∀(i:Nat) (t:T) (x:V),l[i]?=some t->xs[i]?=some x->Rp K F H t x (R i))
   (d:∀i j a,i≠j->R i a->¬ R j a) (dp:∀i,¬ R i p) (o:∀i a,R i a->i<l.length):Rp K F H (.nd true k l) (.ref p) (λa=>a=p\/∃i,R i a)
variable {H H':Hp}{A:Rg}{b:Bool}{y:Str}
section
variable {K:k9}{t:T}{x:V}
theorem Rp.frame(h:Rp K F H t x A)(s:A7 F F')(k:∀a,A a->H' a=H a/\F' a=none):Rp K F' H' t x A:=by
 induction h with
 |non=>exact .non
 |bl b=>exact .bl b
 |int i=>exact .int i
 |str y=>exact .str y
 |shr h e c ih=>exact .shr (h.same s) e λi t x h1 h2=>ih i t x h1 h2 λa z=>z.elim
 |dic h e ek c ih=>exact .dic (s _ _ h) e ek λi t x h1 h2=>ih i t x h1 h2 λa z=>z.elim
 |pdc h e ek c ih=>exact .pdc (s _ _ h) e ek λi t x h1 h2=>ih i t x h1 h2 λa z=>z.elim
 |odc f h e ek c ih =>
  have q:=k _ rfl;exact .odc q.2 (q.1.trans h) e ek λi t x h1 h2=>ih i t x h1 h2 λa z=>z.elim
 |obj h e c ih=>exact .obj (h.same s) e λi t x h1 h2=>ih i t x h1 h2 λa z=>z.elim
 |oob R f h e c d dp o ih =>
  have q:=k _ (.inl rfl);exact .oob R q.2 (q.1.trans h) e (λi t x h1 h2=>ih i t x h1 h2 λa z=>k a (.inr ⟨i,z⟩)) d dp o
 |osd f h e ek c ih =>
  have q:=k _ rfl;exact .osd q.2 (q.1.trans h) e ek λi t x h1 h2=>ih i t x h1 h2 λa z=>z.elim
 |own hk R f h e c d dp o ih =>
  have q:=k _ (.inl rfl);exact .own hk R q.2 (q.1.trans h) e (λi t x h1 h2=>ih i t x h1 h2 λa z=>k a (.inr ⟨i,z⟩)) d dp o
theorem Rp.dom(h:Rp K F H t x A){a:Addr}(ha:A a):F a=none/\∃u,H a=some u:=by
 induction h with
 |non=>exact ha.elim
 |bl b=>exact ha.elim
 |int i=>exact ha.elim
 |str y=>exact ha.elim
 |shr h e c ih=>exact ha.elim
 |dic h e ek c ih=>exact ha.elim
 |pdc h e ek c ih=>exact ha.elim
 |odc f h e ek c ih =>
  cases ha;exact⟨f,_,h⟩
 |obj h e c ih=>exact ha.elim
 |osd f h e ek c ih =>
  cases ha;exact⟨f,_,h⟩
 |@oob C p dx fs xs l R f h e c d dp o ih =>
  rcases ha with rfl|⟨i,z⟩
  .exact⟨f,_,h⟩
  .have hi:=o i a z;have hx:i<xs.length:=by omega
   exact ih i _ _ (ya0 hi) (ya0 hx) z
 |@own k0 p xs l hk R f h e c d dp o ih =>
  rcases ha with rfl|⟨i,z⟩
  .exact⟨f,_,h⟩
  .have hi:=o i a z;have hx:i<xs.length:=by omega
   exact ih i _ _ (ya0 hi) (ya0 hx) z
theorem Rp.share(h:Rp K F H t x A)(s:A7 F F')(k:∀a u,A a->H a=some u->F' a=some u):Rp K F' H' t.share x R0:=by
 induction h with
 |non=>exact .non
 |bl b=>exact .bl b
 |int i=>exact .int i
 |str y=>exact .str y
 |@shr k0 p xs l h e c ih =>
  rw[T.share,Cw];refine .shr (h.same s) (by rw[ya1];exact e) λi t x h1 h2=>?_
  rw[ya3]at h1;obtain⟨t0,e0,rfl⟩:=yah.mp h1;exact ih i t0 x e0 h2 λa u z=>z.elim
 |@dic p ob ks xs l h e ek c ih =>
  rw[T.share,Cw];refine .dic (s _ _ h) (by rw[ya1];exact e) ek λi t x h1 h2=>?_
  rw[ya3]at h1;obtain⟨t0,e0,rfl⟩:=yah.mp h1;exact ih i t0 x e0 h2 λa u z=>z.elim
 |@pdc p ks xs l h e ek c ih =>
  rw[T.share,Cw];refine .pdc (s _ _ h) (by rw[ya1];exact e) ek λi t x h1 h2=>?_
  rw[ya3]at h1;obtain⟨t0,e0,rfl⟩:=yah.mp h1;exact ih i t0 x e0 h2 λa u z=>z.elim
 |@odc p ks xs l f h e ek c ih =>
  rw[T.share,Cw];refine .pdc (k _ _ rfl h) (by rw[ya1];exact e) ek λi t x h1 h2=>?_
  rw[ya3]at h1;obtain⟨t0,e0,rfl⟩:=yah.mp h1;exact ih i t0 x e0 h2 λa u z=>z.elim
 |@obj k0 p xs l h e c ih =>
  rw[T.share,Cw];refine .obj (h.same s) (by rw[ya1];exact e) λi t x h1 h2=>?_
  rw[ya3]at h1;obtain⟨t0,e0,rfl⟩:=yah.mp h1;exact ih i t0 x e0 h2 λa u z=>z.elim
 |@oob C p dx fs xs l R f h e c d dp o ih =>
  rw[T.share,Cw];refine .obj (k:=.ins C fs) (xs:=xs) ⟨dx,k _ _ (.inl rfl) h⟩ (by rw[ya1];exact e) λi t x h1 h2=>?_
  rw[ya3]at h1;obtain⟨t0,e0,rfl⟩:=yah.mp h1;exact ih i t0 x e0 h2 λa u z=>k a u (.inr ⟨i,z⟩)
 |@osd p ks xs l f h e ek c ih =>
  rw[T.share,Cw];refine .obj (k:=.sdc ks) (xs:=xs) ⟨ek,k _ _ rfl h⟩ (by rw[ya1];exact e) λi t x h1 h2=>?_
  rw[ya3]at h1;obtain⟨t0,e0,rfl⟩:=yah.mp h1;exact ih i t0 x e0 h2 λa u z=>z.elim
 |@own k0 p xs l hk R f h e c d dp o ih =>
  rw[T.share,Cw];refine .shr (k:=k0) (xs:=xs) (hk.node (k _ _ (.inl rfl) h)) (by rw[ya1];exact e) λi t x h1 h2=>?_
  rw[ya3]at h1;obtain⟨t0,e0,rfl⟩:=yah.mp h1;exact ih i t0 x e0 h2 λa u z=>k a u (.inr ⟨i,z⟩)
theorem Rp.r0(h:Rp K F H t x A)(s:t.sh=true):A=R0:=by
 cases h with
 |own hk R f h e c d dp o =>
  rw[T.sh]at s;cases s
 |odc f h e ek c =>
  rw[T.sh]at s;cases s
 |oob R f h e c d dp o =>
  rw[T.sh]at s;cases s
 |osd f h e ek c =>
  rw[T.sh]at s;cases s
 |_=>rfl
theorem Rp.move(h:Rp K F H t x A)(s:t.sh=true)(q:A7 F F'):Rp K F' H' t x R0:=by
 have e:=h.r0 s;subst e;exact h.frame q λa z=>z.elim
theorem Rp.flat_any(h:Rp K F H t x A)(s:t.flat=true):Rp K F' H' t x R0:=by
 cases h with
 |non=>exact .non
 |bl b=>exact .bl b
 |int i=>exact .int i
 |str y=>exact .str y
 |shr h e c=>cases s
 |dic h e ek c=>cases s
 |pdc h e ek c=>cases s
 |odc f h e ek c=>cases s
 |obj h e c=>cases s
 |oob R f h e c d dp o=>cases s
 |osd f h e ek c=>cases s
 |own hk R f h e c d dp o=>cases s
theorem Rp.int_inv{i:Int}(h:Rp K F H (.int i) x A):x=.int i:=by cases h;rfl
theorem Rp.bl_inv(h:Rp K F H (.bl b) x A):x=.bl b:=by cases h;rfl
theorem Rp.non_inv(h:Rp K F H .non x A):x=.non:=by cases h;rfl
theorem Rp.str_inv(h:Rp K F H (.str y) x A):x=.str y:=by cases h;rfl
end
def Ad(K:k9)(F:Hp)(ts:List T)(xs:List V):Prop:=ts.length=xs.length/\∀(i:Nat) (t:T) (x:V),ts[i]?=some t->xs[i]?=some x->Rp K F F t x R0
theorem Ad.nil{K:k9}:Ad K F [] []:=⟨rfl,λi t x h=>by simp at h⟩
theorem Rp.any{K:k9}{t:T}{x:V}(h:Rp K F H t x R0):Rp K F H' t x R0:=h.frame (A7.refl F) λa z=>z.elim
theorem Ad.cons{K:k9}{F H:Hp}{t:T}{x:V}{ts:List T}{xs:List V}(h:Rp K F H t x R0)(r:Ad K F ts xs):Ad K F (t::ts) (x::xs):=by
 refine⟨by simp[r.1],λi t' x' h1 h2=>?_⟩
 cases i with
 |zero =>
  simp at h1 h2;subst h1;subst h2;exact h.any
 |succ j=>exact r.2 j t' x' (by simpa using h1) (by simpa using h2)
variable {ts:List T}
theorem Ad.inv{K:k9}{t:T}(r:Ad K F (t::ts) xs):∃x xs',xs=x::xs'/\Rp K F F t x R0/\Ad K F ts xs':=by
 obtain⟨e,h⟩:=r;cases xs with
 |nil=>simp at e
 |cons x xs'=>exact⟨x,xs',rfl,h 0 t x rfl rfl,by simpa using e,λi t' x' h1 h2=>h (i+1) t' x' (by simpa using h1) (by simpa using h2)⟩
theorem Ad.inv0{K:k9}(r:Ad K F [] xs):xs=[]:=by
 obtain⟨e,h⟩:=r;cases xs with
 |nil=>rfl
 |cons x xs'=>simp at e
theorem Ad.same{K:k9}(r:Ad K F ts xs)(s:A7 F F'):Ad K F' ts xs:=⟨r.1,λi t x h1 h2=>((r.2 i t x h1 h2).frame (H':=F') s λa z=>z.elim)⟩
variable {l:List T}
theorem Ad.node{K:k9}{k:Kd}(h:Rp K F H (.nd false k l) (.ref p) A):∃xs,FI K F k p xs/\Ad K F l xs:=by
 cases h with
 |shr h e c=>exact⟨_,h,e,λi t x h1 h2=>(c i t x h1 h2).any⟩
theorem Rp.ref_inv{K:k9}{o:Bool}{k:Kd}{x:V}(h:Rp K F H (.nd o k l) x A):∃p,x=.ref p:=by
 cases h with
 |shr h e c=>exact⟨_,rfl⟩
 |own hk R f h e c d dp o=>exact⟨_,rfl⟩
theorem Ad.of_node{K:k9}{k:Kd}(h:FI K F k p xs)(r:Ad K F l xs):Rp K F H (.nd false k l) (.ref p) R0:=.shr h r.1 λi t x h1 h2=>(r.2 i t x h1 h2).any
structure Ext(F H F' H':Hp)(B:Rg):Prop where
 hh:A7 H H'
 ff:A7 F F'
 fh:A7 F' H'
 nb:∀b,B b->H b=none
 nf:∀b u,F' b=some u->F b=some u\/H b=none
theorem Gc(s:A7 H H'){b:Addr}(h:H' b=none):H b=none:=by
 cases e:H b with
 |none=>rfl
 |some u=>rw[s b u e]at h;cases h
variable {F1 H1:Hp}{B:Rg}
section
variable {F2 H2:Hp}{C:Rg}
theorem Ext.refl(s:A7 F H):Ext F H F H R0:=⟨.refl _,.refl _,s,λ_ z=>z.elim,λ_ _ e=>.inl e⟩
theorem Ext.trans(a:Ext F H F1 H1 B)(b:Ext F1 H1 F2 H2 C):Ext F H F2 H2 (λx=>B x\/C x) where
 hh:=a.hh.trans b.hh
 ff:=a.ff.trans b.ff
 fh:=b.fh
 nb:=λx z=>z.elim (a.nb x) λz=>Gc a.hh (b.nb x z)
 nf:=λx u e=>(b.nf x u e).elim (a.nf x u) λz=>.inr (Gc a.hh z)
theorem Ext.mono(a:Ext F H F1 H1 B)(h:∀x,C x->B x):Ext F H F1 H1 C:=⟨a.hh,a.ff,a.fh,λx z=>a.nb x (h x z),a.nf⟩
theorem Ext.trans0(a:Ext F H F1 H1 R0)(b:Ext F1 H1 F2 H2 C):Ext F H F2 H2 C:=(a.trans b).mono λx z=>.inr z
open Classical in
def frz(F H:Hp)(A:Rg):Hp:=λb=>if A b then H b else F b
theorem GG{b:Addr}(h:A b):frz F H A b=H b:=by unfold frz;rw[if_pos h]
theorem F8{b:Addr}(h:¬ A b):frz F H A b=F b:=by unfold frz;rw[if_neg h]
theorem Ed(n:∀a,A a->F a=none):A7 F (frz F H A):=λb u e=>by
 by_cases h:A b
 .rw[n b h]at e;cases e
 .rw[F8 h];exact e
theorem Hf(s:A7 F H):A7 (frz F H A) H:=λb u e=>by
 by_cases h:A b
 .rw[GG h]at e;exact e
 .rw[F8 h]at e;exact s b u e
theorem Ext.frz(a:Ext F H F1 H1 B)(n:∀b,B b->F1 b=none):Ext F H (frz F1 H1 B) H1 R0 where
 hh:=a.hh
 ff:=a.ff.trans (Ed n)
 fh:=Hf a.fh
 nb:=λ_ z=>z.elim
 nf:=λb u e=>by
  by_cases h:B b
  .exact .inr (a.nb b h)
  .rw[F8 h]at e;exact a.nf b u e
theorem Rp.ext{K:k9}{t:T}{x:V}(h:Rp K F H t x A)(a:Ext F H F1 H1 B):Rp K F1 H1 t x A:=h.frame a.ff λb z=>by
 obtain⟨f,u,e⟩:=h.dom z;refine⟨(a.hh b u e).trans e.symm,?_⟩;cases q:F1 b with
 |none=>rfl
 |some u' =>
  rcases a.nf b u' q with z|z
  .rw[f]at z;cases z
  .rw[e]at z;cases z
theorem Rp.apart{K:k9}{t:T}{x:V}(h:Rp K F H t x A)(a:Ext F H F1 H1 B){b:Addr}(hb:B b):¬ A b:=λz=>by
 obtain⟨f,u,e⟩:=h.dom z;rw[a.nb b hb]at e;cases e
theorem Ext.new{o:HO}(s:A7 F H)(h:H p=none):Ext F H (upd F p o) (upd H p o) R0 where
 hh:=KL h o
 ff:=KL (Gc s h) o
 fh:=λb u e=>by
  by_cases hb:b=p
  .subst hb;rw[Cd]at e ⊢;exact e
  .rw[Az hb]at e ⊢;exact s b u e
 nb:=λ_ z=>z.elim
 nf:=λb u e=>by
  by_cases hb:b=p
  .subst hb;exact .inr h
  .rw[Az hb]at e;exact .inl e
theorem Ext.newO{o:HO}(s:A7 F H)(h:H p=none):Ext F H F (upd H p o) (λa=>a=p) where
 hh:=KL h o
 ff:=.refl _
 fh:=λb u e=>KL h o b u (s b u e)
 nb:=λb z=>by rw[z];exact h
 nf:=λb u e=>.inl e
end
abbrev AN:=List (Option T)
structure StR(K:k9)(F H:Hp)(σ:L2.St)(τ:AN)(R:Nat->Rg):Prop where
 fh:A7 F H
 len:σ.length=τ.length
 rep:∀i t,τ[i]?=some (some t)->∃x,σ[i]?=some (some x)/\Rp K F H t x (R i)
 out:∀i a,R i a->∃t,τ[i]?=some (some t)
 dis:∀i j a,i≠j->R i a->¬ R j a
variable {σ:L2.St}{τ:AN}{R:Nat->Rg}
section
variable {K:k9}
theorem StR.dom(h:StR K F H σ τ R){i:Nat}{a:Addr}(ha:R i a):F a=none/\∃u,H a=some u:=by
 obtain⟨t,e⟩:=h.out i a ha;obtain⟨x,_,r⟩:=h.rep i t e;exact r.dom ha
theorem StR.ext(h:StR K F H σ τ R)(a:Ext F H F1 H1 B):StR K F1 H1 σ τ R where
 fh:=a.fh
 len:=h.len
 rep:=λi t e=>by
  obtain⟨x,e1,r⟩:=h.rep i t e;exact⟨x,e1,r.ext a⟩
 out:=h.out
 dis:=h.dis
theorem StR.apart(h:StR K F H σ τ R)(a:Ext F H F1 H1 B){b:Addr}(hb:B b)(i:Nat):¬ R i b:=λz=>by
 obtain⟨f,u,e⟩:=h.dom z;rw[a.nb b hb]at e;cases e
end
def Vx:Key->PyData
 |.inl i=>.int i
 |.inr x=>.str x
mutual
def T.data:T->PyData
 |.non=>.none
 |.bl b=>.bool b
 |.int i=>.int i
 |.str x=>.str x
 |.nd _ .lst l=>.list (BQ l)
 |.nd _ .rl l=>.list (BQ l)
 |.nd _ .tup l=>.tuple (BQ l)
 |.nd _ .rt l=>.tuple (BQ l)
 |.nd _ (.pin _) l=>.list (BQ l)
 |.dic ks l=>.dict ((ks.map PyData.int).zip (BQ l))
 |.pdc ks l=>.dict ((ks.map PyData.int).zip (BQ l))
 |.odc ks l=>.dict ((ks.map PyData.int).zip (BQ l))
 |.obj _ _=>.none
 |.oob _ _ _ _=>.none
 |.osd _ _=>.none
def BQ:List T->List PyData
 |[]=>[]
 |t::r=>t.data::BQ r
end
mutual
def T.pln:T->Bool
 |.nd _ _ l=>EB l
 |.dic _ l=>EB l
 |.pdc _ l=>EB l
 |.odc _ l=>EB l
 |.obj _ _=>false
 |.oob _ _ _ _=>false
 |.osd _ _=>false
 |.non=>true
 |.bl _=>true
 |.int _=>true
 |.str _=>true
def EB:List T->Bool
 |[]=>true
 |t::r=>t.pln && EB r
end
theorem E5:∀{l:List T},EB l=true->∀{i:Nat} {t:T},l[i]?=some t->t.pln=true
 |[],_,i,t,e=>by simp at e
 |a::r,h,i,t,e=>by
  rw[EB,ya7]at h;cases i with
  |zero =>
   simp at e;subst e;exact h.1
  |succ i=>exact E5 h.2 (by simpa using e)
theorem TV{h:Heap}:∀{l:List T} {us:List Value},l.length=us.length->(∀(i:Nat) (t:T) (u:Value),l[i]?=some t->us[i]?=some u->∃as,Reads h u t.data as)->∃as,ReadsAll h us (BQ l) as
 |[],[],_,_=>⟨_,.nil⟩
 |[],_::_,e,_=>by simp at e
 |_::_,[],e,_=>by simp at e
 |t::l,u::us,e,f=>by
  obtain⟨a1,r1⟩:=f 0 t u rfl rfl;obtain⟨a2,r2⟩:=TV (l:=l) (us:=us) (by simpa using e) λi t' u' h1 h2=>f (i+1) t' u' (by simpa using h1) (by simpa using h2)
  exact⟨_,.cons r1 r2⟩
variable {P:Program}{w:World}
theorem Oc{h:Heap}{k:Key}{v:Value}(e:(Cr P w).is k v=true):Reads h v (Vx k) []:=by
 rcases Ec (show F6 k v=true from e) with ⟨i,t,rfl,rfl⟩|⟨x,t,rfl,rfl⟩
 .exact .int i t
 .exact .str x t
theorem K0{h:Heap}:∀(ks:List Int) (xs:List V) (l:List T) (vs:List (Key×Value)),KV (FZ ks xs) vs->l.length=xs.length->ks.length=xs.length->(∀(i:Nat) (t:T) (x:V),l[i]?=some t->xs[i]?=some x->∀{u:Value},RelV x u->∃as,Reads h u t.data as) ->
  ∃bs,PyProof.V.PairsRead h Vx vs ((ks.map PyData.int).zip (BQ l)) bs
 |[],xs,l,vs,r,_,_,_=>by
  have r':Paired _ [] vs:=(show Paired _ (FZ [] xs) vs from r);cases r';exact⟨_,.nil⟩
 |k::ks,[],l,vs,r,_,ek,_=>by simp at ek
 |k::ks,x::xs,[],vs,r,e,_,_=>by simp at e
 |k::ks,x::xs,t::l,vs,r,e,ek,f=>by
  have r':Paired (λ(p:Key×V) (q:Key×Value)=>p.1=q.1/\RelV p.2 q.2) ((Sum.inl k,x)::FZ ks xs) vs:=r
  cases r' with
  |@cons _ q _ qs hd tl =>
   obtain⟨a1,r1⟩:=f 0 t x rfl rfl hd.2;obtain⟨a2,r2⟩:=K0 ks xs l qs tl (by simpa using e) (by simpa using ek) λi t' x' h1 h2=>f (i+1) t' x' (by simpa using h1) (by simpa using h2)
   obtain⟨q1,q2⟩:=q;cases (show Sum.inl k=q1 from hd.1);exact⟨_,.cons r1 r2⟩
variable {pins:List (Addr×Obj)}{s:Shared}
section
theorem Fm(I:Inv X pins σ H s)(fh:A7 F H){t:T}{x:V}(h:Rp X.K F H t x A)(hpl:t.pln=true):∀{u:Value},RelV x u->∃as,Reads s.heap u t.data as:=by
 have kids:∀{l:List T} {xs:List V} {its:List Value},Ab xs its->l.length=xs.length->(∀(i:Nat) (t:T) (x:V),l[i]?=some t->xs[i]?=some x->∀{u:Value},RelV x u->∃as,Reads s.heap u t.data as)->∃as,ReadsAll s.heap its (BQ l) as:=by
  intro l xs its r e ih;refine TV (e.trans r.length) λi t u h1 h2=>?_
  have hi:i<xs.length:=by
   have:=(ya6.mp h1).1
   omega
  obtain⟨u',e1,r1⟩:=r.get (ya0 hi);rw[h2]at e1;cases e1;exact ih i t _ h1 (ya0 hi) r1
 have lsts:∀{p:Addr} {l:List T} {xs:List V},A9 X.K H p xs->l.length=xs.length->(∀(i:Nat) (t:T) (x:V),l[i]?=some t->xs[i]?=some x->∀{u:Value},RelV x u->∃as,Reads s.heap u t.data as)->∃as,Reads s.heap (.ref p) (.list (BQ l)) as:=by
  intro p l xs hq e ih;obtain⟨its,r,⟨o,n,e1,e2,e3,e4⟩,_⟩:=I.list hq;obtain⟨as,ra⟩:=kids r e ih;exact⟨_,.list e1 e2 e4 (by simpa using ra)⟩
 have tups:∀{p:Addr} {l:List T} {xs:List V},Bx X.K H p xs->l.length=xs.length->(∀(i:Nat) (t:T) (x:V),l[i]?=some t->xs[i]?=some x->∀{u:Value},RelV x u->∃as,Reads s.heap u t.data as)->∃as,Reads s.heap (.ref p) (.tuple (BQ l)) as:=by
  intro p l xs hq e ih;obtain⟨its,r,⟨o,e1,e2,n,e4⟩,_⟩:=I.tuple hq;obtain⟨as,ra⟩:=kids r e ih;exact⟨_,.tuple e1 e2 e4 (by simpa using ra)⟩
 induction h with
 |non=>intro u r;cases r;exact⟨_,.none⟩
 |bl b=>intro u r;cases r;exact⟨_,.bool b⟩
 |int i=>intro u r;obtain⟨t,rfl⟩:=r;exact⟨_,.int i t⟩
 |str y=>intro u r;obtain⟨t,rfl⟩:=r;exact⟨_,.str y t⟩
 |@shr k p xs l h e c ih =>
  intro u r;cases r;cases k with
  |lst=>exact lsts (A9.of (fh _ _ h)) e λi t x h1 h2=>ih i t x h1 h2 (E5 hpl h1)
  |rl=>exact lsts (fh.seq h) e λi t x h1 h2=>ih i t x h1 h2 (E5 hpl h1)
  |tup=>exact tups (Bx.of (fh _ _ h)) e λi t x h1 h2=>ih i t x h1 h2 (E5 hpl h1)
  |rt=>exact tups (Fj fh h) e λi t x h1 h2=>ih i t x h1 h2 (E5 hpl h1)
  |pin q=>exact lsts (A9.of (fh _ _ h)) e λi t x h1 h2=>ih i t x h1 h2 (E5 hpl h1)
 |@dic p ob ks xs l h e ek c ih =>
  intro u r;cases r;obtain⟨ho,z,hd,vs,rel,dd⟩:=(show Ba X.prog X.w H s.heap p (.frz ob (.dK (FZ ks xs))) from I.hok p _ (fh _ _ h));obtain⟨bs,pr⟩:=K0 ks xs l vs rel e ek λi t x h1 h2=>ih i t x h1 h2 (E5 hpl h1)
  exact⟨_,ydg (λk v q=>Oc q) dd pr⟩
 |@pdc p ks xs l h e ek c ih =>
  intro u r;cases r;obtain⟨z,hd,vs,rel,dd⟩:=(show Ba X.prog X.w H s.heap p (.dK (FZ ks xs)) from I.hok p _ (fh _ _ h));obtain⟨bs,pr⟩:=K0 ks xs l vs rel e ek λi t x h1 h2=>ih i t x h1 h2 (E5 hpl h1)
  exact⟨_,ydg (λk v q=>Oc q) dd pr⟩
 |@odc p ks xs l f h e ek c ih =>
  intro u r;cases r;obtain⟨z,hd,vs,rel,dd⟩:=(show Ba X.prog X.w H s.heap p (.dK (FZ ks xs)) from I.hok p _ h);obtain⟨bs,pr⟩:=K0 ks xs l vs rel e ek λi t x h1 h2=>ih i t x h1 h2 (E5 hpl h1)
  exact⟨_,ydg (λk v q=>Oc q) dd pr⟩
 |obj h e c ih=>cases hpl
 |oob R f h e c d dp o ih=>cases hpl
 |osd f h e ek c ih=>cases hpl
 |@own k0 p xs l hk R f h e c d dp o ih =>
  intro u r;cases r;cases k0 with
  |lst=>exact lsts (A9.of h) e λi t x h1 h2=>ih i t x h1 h2 (E5 hpl h1)
  |pin q=>exact lsts (A9.of h) e λi t x h1 h2=>ih i t x h1 h2 (E5 hpl h1)
  |_=>exact hk.elim
end
noncomputable def DP(t:T):Bool:=t.pln && t.data.canLay0
def Gk(t u:T):Bool:=PyData.eqv t.data u.data
def Ey(t u:T):Bool:=DP t && DP u && decide (min t.data.depth u.data.depth<=60)
def Bn(t u:T):Option T:=if Ey t u then some (.bl (Gk t u)) else none
def By(t u:T):Option T:=if Ey t u then some (.bl (!Gk t u)) else none
def Fz(t:T)(l:List T):Bool:=DP t && (EB l && PyData.canLayAll0 (BQ l)) && decide (min (PyData.depthAll (BQ l)) t.data.depth<=60)
def Hc(t:T)(l:List T):Bool:=(BQ l).any λy=>PyData.eqv y t.data
def WR(t:T)(y:Str):Option T:=match t with
 |.str x=>some (.bl (!(Builtin.Str.occurrences y x 0 y.length 1).isEmpty))
 |_=>none
def CY(t c:T):Option T:=match c with
 |.nd _ _ l=>if Fz t l then some (.bl (Hc t l)) else none
 |.str y=>WR t y
 |_=>none
def Gb(t c:T):Option T:=match c with
 |.nd _ _ l=>if Fz t l then some (.bl (!Hc t l)) else none
 |_=>none
def DG(K:k9)(F H:Hp)(v:T)(Q:VK):Prop:=∀F' H' z C,Ext F H F' H' C->Rp K F' H' v z C->Q z H'
def Bt(K:k9)(g:T->T->Option T):R2:=λx y H Q=>∃F t u v,A7 F H/\Rp K F F t x R0/\Rp K F F u y R0/\g t u=some v/\DG K F H v Q
def KW(K:k9)(g:T->Option T):V->Hp->VK->Prop:=λx H Q=>∃F t v,A7 F H/\Rp K F F t x R0/\g t=some v/\DG K F H v Q
def EA(K:k9)(g:List T->Option T):List V->Hp->VK->Prop:=λxs H Q=>∃F ts v,A7 F H/\Ad K F ts xs/\g ts=some v/\DG K F H v Q
variable {Q:VK}
section
variable {K:k9}
theorem DG.int{i:Int}(q:DG K F H (.int i) Q)(s:A7 F H):Q (.int i) H:=q F H _ _ (Ext.refl s) (.int i)
theorem DG.bl{b:Bool}(q:DG K F H (.bl b) Q)(s:A7 F H):Q (.bl b) H:=q F H _ _ (Ext.refl s) (.bl b)
theorem DG.str{x:Str}(q:DG K F H (.str x) Q)(s:A7 F H):Q (.str x) H:=q F H _ _ (Ext.refl s) (.str x)
theorem DG.list(q:DG K F H (.own l) Q)(s:A7 F H)(r:Ad K F l xs)(hp:H p=none):Q (.ref p) (upd H p (.lst xs)):=by
 refine q F (upd H p (.lst xs)) (.ref p) _ ((Ext.newO s hp).mono ?_) (.own (k:=.lst) (xs:=xs) trivial (λ_=>R0) (Gc s hp) Cd r.1 (λi t x h1 h2=>?_) (λ_ _ _ _ z=>z.elim) (λ_ z=>z) (λ_ _ z=>z.elim))
 .rintro a (z|⟨i,z⟩)
  .exact z
  .exact z.elim
 .exact(r.2 i t x h1 h2).any
theorem DG.tuple(q:DG K F H (.tup l) Q)(s:A7 F H)(r:Ad K F l xs)(hp:H p=none):Q (.ref p) (upd H p (.tup xs)):=by
 have e:=Ext.new (o:=.tup xs) s hp;exact q _ _ _ _ e (Ad.of_node (k:=.tup) Cd (r.same e.ff))
end
def ES(i:Int):Bool:=@decide (-(2 ^ 64)<i/\i<2 ^ 64) (Classical.propDecidable _)
def CD(i:Int):Bool:=@decide (-(10 ^ 70)<i/\i<10 ^ 70) (Classical.propDecidable _)
def WA(k:Int):Bool:=@decide (k<2 ^ 63/\-(2 ^ 63)<=k) (Classical.propDecidable _)
def CA(i j:Int):Bool:=ES i || ES j || (CD i && CD j)
noncomputable def BP:Nat:=16777216
def BL:T->T->Option T
 |.int i,.int j=>some (.int (i+j))
 |.str x,.str y=>if x.length+y.length<=BP then some (.str (x++y)) else none
 |.nd _ .lst l,.nd _ .lst m=>if l.length+m.length<=BP then some (.own (l++m)) else none
 |_,_=>none
def HP:T->T->Option T
 |.int i,.int j=>some (.int (i - j))
 |_,_=>none
def Be:T->T->Option T
 |.int i,.int j=>if CA i j then some (.int (i * j)) else none
 |.nd _ .lst l,.int k=>if WA k=true/\l.length * k.toNat<=BP then some (.own (List.replicate k.toNat l).flatten) else none
 |.str x,.int k=>if 0<=k/\k<=1000000/\x.length<=16 then some (.str (Txt.mul x k)) else none
 |_,_=>none
def BO:T->T->Option T
 |.int i,.int j=>if j≠0 then some (.int (i.fmod j)) else none
 |_,_=>none
def CN:T->T->Option T
 |.int i,.int j=>if j≠0/\CD j then some (.int (i.fdiv j)) else none
 |_,_=>none
def Fo:T->T->Option T
 |.int i,.int j=>if 0<=j/\j<=1000000/\ES i then some (.int (i ^ j.toNat)) else none
 |_,_=>none
def CI(f:Int->Int->Bool):T->T->Option T
 |.int i,.int j=>some (.bl (f i j))
 |_,_=>none
def Er:T->Option T
 |.int i=>some (.int (-i))
 |_=>none
theorem NM{i:Int}(h:ES i=true):-(2 ^ 64)<i/\i<2 ^ 64:=@of_decide_eq_true _ (Classical.propDecidable _) h
theorem NL{i:Int}(h:CD i=true):Sm i:=@of_decide_eq_true _ (Classical.propDecidable _) h
theorem Vz{k:Int}(h:WA k=true):k<2 ^ 63/\-(2 ^ 63)<=k:=@of_decide_eq_true _ (Classical.propDecidable _) h
theorem EH:BP=sizeLine:=by rw[yf0];rfl
theorem KR{K:k9}{F:Hp}:∀{l m:List T} {xs ys:List V},Ad K F l xs->Ad K F m ys->Ad K F (l++m) (xs++ys)
 |[],m,xs,ys,r,q=>by rw[r.inv0];exact q
 |t::l,m,xs,ys,r,q=>by
  obtain⟨x,xs',rfl,r1,r2⟩:=r.inv;exact .cons r1 (KR r2 q)
theorem TK{K:k9}{F:Hp}{l:List T}{xs:List V}(r:Ad K F l xs):∀n:Nat,Ad K F (List.replicate n l).flatten (List.replicate n xs).flatten
 |0=>.nil
 |n+1=>by
  rw[yc1,yc1,ycm,ycm];exact KR r (TK r n)
variable {op:CmpOp}{n:Nat}
section
theorem EW{K:k9}{o:Bool}{k:Kd}{x:V}(h:Rp K F H (.nd o k l) x R0):∃p xs,x=.ref p/\o=false/\FI K F k p xs/\Ad K F l xs:=by
 generalize hA:R0=A at h;cases h with
 |shr h e c=>exact⟨_,_,rfl,rfl,h,e,λi t x h1 h2=>(hA▸c i t x h1 h2).any⟩
 |@own k0 p xs l hk R f h e c d dp o =>
  exfalso
  have z:=congrFun hA p;have:R0 p:=by rw[z];exact .inl rfl
  exact this
theorem zjs:Ak X (binaryOp .Add) (Bt X.K BL):=by
 intro pins s σ H x y v u Q I rx ry h;obtain⟨F,t1,t2,r,fh,r1,r2,e,q⟩:=h;unfold BL at e;split at e
 .cases e;rw[r1.int_inv]at rx;rw[r2.int_inv]at ry;exact zn5 pins s σ H _ _ v u Q I rx ry ⟨_,_,rfl,rfl,q.int fh⟩
 .split at e
  .cases e;rename_i hz;rw[r1.str_inv]at rx;rw[r2.str_inv]at ry;exact zdr pins s σ H _ _ v u Q I rx ry ⟨_,_,rfl,rfl,by rw[<- EH];exact hz,q.str fh⟩
  .cases e
 .split at e
  .cases e;rename_i hz;obtain⟨p,xs,rfl,rfl,n1,k1⟩:=EW r1;obtain⟨p2,ys,rfl,rfl,n2,k2⟩:=EW r2;refine zn4 pins s σ H _ _ v u Q I rx ry ⟨p,p2,xs,ys,rfl,rfl,fh _ _ n1,fh _ _ n2,?_,λa ha=>q.list fh (KR k1 k2) ha⟩
   rw[<- k1.1,<- k2.1,<- EH];exact hz
  .cases e
 .cases e
theorem Ij{f:Value->Value->Sem Value}{C:Int->Int->Prop}{g:Int->Int->V}{gT:T->T->Option T}(ho:Ak X f (rI C g))(hg:∀t u v,gT t u=some v->∃i j,t=.int i/\u=.int j/\C i j/\((∃k,v=.int k/\g i j=.int k)\/∃k,v=.bl k/\g i j=.bl k)):Ak X f (Bt X.K gT):=by
 intro pins s σ H x y v u Q I rx ry h;obtain⟨F,t1,t2,r,fh,r1,r2,e,q⟩:=h;obtain⟨i,j,rfl,rfl,hc,hv⟩:=hg _ _ _ e;rw[r1.int_inv]at rx;rw[r2.int_inv]at ry;refine ho pins s σ H _ _ v u Q I rx ry ⟨i,j,rfl,rfl,hc,?_⟩
 rcases hv with ⟨k,rfl,ek⟩|⟨k,rfl,ek⟩
 .rw[ek];exact q.int fh
 .rw[ek];exact q.bl fh
theorem Ak.weak{f:Value->Value->Sem Value}{r r':R2}(h:Ak X f r)(w:∀x y H Q,r' x y H Q->r x y H Q):Ak X f r':=λpins s σ H x y v u Q I rx ry q=>h pins s σ H x y v u Q I rx ry (w x y H Q q)
theorem TU{g:Int->Int->V}{f:Value->Value->Sem Value}(h:Ak X f (Eo g)):Ak X f (rI (λ_ _=>True) g):=Ak.weak h λx y H Q ⟨i,j,a,b,_,q⟩=>⟨i,j,a,b,q⟩
theorem zjn:Ak X (binaryOp .Sub) (Bt X.K HP):=Ij (TU zmz) λt u v h=>by
 unfold HP at h;split at h
 .cases h;exact⟨_,_,rfl,rfl,trivial,.inl ⟨_,rfl,rfl⟩⟩
 .cases h
theorem zjq:Ak X (binaryOp .Mod) (Bt X.K BO):=Ij zjm λt u v h=>by
 unfold BO at h;split at h
 .split at h
  .cases h;exact⟨_,_,rfl,rfl,by assumption,.inl ⟨_,rfl,rfl⟩⟩
  .cases h
 .cases h
theorem zh3:Ak X (binaryOp .FloorDiv) (Bt X.K CN):=Ij zh2 λt u v h=>by
 unfold CN at h;split at h
 .split at h
  .cases h;rename_i hc;exact⟨_,_,rfl,rfl,⟨hc.1,NL hc.2⟩,.inl ⟨_,rfl,rfl⟩⟩
  .cases h
 .cases h
theorem zjo:Ak X (binaryOp .Pow) (Bt X.K Fo):=Ij zn1 λt u v h=>by
 unfold Fo at h;split at h
 .split at h
  .cases h;rename_i hc;have q:=NM hc.2.2;exact⟨_,_,rfl,rfl,⟨hc.1,hc.2.1,by omega⟩,.inl ⟨_,rfl,rfl⟩⟩
  .cases h
 .cases h
theorem K1{g:Int->Int->Bool}(ho:Ak X (compareOp op) (Eo λi j=>.bl (g i j))):Ak X (compareOp op) (Bt X.K (CI g)):=Ij (TU ho) λt u v h=>by
 unfold CI at h;split at h
 .cases h;exact⟨_,_,rfl,rfl,trivial,.inr ⟨_,rfl,rfl⟩⟩
 .cases h
theorem zjp:Ak X (binaryOp .Mult) (Bt X.K Be):=by
 intro pins s σ H x y v u Q I rx ry h;obtain⟨F,t1,t2,r,fh,r1,r2,e,q⟩:=h;unfold Be at e;split at e
 .rename_i i j;split at e
  .cases e;rename_i hc;rw[r1.int_inv]at rx;rw[r2.int_inv]at ry;unfold CA at hc;rw[yc7,yc7,ya7]at hc
   rcases hc with (hc|hc)|hc
   .exact Tz pins s σ H _ _ v u Q I rx ry ⟨i,j,rfl,rfl,.inl (NM hc),q.int fh⟩
   .exact Tz pins s σ H _ _ v u Q I rx ry ⟨i,j,rfl,rfl,.inr (NM hc),q.int fh⟩
   .exact zjl pins s σ H _ _ v u Q I rx ry ⟨i,j,rfl,rfl,⟨NL hc.1,NL hc.2⟩,q.int fh⟩
  .cases e
 .split at e
  .cases e;rename_i hc;obtain⟨p,xs,rfl,rfl,n1,k1⟩:=EW r1;rw[r2.int_inv]at ry;refine zn0 pins s σ H _ _ v u Q I rx ry ⟨p,_,xs,rfl,rfl,fh _ _ n1,(Vz hc.1).2,(Vz hc.1).1,?_,λa ha=>q.list fh (TK k1 _) ha⟩
   rw[<- k1.1,<- EH];exact hc.2
  .cases e
 .split at e
  .cases e;rename_i hc;rw[r1.str_inv]at rx;rw[r2.int_inv]at ry;obtain⟨t1,rfl⟩:=rx;obtain⟨t2,rfl⟩:=ry;exact SB.mul (mulOk_of 16 1048576 hc.2.2 (by omega) (by omega) (by decide) (by decide)) λt' k=>⟨.str _,H,I.tok _,⟨_,rfl⟩,q.str fh⟩
  .cases e
 .cases e
theorem zib:JN X (unaryOp .USub) (KW X.K Er):=by
 intro pins s σ H x v Q I rx h;obtain⟨F,t,r,fh,r1,e,q⟩:=h;unfold Er at e;split at e
 .cases e;rw[r1.int_inv]at rx;exact zl5 pins s σ H _ v Q I rx ⟨_,rfl,q.int fh⟩
 .cases e
theorem Xo{A:Around}(hu:A.units+64<cLine)(h:n<=60):A.units+n<cLine:=by omega
theorem zn9(hu:X.A.units+64<cLine):Ak X (compareOp .Eq) (Bt X.K Bn):=by
 intro pins s σ H x y v u Q I rx ry h;obtain⟨F,t1,t2,r,fh,r1,r2,e,q⟩:=h;unfold Bn at e;split at e
 .cases e;rename_i hc;unfold Ey DP at hc;rw[ya7,ya7,ya7,ya7,yfc]at hc;obtain⟨a1,q1⟩:=Fm I fh (r1.any) hc.1.1.1 rx;obtain⟨a2,q2⟩:=Fm I fh (r2.any) hc.1.2.1 ry;exact SeqAt.compareEq_reads q1 q2 hc.1.1.2 hc.1.2.2 (Xo hu hc.2) ⟨.bl _,H,I,rfl,q.bl fh⟩
 .cases e
theorem zn8(hu:X.A.units+64<cLine):Ak X (compareOp .In) (Bt X.K CY):=by
 intro pins s σ H x y v u Q I rx ry h;obtain⟨F,t1,t2,r,fh,r1,r2,e,q⟩:=h;unfold CY at e;split at e
 .rename_i o k l;split at e
  .cases e;rename_i hc;unfold Fz DP at hc;rw[ya7,ya7,ya7,ya7,yfc]at hc;obtain⟨a1,q1⟩:=Fm I fh (r1.any) hc.1.1.1 rx;obtain⟨a2,q2⟩:=Fm I fh (r2.any) (show(T.nd o k l).pln=true from hc.1.2.1) ry;have hd:X.A.units+1+min (PyData.depthAll (BQ l)) t1.data.depth<cLine:=by omega
   cases k with
   |lst=>exact ye0 q2 q1 hc.1.2.2 hc.1.1.2 hd ⟨.bl _,H,I,rfl,q.bl fh⟩
   |rl=>exact ye0 q2 q1 hc.1.2.2 hc.1.1.2 hd ⟨.bl _,H,I,rfl,q.bl fh⟩
   |tup=>exact SeqAt.in_tuple_reads q2 q1 hc.1.2.2 hc.1.1.2 hd ⟨.bl _,H,I,rfl,q.bl fh⟩
   |rt=>exact SeqAt.in_tuple_reads q2 q1 hc.1.2.2 hc.1.1.2 hd ⟨.bl _,H,I,rfl,q.bl fh⟩
   |pin _=>exact ye0 q2 q1 hc.1.2.2 hc.1.1.2 hd ⟨.bl _,H,I,rfl,q.bl fh⟩
  .cases e
 .unfold WR at e;split at e
  .cases e;rw[r1.str_inv]at rx;rw[r2.str_inv]at ry;exact zeq pins s σ H _ _ v u Q I rx ry ⟨_,_,rfl,rfl,q.bl fh⟩
  .cases e
 .cases e
theorem zer(hu:X.A.units+64<cLine):Ak X (compareOp .NotIn) (Bt X.K Gb):=by
 intro pins s σ H x y v u Q I rx ry h;obtain⟨F,t1,t2,r,fh,r1,r2,e,q⟩:=h;unfold Gb at e;split at e
 .rename_i o k l;split at e
  .cases e;rename_i hc;unfold Fz DP at hc;rw[ya7,ya7,ya7,ya7,yfc]at hc;obtain⟨a1,q1⟩:=Fm I fh (r1.any) hc.1.1.1 rx;obtain⟨a2,q2⟩:=Fm I fh (r2.any) (show(T.nd o k l).pln=true from hc.1.2.1) ry;have hd:X.A.units+1+min (PyData.depthAll (BQ l)) t1.data.depth<cLine:=by omega
   cases k with
   |lst=>exact ydh q2 q1 hc.1.2.2 hc.1.1.2 hd ⟨.bl _,H,I,rfl,q.bl fh⟩
   |rl=>exact ydh q2 q1 hc.1.2.2 hc.1.1.2 hd ⟨.bl _,H,I,rfl,q.bl fh⟩
   |tup=>exact SeqAt.notIn_tuple_reads q2 q1 hc.1.2.2 hc.1.1.2 hd ⟨.bl _,H,I,rfl,q.bl fh⟩
   |rt=>exact SeqAt.notIn_tuple_reads q2 q1 hc.1.2.2 hc.1.1.2 hd ⟨.bl _,H,I,rfl,q.bl fh⟩
   |pin _=>exact ydh q2 q1 hc.1.2.2 hc.1.1.2 hd ⟨.bl _,H,I,rfl,q.bl fh⟩
  .cases e
 .cases e
end
inductive Rs where
 |v (t:T) (b:Bool)|x (c:Str)
abbrev AJ:=AN->Option Rs
inductive RsL where
 |v (ts:List T) (b:Bool)|x (c:Str)
abbrev BI:=AN->Option RsL
def tot(R:Nat->Rg):Rg:=λa=>∃i,R i a
def Df(K:k9)(F H:Hp)(R:Nat->Rg)(v:T)(b:Bool)(x:V)(B:Rg):Prop:=match b with
 |true=>B=R0/\∃A,(∀a,A a->tot R a)/\Rp K F H v x A
 |false=>Rp K F H v x B
def Gz(b:Bool)(F H:Hp)(R:Nat->Rg):Hp:=match b with
 |true=>frz F H (tot R)
 |false=>F
section
variable {K:k9}{c:Bool}{v:T}{x:V}
theorem StR.tot(S:StR K F H σ τ R){a:Addr}(h:tot R a):F a=none/\∃u,H a=some u:=by
 obtain⟨i,z⟩:=h;exact S.dom z
theorem LF(S:StR K F H σ τ R):A7 F (Gz b F H R):=by
 cases b with
 |true=>exact Ed λa z=>(S.tot z).1
 |false=>exact .refl _
theorem Ov(S:StR K F H σ τ R):A7 (Gz b F H R) H:=by
 cases b with
 |true=>exact Hf S.fh
 |false=>exact S.fh
theorem zkg(S:StR K F H σ τ R)(e:Ext F H F1 H1 B)(h:b=true->c=true):A7 (Gz b F H R) (Gz c F1 H1 R):=by
 have S1:=S.ext e;cases b with
 |false=>exact e.ff.trans (LF S1)
 |true =>
  rw[h rfl];intro a u q;show frz F1 H1 (Pu.tot R) a=some u
  by_cases z:Pu.tot R a
  .rw[GG z];have q':frz F H (Pu.tot R) a=some u:=q;rw[GG z]at q';exact e.hh _ _ q'
  .rw[F8 z];have q':frz F H (Pu.tot R) a=some u:=q;rw[F8 z]at q';exact e.ff _ _ q'
theorem Df.frz(S:StR K F H σ τ R)(e:Ext F H F1 H1 B)(g:Df K F1 H1 R v b x B):∃F2,Ext F H F2 H1 R0/\A7 F1 F2/\Rp K (Gz b F2 H1 R) (Gz b F2 H1 R) v.share x R0:=by
 have S1:=S.ext e;cases b with
 |true =>
  obtain⟨rfl,A,hA,r⟩:=g
  exact⟨F1,e,.refl _,r.share (LF (b:=true) S1) λa u z q=>by
   show Pu.frz F1 H1 (Pu.tot R) a=some u;rw[GG (hA a z)];exact q⟩
 |false =>
  have g':Rp K F1 H1 v x B:=g;have n:∀a,B a->F1 a=none:=λa z=>(g'.dom z).1
  exact⟨_,e.frz n,Ed n,g'.share (Ed n) λa u z q=>by
   show Pu.frz F1 H1 B a=some u;rw[GG z];exact q⟩
theorem Ext.grow{H2:Hp}(e:Ext F H F1 H1 R0)(s:A7 H1 H2):Ext F H F1 H2 R0:=⟨e.hh.trans s,e.ff,e.fh.trans s,λ_ z=>z.elim,e.nf⟩
end
def pM(K:k9)(E:L2.St->XK)(ca:Str->Value)(σ:L2.St)(Q:VK)(F H:Hp)(R:Nat->Rg):Option Rs->Prop
 |some (.v v b)=>∀F' H' x B,Ext F H F' H' B->Df K F' H' R v b x B->Q x H'
 |some (.x c)=>∀F' H',Ext F H F' H' R0->E σ (ca c) none H'
 |none=>False
def tM(K:k9)(E:L2.St->XK)(ca:Str->Value)(m:AJ):TE:=λσ H Q=>∃F τ R,StR K F H σ τ R/\pM K E ca σ Q F H R (m τ)
def pMs(K:k9)(E:L2.St->XK)(ca:Str->Value)(σ:L2.St)(Q:List V->Hp->Prop)(F H:Hp)(R:Nat->Rg):Option RsL->Prop
 |some (.v ts b)=>∀F' H' xs,Ext F H F' H' R0->Ad K (Gz b F' H' R) ts xs->Q xs H'
 |some (.x c)=>∀F' H',Ext F H F' H' R0->E σ (ca c) none H'
 |none=>False
def Bs(K:k9)(E:L2.St->XK)(ca:Str->Value)(m:BI):TA:=λσ H Q=>∃F τ R,StR K F H σ τ R/\pMs K E ca σ Q F H R (m τ)
def pMB(K:k9)(E:L2.St->XK)(ca:Str->Value)(σ:L2.St)(Q:Bool->Hp->Prop)(F H:Hp):Option Rs->Prop
 |some (.v (.bl c) _)=>∀F' H',Ext F H F' H' R0->Q c H'
 |some (.v _ _)=>False
 |some (.x c)=>∀F' H',Ext F H F' H' R0->E σ (ca c) none H'
 |none=>False
def BN(K:k9)(E:L2.St->XK)(ca:Str->Value)(m:AJ):TT:=λσ H Q=>∃F τ R,StR K F H σ τ R/\pMB K E ca σ Q F H (m τ)
noncomputable def AA(i:Nat):AJ:=λτ=>match τ[i]? with
 |some (some t)=>some (.v t (!t.sh))
 |_=>none
noncomputable def mC(t:T):AJ:=λ_=>some (.v t false)
def AE:BI:=λ_=>some (.v [] false)
noncomputable def AB(m:AJ)(ms:BI):BI:=λτ=>match m τ with
 |some (.v t b)=>(match ms τ with
  |some (.v ts b')=>some (.v (t.share::ts) (b || b'))
  |r=>r)
 |some (.x c)=>some (.x c)
 |none=>none
def BE(b:Bool)(v:T):Option Rs:=if b && !v.flat then none else some (.v v false)
def Bf(g:List T->Option T)(ms:BI):AJ:=λτ=>match ms τ with
 |some (.v ts b)=>(match g ts with
  |some v=>BE b v
  |none=>none)
 |some (.x c)=>some (.x c)
 |none=>none
def g2(g:T->T->Option T):List T->Option T
 |[t,u]=>g t u
 |_=>none
def g1(g:T->Option T):List T->Option T
 |[t]=>g t
 |_=>none
abbrev m1(g:T->Option T)(a:AJ):AJ:=Bf (g1 g) (AB a AE)
abbrev m2(g:T->T->Option T)(a b:AJ):AJ:=Bf (g2 g) (AB a (AB b AE))
def DX(c:AJ)(a b:AJ):AJ:=λτ=>match c τ with
 |some (.v (.bl true) _)=>a τ
 |some (.v (.bl false) _)=>b τ
 |some (.x c)=>some (.x c)
 |_=>none
def Ay(c:AJ):AJ:=λτ=>match c τ with
 |some (.v (.bl b) _)=>some (.v (.bl (!b)) false)
 |some (.x c)=>some (.x c)
 |_=>none
def CP(a b:AJ):AJ:=DX a b (mC (.bl false))
def Bu(a b:AJ):AJ:=DX a (mC (.bl true)) b
variable {m ma mb mc:AJ}{ms:BI}{a c e:Expr}{es:List Expr}{pos:Pos}{g:T->T->Option T}{i:Nat}{x:Str}
section
variable {K:k9}{b:Expr}
theorem PE.weak{t t':TE}(h:PE X e t)(w:∀σ H Q,t' σ H Q->t σ H Q):PE X e t':=λpins s σ H Q I q=>h pins s σ H Q I (w σ H Q q)
theorem PT.weak{t t':TT}(h:PT X e t)(w:∀σ H Q,t' σ H Q->t σ H Q):PT X e t':=λpins s σ H Q I q=>h pins s σ H Q I (w σ H Q q)
theorem PA.weak{t t':TA}(h:PA X es t)(w:∀σ H Q,t' σ H Q->t σ H Q):PA X es t':=λpos pins s σ H Q I q=>h pos pins s σ H Q I (w σ H Q q)
theorem tM.mono{Q':VK}(h:tM K E ca m σ H Q)(w:∀x H',Q x H'->Q' x H'):tM K E ca m σ H Q':=by
 obtain⟨F,τ,R,S,q⟩:=h;refine⟨F,τ,R,S,?_⟩;cases hm:m τ with
 |none=>rw[hm]at q;exact q
 |some r =>
  rw[hm]at q;cases r with
  |v v b=>exact λF' H' x B e g=>w _ _ (q F' H' x B e g)
  |x c=>exact q
theorem Bs.mono{Q Q':List V->Hp->Prop}(h:Bs K E ca ms σ H Q)(w:∀x H',Q x H'->Q' x H'):Bs K E ca ms σ H Q':=by
 obtain⟨F,τ,R,S,q⟩:=h;refine⟨F,τ,R,S,?_⟩;cases hm:ms τ with
 |none=>rw[hm]at q;exact q
 |some r =>
  rw[hm]at q;cases r with
  |v v b=>exact λF' H' x e g=>w _ _ (q F' H' x e g)
  |x c=>exact q
theorem G4{Q:List V->Hp->Prop}(h:Bs K E ca AE σ H Q):Q [] H:=by
 obtain⟨F,τ,R,S,q⟩:=h;exact q F H [] (Ext.refl S.fh) .nil
theorem G5{Q:List V->Hp->Prop}(h:Bs K E ca (AB m ms) σ H Q):tM K E ca m σ H λx H1=>Bs K E ca ms σ H1 λxs H2=>Q (x::xs) H2:=by
 obtain⟨F,τ,R,S,q⟩:=h;refine⟨F,τ,R,S,?_⟩;unfold AB at q;cases hm:m τ with
 |none=>rw[hm]at q;exact q
 |some r =>
  rw[hm]at q;cases r with
  |x c=>exact q
  |v t b =>
   intro F' H' x B e g;obtain⟨F2,e2,_,r2⟩:=Df.frz S e g;have S2:=S.ext e2;refine⟨F2,τ,R,S2,?_⟩;cases hs:ms τ with
   |none=>rw[hs]at q;exact q.elim
   |some r =>
    simp only[hs]at q;cases r with
    |x c=>exact λF3 H3 e3=>q F3 H3 (e2.trans0 e3)
    |v ts b' =>
     intro F3 H3 xs e3 rs;refine q F3 H3 (x::xs) (e2.trans0 e3) ?_;refine .cons (H:=H3) ((r2.frame (zkg S2 e3 (by intro z;simp[z])) λa z=>z.elim)) ?_
     cases b' with
     |true=>rw[yei];exact rs
     |false =>
      rw[yd0];cases b with
      |false=>exact rs
      |true=>exact rs.same (LF (b:=true) (S2.ext e3))
theorem G6{g:List T->Option T}(h:tM K E ca (Bf g ms) σ H Q):Bs K E ca ms σ H λxs H1=>EA K g xs H1 Q:=by
 obtain⟨F,τ,R,S,q⟩:=h;refine⟨F,τ,R,S,?_⟩;unfold Bf at q;cases hs:ms τ with
 |none=>rw[hs]at q;exact q.elim
 |some r =>
  simp only[hs]at q;cases r with
  |x c=>exact q
  |v ts b =>
   intro F1 H1 xs e1 rs;have S1:=S.ext e1;cases hg:g ts with
   |none=>simp only[hg]at q;exact q.elim
   |some v =>
    simp only[hg]at q;refine⟨Gz b F1 H1 R,ts,v,Ov S1,rs,hg,λF2 H2 z C e2 r2=>?_⟩
    unfold BE at q;cases b with
    |false=>exact q F2 H2 z C (e1.trans0 e2) r2
    |true =>
     cases hf:v.flat with
     |false =>
      rw[hf]at q;exact False.elim q
     |true =>
      rw[hf]at q;exact q F1 H2 z R0 (e1.grow e2.hh) (r2.flat_any hf)
theorem rTn2{x y:V}(h:EA K (g2 g) [x,y] H Q):Bt K g x y H Q:=by
 obtain⟨F,ts,v,fh,rs,e,q⟩:=h;unfold g2 at e;split at e
 .obtain⟨x1,xs1,e1,r1,rs1⟩:=rs.inv;obtain⟨x2,xs2,e2,r2,rs2⟩:=rs1.inv;cases e1;cases e2;exact⟨F,_,_,v,fh,r1,r2,e,q⟩
 .cases e
theorem rTn1{g:T->Option T}{x:V}(h:EA K (g1 g) [x] H Q):KW K g x H Q:=by
 obtain⟨F,ts,v,fh,rs,e,q⟩:=h;unfold g1 at e;split at e
 .obtain⟨x1,xs1,e1,r1,rs1⟩:=rs.inv;cases e1;exact⟨F,_,v,fh,r1,e,q⟩
 .cases e
theorem Mi(h:tM K E ca (Bf (g2 g) (AB ma (AB mb AE))) σ H Q):HN (Bt K g) (tM K E ca ma) (tM K E ca mb) σ H Q :=
 (G5 (G6 h)).mono λx H1 h1=>(G5 h1).mono λy H2 h2=>rTn2 (G4 h2)
theorem zlj{g:T->Option T}(h:tM K E ca (Bf (g1 g) (AB ma AE)) σ H Q):Qz (KW K g) (tM K E ca ma) σ H Q :=
 (G5 (G6 h)).mono λx H1 h1=>rTn1 (G4 h1)
theorem zl3(h:tM K E ca (AA i) σ H Q):Qy i σ H Q:=by
 obtain⟨F,τ,R,S,q⟩:=h;unfold AA at q;split at q
 .rename_i t ht;obtain⟨x,e,r⟩:=S.rep i t ht;refine⟨x,e,q F H x R0 (Ext.refl S.fh) ?_⟩;cases hs:t.sh with
  |true=>exact r.move hs (.refl _)
  |false=>exact⟨rfl,R i,λa z=>⟨i,z⟩,r⟩
 .exact False.elim q
theorem TY(hN:X.N[i]?=some x)(hv:D0 X.env.scope x)(hd:(x == ("__debug__":Str))=false)(hcd:(x == ("__classdict__":Str))=false):PE X (.Name x pos) (tM X.K E ca (AA i)):=PE.weak (HV hN hv hd hcd) λ_ _ _ h=>zl3 h
theorem Ie{t:T}{v:V}(h:PE X e (tC v))(r:∀F H,Rp X.K F H t v R0):PE X e (tM X.K E ca (mC t)):=PE.weak h λσ H Q h=>by
 obtain⟨F,τ,R,S,q⟩:=h;exact q F H v R0 (Ext.refl S.fh) (r _ _)
theorem T4:PA X [] (Bs X.K E ca AE):=PA.weak E6 λσ H Q h=>G4 h
theorem T7(ha:PE X e (tM X.K E ca m))(hr:PA X es (Bs X.K E ca ms))(hs:starEach (e::es) X.env=(false,eval e X.env)::starEach es X.env):PA X (e::es) (Bs X.K E ca (AB m ms)) :=
 PA.weak (EC ha hr hs) λσ H Q h=>G5 h
theorem r_bin{op:Operator}(ho:Ak X (binaryOp op) (Bt X.K g))(ha:PE X a (tM X.K E ca ma))(hb:PE X b (tM X.K E ca mb)):PE X (.BinOp a op b pos) (tM X.K E ca (Bf (g2 g) (AB ma (AB mb AE)))) :=
 PE.weak (pe_op ho ha hb) λσ H Q h=>Mi h
theorem r_un{op:UnaryOp}{g:T->Option T}(ho:JN X (unaryOp op) (KW X.K g))(ha:PE X a (tM X.K E ca ma)):PE X (.UnaryOp op a pos) (tM X.K E ca (Bf (g1 g) (AB ma AE))) :=
 PE.weak (pe_un ho ha) λσ H Q h=>zlj h
theorem r_cmp(ho:Ak X (compareOp op) (Bt X.K g))(ha:PE X a (tM X.K E ca ma))(hb:PE X b (tM X.K E ca mb))(hm:behindInMarks op b=false):PE X (.Compare a [op] [b] pos) (tM X.K E ca (Bf (g2 g) (AB ma (AB mb AE)))) :=
 PE.weak (zjf ho ha hb hm) λσ H Q h=>Mi h
theorem Js{Q:Bool->Hp->Prop}(h:BN K E ca m σ H Q):tM K E ca m σ H λx H1=>∃k,x=.bl k/\Q k H1:=by
 obtain⟨F,τ,R,S,q⟩:=h;refine⟨F,τ,R,S,?_⟩;cases hm:m τ with
 |none=>rw[hm]at q;exact q
 |some r =>
  rw[hm]at q;cases r with
  |x c=>exact q
  |v v b =>
   cases v with
   |bl k =>
    intro F' H' x B e g
    have hx:x=.bl k:=by
     cases b with
     |true=>obtain⟨_,A,_,r⟩:=g;exact r.bl_inv
     |false=>exact(show Rp K F' H' _ _ _ from g).bl_inv
    exact⟨k,hx,q F' H' (e.mono λ_ z=>z.elim)⟩
   |_=>exact q.elim
theorem zm3(ho:Ak X (compareOp op) (Bt X.K g))(ha:PE X a (tM X.K E ca ma))(hb:PE X b (tM X.K E ca mb))(hm:behindInMarks op b=false):PT X (.Compare a [op] [b] pos) (BN X.K E ca (Bf (g2 g) (AB ma (AB mb AE)))) :=
 PT.weak (zj2 ho ha hb hm) λσ H Q h=>Mi (Js h)
theorem TZ(h:PE X e (tM X.K E ca m))(he:∀whole,isTrue e X.env whole=(do let v <- whole;standAt e.pos;holding [v] (truthy v))):PT X e (BN X.K E ca m):=PT.weak (zmf h he) λσ H Q h=>Js h
theorem RN{Q:Bool->Hp->Prop}(h:BN K E ca (DX mc ma mb) σ H Q):BN K E ca mc σ H λk H1=>if k=true then BN K E ca ma σ H1 Q else BN K E ca mb σ H1 Q:=by
 obtain⟨F,τ,R,S,q⟩:=h;refine⟨F,τ,R,S,?_⟩;unfold DX at q;cases hm:mc τ with
 |none=>rw[hm]at q;exact q.elim
 |some r =>
  simp only[hm]at q;cases r with
  |x c=>exact q
  |v v b =>
   cases v with
   |bl k =>
    intro F1 H1 e1;have S1:=S.ext e1
    have key:∀{mm:AJ},(match mm τ with
      |some (.v (.bl c) _)=>∀F' H',Ext F H F' H' R0->Q c H'
      |some (.v _ _)=>False
      |some (.x c)=>∀F' H',Ext F H F' H' R0->E σ (ca c) none H'
      |none=>False)->BN K E ca mm σ H1 Q:=λ{mm} q=>by
     refine⟨F1,τ,R,S1,?_⟩;cases hr:mm τ with
     |none=>rw[hr]at q;exact q.elim
     |some r =>
      simp only[hr]at q;cases r with
      |x c=>exact λF' H' e=>q F' H' (e1.trans0 e)
      |v v b =>
       cases v with
       |bl k=>exact λF' H' e=>q F' H' (e1.trans0 e)
       |_=>exact q.elim
    cases k with
    |true=>exact Iu (key q)
    |false=>exact Iv (key q)
   |_=>exact q.elim
theorem RK(h:tM K E ca (DX mc ma mb) σ H Q):BN K E ca mc σ H λk H1=>if k=true then tM K E ca ma σ H1 Q else tM K E ca mb σ H1 Q:=by
 obtain⟨F,τ,R,S,q⟩:=h;refine⟨F,τ,R,S,?_⟩;unfold DX at q;cases hm:mc τ with
 |none=>rw[hm]at q;exact q.elim
 |some r =>
  simp only[hm]at q;cases r with
  |x c=>exact q
  |v v b =>
   cases v with
   |bl k =>
    intro F1 H1 e1;have S1:=S.ext e1
    have key:∀{mm:AJ},(match mm τ with
      |some (.v v b)=>∀F' H' x B,Ext F H F' H' B->Df K F' H' R v b x B->Q x H'
      |some (.x c)=>∀F' H',Ext F H F' H' R0->E σ (ca c) none H'
      |none=>False)->tM K E ca mm σ H1 Q:=λ{mm} q=>by
     refine⟨F1,τ,R,S1,?_⟩;cases hr:mm τ with
     |none=>rw[hr]at q;exact q.elim
     |some r =>
      simp only[hr]at q;cases r with
      |x c=>exact λF' H' e=>q F' H' (e1.trans0 e)
      |v v b=>exact λF' H' x B e g=>q F' H' x B (e1.trans0 e) g
    cases k with
    |true=>exact Iu (key q)
    |false=>exact Iv (key q)
   |_=>exact q.elim
theorem r_ife(hc:PT X c (BN X.K E ca mc))(ha:PE X a (tM X.K E ca ma))(hb:PE X b (tM X.K E ca mb)):PE X (.IfExp c a b pos) (tM X.K E ca (DX mc ma mb)):=PE.weak (zgy hc ha hb) λσ H Q h=>RK h
theorem zig{Q:Bool->Hp->Prop}(h:BN K E ca (Ay mc) σ H Q):RE (BN K E ca mc) σ H Q:=by
 obtain⟨F,τ,R,S,q⟩:=h;refine⟨F,τ,R,S,?_⟩;unfold Ay at q;cases hm:mc τ with
 |none=>rw[hm]at q;exact q.elim
 |some r =>
  simp only[hm]at q;cases r with
  |x c=>exact q
  |v v b =>
   cases v with
   |bl k=>exact q
   |_=>exact q.elim
theorem zm2(hc:PT X c (BN X.K E ca mc)):PT X (.UnaryOp .Not c pos) (BN X.K E ca (Ay mc)):=PT.weak (zmg hc) λσ H Q h=>zig h
theorem zlk(h:tM K E ca (Ay mc) σ H Q):RD (tM K E ca mc) σ H Q:=by
 obtain⟨F,τ,R,S,q⟩:=h;refine⟨F,τ,R,S,?_⟩;unfold Ay at q;cases hm:mc τ with
 |none=>rw[hm]at q;exact q.elim
 |some r =>
  simp only[hm]at q;cases r with
  |x c=>exact q
  |v v b =>
   cases v with
   |bl k =>
    intro F' H' x B e g
    have hx:x=.bl k:=by
     cases b with
     |true=>obtain⟨_,A,_,r⟩:=g;exact r.bl_inv
     |false=>exact(show Rp K F' H' _ _ _ from g).bl_inv
    exact⟨k,hx,q F' H' _ R0 (e.mono λ_ z=>z.elim) (.bl _)⟩
   |_=>exact q.elim
theorem r_not(ha:PE X a (tM X.K E ca ma)):PE X (.UnaryOp .Not a pos) (tM X.K E ca (Ay ma)):=PE.weak (zmu ha) λσ H Q h=>zlk h
theorem RJ(h:tM K E ca (DX mc ma mb) σ H Q):tM K E ca mc σ H λx H1=>∃k,x=.bl k/\if k=true then tM K E ca ma σ H1 Q else tM K E ca mb σ H1 Q:=Js (RK h)
theorem RM{t:T}{v:V}(r:∀F H,Rp K F H t v R0)(h:tM K E ca (mC t) σ H Q):Q v H:=by
 obtain⟨F,τ,R,S,q⟩:=h;exact q F H v R0 (Ext.refl S.fh) (r _ _)
theorem r_and{rest:List Expr}(ha:PE X a (tM X.K E ca ma))(hb:PE X (.BoolOp .And (b::rest) pos) (tM X.K E ca mb)):PE X (.BoolOp .And (a::b::rest) pos) (tM X.K E ca (CP ma mb)) :=
 PE.weak (zmy ha hb) λσ H Q h=>(RJ h).mono λx H1 ⟨k,e,q⟩=>⟨k,e,by
  cases k with
  |true=>exact q
  |false=>exact RM (E:=E) (ca:=ca) (λ_ _=>.bl _) q⟩
theorem r_or{rest:List Expr}(ha:PE X a (tM X.K E ca ma))(hb:PE X (.BoolOp .Or (b::rest) pos) (tM X.K E ca mb)):PE X (.BoolOp .Or (a::b::rest) pos) (tM X.K E ca (Bu ma mb)) :=
 PE.weak (pe_or ha hb) λσ H Q h=>(RJ h).mono λx H1 ⟨k,e,q⟩=>⟨k,e,by
  cases k with
  |true=>exact RM (E:=E) (ca:=ca) (λ_ _=>.bl _) q
  |false=>exact q⟩
theorem r_one{op:BoolOp}(ha:PE X a (tM X.K E ca ma)):PE X (.BoolOp op [a] pos) (tM X.K E ca ma):=zmt ha
theorem BN.mono{Q Q':Bool->Hp->Prop}(h:BN K E ca m σ H Q)(w:∀x H',Q x H'->Q' x H'):BN K E ca m σ H Q':=by
 obtain⟨F,τ,R,S,q⟩:=h;refine⟨F,τ,R,S,?_⟩;cases hm:m τ with
 |none=>rw[hm]at q;exact q
 |some r =>
  rw[hm]at q;cases r with
  |v v b =>
   cases v with
   |bl k=>exact λF' H' e=>w _ _ (q F' H' e)
   |_=>exact q.elim
  |x c=>exact q
theorem Mj{k:Bool}{Q:Bool->Hp->Prop}(h:BN K E ca (mC (.bl k)) σ H Q):Q k H:=by
 obtain⟨F,τ,R,S,q⟩:=h;exact q F H (Ext.refl S.fh)
theorem PW.weak{t t':TT}(h:PW X e t)(w:∀σ H Q,t' σ H Q->t σ H Q):PW X e t':=λwh pins s σ H Q I q=>h wh pins s σ H Q I (w σ H Q q)
theorem zm1{rest:List Expr}(ha:PT X a (BN X.K E ca ma))(hb:PW X (.BoolOp .And (b::rest) pos) (BN X.K E ca mb)):PW X (.BoolOp .And (a::b::rest) pos) (BN X.K E ca (CP ma mb)) :=
 PW.weak (zme ha hb) λσ H Q h=>(RN h).mono λk H1 q=>by
  cases k with
  |true=>exact q
  |false=>exact Mj (E:=E) (ca:=ca) q
theorem r_wor{rest:List Expr}(ha:PT X a (BN X.K E ca ma))(hb:PW X (.BoolOp .Or (b::rest) pos) (BN X.K E ca mb)):PW X (.BoolOp .Or (a::b::rest) pos) (BN X.K E ca (Bu ma mb)) :=
 PW.weak (pw_or ha hb) λσ H Q h=>(RN h).mono λk H1 q=>by
  cases k with
  |true=>exact Mj (E:=E) (ca:=ca) q
  |false=>exact q
theorem zit(ha:PT X a (BN X.K E ca ma)):PW X (.BoolOp .And [a] pos) (BN X.K E ca ma):=ziz ha
theorem zis(ha:PT X a (BN X.K E ca ma)):PW X (.BoolOp .Or [a] pos) (BN X.K E ca ma):=zmd ha
end
section
variable {h':Heap}
theorem G1{t':Nat}{ch:List Addr}(I:Inv X pins σ H s)(k:∀b o,b∉ch->s.heap.get? b=some o->h'.get? b=some o)(f:∀b∈ch,C1 X pins H b):Inv X pins σ H { s with heap:=h',toks:=t' }:=by
 have nit:∀b u,H b=some u->b∉ch:=λb u e z=>by rw[(f b z).1]at e;cases e
 refine I.step (g':=s.gens) (d':=s.drawn) (ch:=ch) (λb hb=>?_) (λb o _ _ hc e _=>k b o hc e) (λb o _ _ hc e _=>⟨o.slots,k b o hc e⟩) (λ_ _ _ _ n=>n)
  (λb o hc e=>⟨o,k b o hc e⟩) (λ_ _ e=>e) (λ_ _ _ e=>e) (λb ps e=>⟨#[],by rw[e];simp⟩) (λm hm=>?_) (λb u e=>?_) I.bare
 .obtain⟨_,f1,f2,f3,f4,f5⟩:=f b hb;exact⟨f3,f1,f4,f5⟩
 .obtain⟨o,es,ep,ho,r⟩:=hm;exact⟨o,es,ep,k _ o (λz=>(f _ z).2.1 rfl) ho,r⟩
 .refine(I.hok b u e).stay (λc v hc q=>k c v ?_ q) (λ_ q=>q) λ_ _ q=>q
  rcases hc with z|z
  .rw[z];exact nit b u e
  .exact nit c _ z
theorem Qt{t':Nat}{ch:List Addr}{o:HO}(I:Inv X pins σ H s)(k:∀b o,b∉ch->s.heap.get? b=some o->h'.get? b=some o)(f:∀b∈ch,C1 X pins H b)(hp:s.heap.objs.size<=p)(new:Ba X.prog X.w (upd H p o) h' p o) :
  Inv X pins σ (upd H p o) { s with heap:=h',toks:=t' }:=by
 have hn:H p=none:=I.hok.fresh hp;have nit:∀b u,H b=some u->b∉ch:=λb u e z=>by rw[(f b z).1]at e;cases e
 have old:∀b ob,s.heap.get? b=some ob->b≠p:=λb ob e z=>by
  subst z;exact absurd (yaf e) (Nat.not_lt.mpr hp)
 refine I.step (g':=s.gens) (d':=s.drawn) (ch:=ch) (λb hb=>?_) (λb o _ _ hc e _=>k b o hc e) (λb o _ _ hc e _=>⟨o.slots,k b o hc e⟩) (λb ob hc e n=>by rw[Az (old b ob e)];exact n)
  (λb o hc e=>⟨o,k b o hc e⟩) (λb xs e=>by rw[Az (C8 e hn)];exact e) (λb o u e=>by rw[Az (C8 e hn)];exact e) (λb ps e=>⟨#[],by rw[Az (C8 e hn),e];simp⟩) (λm hm=>?_) (λb u e=>?_) I.bare
 .obtain⟨_,f1,f2,f3,f4,f5⟩:=f b hb;exact⟨f3,f1,f4,f5⟩
 .obtain⟨o,es,ep,ho,r⟩:=hm;exact⟨o,es,ep,k _ o (λz=>(f _ z).2.1 rfl) ho,r⟩
 .by_cases hb:b=p
  .subst hb;rw[Cd]at e;cases e;exact new
  .rw[Az hb]at e;refine(I.hok b u e).stay (λc v hc q=>k c v ?_ q) (λc q=>by rw[Az (C8 q hn)];exact q) λc xs q=>by rw[Az (C8 q hn)];exact q
   rcases hc with z|z
   .rw[z];exact nit b u e
   .exact nit c _ z
theorem Wd{b:Addr}{o:HO}(f:C1 X pins H b)(h:b≠p):C1 X pins (upd H p o) b:=⟨by rw[Az h];exact f.1,f.2⟩
end
def MJ(K:k9)(k:Nat)(l:Addr):It :=
 ⟨λi H=>∃xs x,A9 K H l xs/\xs[i]?=some x,λi H x H'=>∃p y,x=.ref p/\H p=none/\H'=upd H p (.tup [.int ((k+i:Nat):Int),y])/\∀xs,A9 K H l xs->xs[i]?=some y,λi H=>∃xs,A9 K H l xs/\xs.length<=i⟩
theorem drw{A:Around}{it:Addr}{fp:List Addr}{Q:Nat->Value->Prop}{St:Nat->Heap->Prop}(D:Draws P w A it fp n Q St)(k:Nat):Draws P w A it fp (k+n) (λj x=>∃i,j=k+i/\Q i x) (λj h=>∃i,j=k+i/\St i h) where
 live:=λ_ h ⟨i,_,st⟩=>D.live i h st
 frame:=λ_ h h' ⟨i,e,st⟩ c=>⟨i,e,D.frame i h h' st c⟩
 item:=λj s R E hj ⟨i,e,st⟩ hQ=>D.item i s R E (by omega) st λx h' tk q st' sb=>hQ x h' tk ⟨i,e,q⟩ ⟨i+1,by omega,st'⟩ sb
 done:=λs R E ⟨i,e,st⟩ hE=>D.done s R E (by rw[show n=i by omega];exact st) hE
variable {its:Array Value}{j:Nat}
theorem zkq{h:Heap}{l e it:Addr}{i:Int}{old:Value}(he:IsEnum h e it i old)(hi:h.IsListIter it l j)(hl:h.IsList l its):l≠it/\l≠e:=by
 obtain⟨o,h1,c1,_⟩:=hl;obtain⟨o2,h2,c2,_⟩:=hi;constructor<;>intro z<;>subst z
 .rw[h1]at h2;cases h2;rw[c1]at c2;exact absurd (Value.type.inj c2) (by decide)
 .have he':h.get? l=some _:=he;rw[h1]at he';cases he';exact absurd (Value.type.inj c1) (by decide)
theorem drw0{A:Around}{it l:Addr}(hh:A.handled=none)(hi:its[i]?=none):Draws P w A it [it,l] i (λ_ _=>True) (λj h=>j=i/\h.IsListIter it l i/\h.IsList l its) where
 live:=λ_ _ ⟨_,⟨o,ho,_⟩,_⟩=>⟨o,ho⟩
 frame:=λ_ _ _ ⟨e,a,b⟩ c=>⟨e,a.at λo q=>c it (by simp) o q,b.at λo q=>c l (by simp) o q⟩
 item:=λj _ _ _ hj ⟨e,_⟩=>absurd hj (by omega)
 done:=λ_ _ _ ⟨_,a,b⟩ hE=>wpAny_nextOf_list_end hh a b hi hE
variable {elts:List Expr}{kk:Nat}{tpos:Pos}
theorem Qu{K:k9}(k:Nat)(l e it:Addr)(hei:e≠it) :
  Turn P w K (.Tuple elts kk tpos) (MJ K k l) [e,it] e (λi h=>(∃old,IsEnum h e it ((k+i:Nat):Int) old)/\h.IsListIter it l i) where
 mem:=by simp
 obj:=λi h st b hb=>by
  obtain⟨⟨old,he⟩,o,hi,hc,hd⟩:=st;obtain rfl|hb:=ya9.mp hb
  .exact⟨_,he,λv z=>by
    have z':Data.fields _=Data.cell v:=z;cases z'⟩
  .have q:b=it:=by simpa using hb
   subst q;exact⟨o,hi,λv z=>by rw[hd]at z;cases z⟩
 keep:=λi h h' st k=>by
  obtain⟨⟨old,he⟩,hi⟩:=st;exact⟨⟨old,k e (by simp) _ he⟩,hi.at λo q=>k it (by simp) o q⟩
 item:=by
  intro X hP hw hK hc i pins s σ H E I hf st hg;subst hP hw hK;obtain⟨⟨old,he⟩,hit⟩:=st;obtain⟨xs,x,hq,hx⟩:=hg;obtain⟨its,rv,p,hz⟩:=I.list hq;obtain⟨u,hu,ru⟩:=rv.get hx;have elt:e<s.heap.objs.size:=yaf he;have ilt:it<s.heap.objs.size:=by obtain⟨o,q,_⟩:=hit;exact yaf q
  have hn:H s.heap.objs.size=none:=I.hok.fresh (yae _);obtain⟨n1,n2⟩:=zkq he hit p.isList;have hlt:i<its.toArray.size:=by simpa using (ya6.mp hu).1
  refine wpAny_pyNext_enum_itemD (drw (Draws.list (A:=X.A.in1) (I.ok.hd hc) it l n1 _) k) he ⟨i,rfl,hit,p.isList⟩ (by omega) hei (by simp[hei,ybc n2]) λx' h' tk hx' ho hit' hT hsz hk=>?_
  obtain⟨i',e1,hx'⟩:=hx';have e1:i'=i:=by omega
  subst e1
  have e2:x'=u:=by
   rw[List.getElem?_toArray,hu]at hx';exact(yao hx').symm
  subst e2;obtain⟨i2,e2,hit',_⟩:=hit';have e2:i2=i'+1:=by omega
  subst e2
  have I1:Inv X pins σ (upd H s.heap.objs.size (.tup [.int ((k+i':Nat):Int),x])) { s with heap:=h',toks:=tk+1 }:=by
   refine Qt (ch:=[e,it]) I (λb o hb q=>hk b o (λz=>hb (by simp[z])) (λz=>hb (by simp[z])) q) hf (yae _) ?_
   exact⟨by simp only[yaj,yb0];rw[yf0];decide,[.int ((k+i':Nat):Int) tk,x'],.cons ⟨_,rfl⟩ (.cons ru .nil),_,hT,rfl,0,rfl⟩
  have f1:∀b∈[e,it],C1 X pins (upd H s.heap.objs.size (.tup [.int ((k+i':Nat):Int),x])) b:=λb hb=>Wd (hf b hb) (by
   obtain rfl|hb:=ya9.mp hb
   .exact yav elt
   .have q:b=it:=by simpa using hb
    subst q;exact yav ilt)
  refine⟨.ref s.heap.objs.size,rfl,wpAny_letOwnedTupleGo_enum ho λh2 he2 hs2=>?_⟩
  refine⟨.ref s.heap.objs.size,_,G1 (t':=tk+1) (ch:=[e]) I1 (λb o hb q=>hs2.extBut b o (λz=>hb (by simp[z])) q) (λb hb=>f1 b (by simp at hb;simp[hb])),rfl,⟨_,x,rfl,hn,rfl,λys hy=>by rw[I.list_inj hy hq];exact hx⟩,⟨⟨_,by simpa[Int.add_assoc] using he2⟩,hit'.extBut hs2.extBut hei.symm⟩,λb hb=>(f1 b hb).1⟩
 done:=by
  intro X hP hw hK hc i pins s σ H E I hf st hg;subst hP hw hK;obtain⟨⟨old,he⟩,hit⟩:=st;obtain⟨xs,hq,hx⟩:=hg;obtain⟨its,rv,p,hz⟩:=I.list hq;have hl:=rv.length;exact wpAny_pyNext_enum_endD (drw0 (A:=X.A.in1) (its:=its.toArray) (i:=i) (I.ok.hd hc) (by simp;omega)) he ⟨rfl,hit,p.isList⟩ λh' eb=>⟨rfl,G1 (t':=s.toks) (ch:=[it]) I (λb o hb q=>eb b o (λz=>hb (by simp[z])) q) (λb hb=>hf b (by simp at hb;simp[hb]))⟩
 self:=λ_ _ _ _ _ st h=>yfd st.1.choose_spec h
def Q6(K:k9)(l1 l2:Addr):It :=
  ⟨λi H=>∃xs x ys y,A9 K H l1 xs/\xs[i]?=some x/\A9 K H l2 ys/\ys[i]?=some y,
   λi H x H'=>∃p y z,x=.ref p/\H p=none/\H'=upd H p (.tup [y,z])/\(∀xs,A9 K H l1 xs->xs[i]?=some y)/\∀xs,A9 K H l2 xs->xs[i]?=some z,
   λi H=>∃xs ys,A9 K H l1 xs/\A9 K H l2 ys/\(xs.length<=i\/ys.length<=i)⟩
theorem zg6{K:k9}(z TI TO i1 i2 l1 l2:Addr)(D:ZipApart z TI TO i1 i2 l1 l2) :
  Turn P w K (.Tuple elts kk tpos) (Q6 K l1 l2) [z,TI,TO,i1,i2] z (λi h=>IsZip h z TI TO .none/\IsPair h TI (.ref i1) (.ref i2)/\(∃a b,IsPair h TO a b)/\h.IsListIter i1 l1 i/\h.IsListIter i2 l2 i) where
 mem:=by simp
 obj:=λi h st b hb=>by
  obtain⟨hz,hTI,⟨a,c,hTO⟩,⟨o1,e1,_,d1⟩,⟨o2,e2,_,d2⟩⟩:=st;simp only[ya9,yb7,yfe]at hb;rcases hb with rfl|rfl|rfl|rfl|rfl
  .exact⟨_,hz,λv z=>by
    have z':Data.fields _=Data.cell v:=z;cases z'⟩
  .exact⟨_,hTI,λv z=>by
    have z':Data.seq _ _=Data.cell v:=z;cases z'⟩
  .exact⟨_,hTO,λv z=>by
    have z':Data.seq _ _=Data.cell v:=z;cases z'⟩
  .exact⟨o1,e1,λv z=>by rw[d1]at z;cases z⟩
  .exact⟨o2,e2,λv z=>by rw[d2]at z;cases z⟩
 keep:=λi h h' st k=>by
  obtain⟨hz,hTI,⟨a,c,hTO⟩,h1,h2⟩:=st;exact⟨k z (by simp) _ hz,k TI (by simp) _ hTI,⟨a,c,k TO (by simp) _ hTO⟩,h1.at λo q=>k i1 (by simp) o q,h2.at λo q=>k i2 (by simp) o q⟩
 item:=by
  intro X hP hw hK hc i pins s σ H E I hf st hg;subst hP hw hK;obtain⟨hz,hTI,⟨a,c,hTO⟩,h1,h2⟩:=st;obtain⟨xs,x,ys,y,hq,hx,hq2,hy⟩:=hg;obtain⟨its,rv,p,hzz⟩:=I.list hq;obtain⟨its2,rv2,p2,hzz2⟩:=I.list hq2;obtain⟨u,hu,ru⟩:=rv.get hx;obtain⟨u2,hu2,ru2⟩:=rv2.get hy;have hn:H s.heap.objs.size=none:=I.hok.fresh (yae _)
  have lt:∀b∈[z,TI,TO,i1,i2],b≠s.heap.objs.size:=λb hb=>by
   simp only[ya9,yb7,yfe]at hb;rcases hb with rfl|rfl|rfl|rfl|rfl
   .exact yav (yaf hz)
   .exact yav (yaf hTI)
   .exact yav (yaf hTO)
   .obtain⟨o,q,_⟩:=h1;exact yav (yaf q)
   .obtain⟨o,q,_⟩:=h2;exact yav (yaf q)
  refine wpAny_pyNext_zip_item D hz hTI hTO h1 h2 p.isList p2.isList (x:=u) (y:=u2) (by simpa using hu) (by simpa using hu2) λh' a1 a2 a3 a4 a5 a6 hk=>?_
  have I1:Inv X pins σ (upd H s.heap.objs.size (.tup [x,y])) { s with heap:=h',toks:=s.toks }:=by
   refine Qt (ch:=[z,TI,TO,i1,i2]) I (λb o hb q=>hk b o (λz=>hb (by simp[z])) (λz=>hb (by simp[z])) (λz=>hb (by simp[z])) (λz=>hb (by simp[z])) q) hf (yae _) ?_
   exact⟨by simp only[yaj,yb0];rw[yf0];decide,[u,u2],.cons ru (.cons ru2 .nil),_,a5,rfl,0,rfl⟩
  have f1:∀b∈[z,TI,TO,i1,i2],C1 X pins (upd H s.heap.objs.size (.tup [x,y])) b:=λb hb=>Wd (hf b hb) (lt b hb)
  refine⟨.ref s.heap.objs.size,rfl,wpAny_letOwnedTupleGo_zip a1 λh3 hz3 hs3=>?_⟩
  refine⟨.ref s.heap.objs.size,_,G1 (t':=s.toks) (ch:=[z]) I1 (λb o hb q=>hs3.extBut b o (λz=>hb (by simp[z])) q) (λb hb=>f1 b (by simp at hb;simp[hb])),rfl,⟨_,x,y,rfl,hn,rfl,(λzs hy'=>by rw[I.list_inj hy' hq];exact hx),λzs hy'=>by rw[I.list_inj hy' hq2];exact hy⟩,?_,λb hb=>(f1 b hb).1⟩
  exact⟨hz3,hs3.extBut _ _ D.TIz (hk _ _ D.TIz D.TITO D.TIi1 D.TIi2 hTI),⟨_,_,hs3.extBut _ _ D.TOz a2⟩,a3.extBut hs3.extBut D.i1z,a4.extBut hs3.extBut D.i2z⟩
 done:=by
  intro X hP hw hK hc i pins s σ H E I hf st hg;subst hP hw hK;obtain⟨hz,hTI,⟨a,c,hTO⟩,h1,h2⟩:=st;obtain⟨xs,ys,hq,hq2,hx⟩:=hg;obtain⟨its,rv,p,hzz⟩:=I.list hq;obtain⟨its2,rv2,p2,hzz2⟩:=I.list hq2;have hl:=rv.length;have hl2:=rv2.length;refine wpAny_pyNext_zip_end (I.ok.hd hc) D hz hTI hTO h1 h2 p.isList p2.isList ?_ λh' hk=>⟨rfl,G1 (t':=s.toks) (ch:=[z,TI,TO,i1,i2]) I (λb o hb q=>hk b o (λz=>hb (by simp[z])) (λz=>hb (by simp[z])) (λz=>hb (by simp[z])) (λz=>hb (by simp[z])) q) hf⟩
  rcases hx with hx|hx
  .exact .inl (by simp;omega)
  .exact .inr (by simp;omega)
 self:=λ_ _ _ _ _ st h=>wpAny_pyIter_zip st.1 h
section
def iEnum(K:k9)(ta:TA):TI:=λσ H R=>ta σ H λvs H1=>∃a,vs=[.ref a]/\(∃xs,A9 K H1 a xs)/\R (MJ K 0 a) H1
theorem zjb{ta:TA}{p:Pos}(hg:Gl X "enumerate")(hm:X.mg "enumerate"=none)(ha:PA X [a] ta)(hs:starEach [a] X.env=[(false,eval a X.env)]):PI X (.Tuple elts kk tpos) (.Call (.Name "enumerate" p) [a] [] pos) (iEnum X.K ta):=by
 intro pins s σ H R I h;refine Call_ (Fw I hg hm boot_enumerate (ybz (AZ (ha pos pins s σ H _ I h) λus s1 ⟨vs,H1,I1,r1,q1⟩=>?_) hs rfl))
 obtain⟨l,e,⟨xs,hq⟩,q⟩:=q1;subst e;obtain⟨u,rfl,ru⟩:=Ek r1;cases ru;obtain⟨its,rv,pl,hz⟩:=I1.list hq;have llt:l<s1.heap.objs.size:=by obtain⟨o,n,e,_⟩:=pl;exact yaf e
 refine call_enumerate_list pl.isList λh' he hit hsz hk=>?_
 have I2:Inv X pins σ H1 { s1 with heap:=h',toks:=s1.toks }:=I1.kept hk
 refine yfd he ⟨s1.heap.objs.size+1,[s1.heap.objs.size+1,s1.heap.objs.size],_,_,H1,rfl,I2,Qu 0 l _ _ (by simp),⟨⟨_,by simpa using he⟩,hit⟩,λb hb=>?_,q⟩
 have hb':s1.heap.objs.size<=b:=by
  obtain rfl|hb:=ya9.mp hb
  .exact ycc _
  .have e:b=s1.heap.objs.size:=by simpa using hb
   subst e;exact yae _
 exact I1.fpOk hb' (I1.hok.fresh hb')
def iZip(K:k9)(ta:TA):TI:=λσ H R=>ta σ H λvs H1=>∃a b,vs=[.ref a,.ref b]/\(∃xs,A9 K H1 a xs)/\(∃xs,A9 K H1 b xs)/\R (Q6 K a b) H1
theorem zmm{b:Expr}{ta:TA}{p:Pos}(hg:Gl X "zip")(hm:X.mg "zip"=none)(ha:PA X [a,b] ta)(hs:starEach [a,b] X.env=[(false,eval a X.env),(false,eval b X.env)])(hs2:starEach [b] X.env=[(false,eval b X.env)]):PI X (.Tuple elts kk tpos) (.Call (.Name "zip" p) [a,b] [] pos) (iZip X.K ta):=by
 intro pins s σ H R I h;refine Call_ (Fw I hg hm boot_zip (ybz (AZ (ha pos pins s σ H _ I h) λus s1 ⟨vs,H1,I1,r1,q1⟩=>?_) (by rw[hs,hs2]) (by rw[hs2];rfl)))
 obtain⟨l1,l2,e,⟨xs,hq⟩,⟨ys,hq2⟩,q⟩:=q1;subst e;obtain⟨u,u2,rfl,ru,ru2⟩:=IJ r1;cases ru;cases ru2;obtain⟨its,rv,pl,hz⟩:=I1.list hq;obtain⟨its2,rv2,pl2,hz2⟩:=I1.list hq2;have llt:l1<s1.heap.objs.size:=by obtain⟨o,n,e,_⟩:=pl;exact yaf e
 have llt2:l2<s1.heap.objs.size:=by obtain⟨o,n,e,_⟩:=pl2;exact yaf e
 refine call_zip_2 pl.isList pl2.isList λh' a1 a2 a3 a4 a5 a6 hk=>?_
 have I2:Inv X pins σ H1 { s1 with heap:=h',toks:=s1.toks }:=I1.kept hk
 have D:ZipApart (s1.heap.objs.size+4) (s1.heap.objs.size+2) (s1.heap.objs.size+3) s1.heap.objs.size (s1.heap.objs.size+1) l1 l2:=by
  have n1:∀k:Nat,l1≠s1.heap.objs.size+k:=λk z=>ybd _ (yan llt (z▸ycp _ _))
  have n2:∀k:Nat,l2≠s1.heap.objs.size+k:=λk z=>ybd _ (yan llt2 (z▸ycp _ _))
  refine⟨?_,?_,?_,?_,?_,?_,?_,?_,?_,?_,n1 4,n1 3,n1 0,n1 1,n2 4,n2 3,n2 0,n2 1⟩<;>intro z<;>simp at z
 refine wpAny_pyIter_zip a1 ⟨_,[s1.heap.objs.size+4,s1.heap.objs.size+2,s1.heap.objs.size+3,s1.heap.objs.size,s1.heap.objs.size+1],_,_,H1,rfl,I2,zg6 _ _ _ _ _ l1 l2 D,⟨a1,a2,⟨_,_,a3⟩,a4,a5⟩,λb hb=>?_,q⟩
 have hb':s1.heap.objs.size<=b:=by
  simp only[ya9,yb7,yfe]at hb;rcases hb with rfl|rfl|rfl|rfl|rfl
  .exact ycp _ _
  .exact ycp _ _
  .exact ycp _ _
  .exact yae _
  .exact ycp _ _
 exact I1.fpOk hb' (I1.hok.fresh hb')
end
variable {kvs:List (Key×V)}
section
variable {a:Addr}{o:Obj}
theorem znp{vs:List (Key×Value)}(r:KV kvs vs):kvs.length=vs.length:=ye8 (show Paired _ kvs vs from r)
end
variable {o:Expr}
section
variable {to:TE}{ap cp:Pos}
end
def IP(ifs:List Expr)(env:Env):Sem Bool:=forIn ifs true λc r=>if r=true then do let ok <- isTrue c env (eval c env);pure (ForInStep.yield ok) else pure (ForInStep.yield r)
def GS(X:Cx)(ifs:List Expr)(t:TT):Prop :=
 ∀(pins:List (Addr×Obj)) (s:Shared) (σ:L2.St) (H:Hp) (Q:Bool->Hp->Prop),Inv X pins σ H s->t σ H Q->wpAny (model X.prog X.w) X.A (IP ifs X.env) (TP X pins σ Q) X.xe s
theorem zj1:GS X [] (λ_ H Q=>Q true H):=λpins s σ H Q I h=>yew ⟨H,I,h⟩
theorem zj0{t:TT}(h:PT X c t):GS X [c] t:=λpins s σ H Q I q=>by
 have e:IP [c] X.env=(isTrue c X.env (eval c X.env) >>= λok=>pure ok):=by
  unfold IP;simp[List.forIn_cons]
 rw[e];exact yet (yep (h pins s σ H Q I q) (λb s1 h1=>yew h1) λ_ _ z=>z)
variable {elt:Expr}{ifs:List Expr}{scope:Scope}{env:Env}
theorem ze7{target iter:Expr}{it acc:Value}:compTurn (.ListComp elt [⟨target,iter,ifs,0⟩] scope pos) 0 it acc env=(standAt iter.pos >>= λ_=>pyNext it >>= λr=>match r with
  |none=>pure (.done .next)
  |some u=>letOwnedTupleGo target it u >>= λ_=>assign target env u >>= λ_=>IP ifs env >>= λok =>
   if ok=true then ((eval elt env >>= λx=>call (.builtin "list.append") [acc,x] >>= λ_=>pure ()) >>= λ_=>again (.compLoop (.ListComp elt [⟨target,iter,ifs,0⟩] scope pos) 0 it acc env))
   else again (.compLoop (.ListComp elt [⟨target,iter,ifs,0⟩] scope pos) 0 it acc env)):=by rfl
variable {prog:Program}
theorem ze8{A:Around}{R:Result->Shared->Prop}{target iter:Expr}{it acc:Value}{NE:Value->Shared->Prop}(hN:NE=notedBy (model prog w) A env λe s'=>R (.error e) s')(I:Nat->Shared->Prop)(hturn:∀n s,I n s->wpAny (model prog w) A (pyNext it) (λr s₁=>match r with
   |none=>R (.ok .next) s₁
   |some v=>wpAny (model prog w) A (letOwnedTupleGo target it v) (λ_ s₁'=>wpAny (model prog w) A (assign target env v) (λ_ s₂=>wpAny (model prog w) A (IP ifs env) (λok s₂'=>if ok=true then wpAny (model prog w) A (eval elt env) (λx s₃ =>
     wpAny (model prog w) A (call (.builtin "list.append") [acc,x]) (λ_ s₄=>∃m,m<n/\I m s₄) NE s₃)
     NE s₂' else ∃m,m<n/\I m s₂') NE s₂) NE s₁') NE s₁) NE s) (k:Nat) (hk:I k s):codeAny (model prog w) A (.compLoop (.ListComp elt [⟨target,iter,ifs,0⟩] scope pos) 0 it acc env) R s:=by
 subst hN;refine codeAny_loop rfl I (λn s hI=>?_) k hk
 show wpAny _ _ ((compTurn (.ListComp elt [⟨target,iter,ifs,0⟩] scope pos) 0 it acc env).onRaise (λy=>do noteFrame y env;theTreesLotGoes y)) _ _ s
 refine wpAny_noted ?_;rw[ze7];refine yet (yev (yet (yep (hturn n s hI) (λr s₁ h₁=>?_) λ_ _ z=>z)))
 cases r with
 |none=>exact yew h₁
 |some v =>
  refine yet (yep h₁ (λ_ s₁' h₁'=>?_) λ_ _ z=>z)
  refine yet (yep h₁' (λ_ s₂ h₂=>yet (yep h₂ (λok s₂' h₂'=>?_) λ_ _ z=>z)) λ_ _ z=>z)
  cases ok with
  |false =>
   rw[if_neg (by decide)]at h₂' ⊢
   exact yew ⟨rfl,h₂'⟩
  |true =>
   rw[if_pos rfl]at h₂' ⊢;exact yet (yet (yep h₂' (λx s₃ h₃=>yet (yep h₃ (λ_ s₄ h₄=>yew (yew ⟨rfl,h₄⟩)) λ_ _ z=>z)) λ_ _ z=>z))
theorem Pl(env:Env):∀(names:List (Str×NameKind)),(∀y∈names,y.2=.free->∃c,env.cells.lookup y.1=some c)->∀acc:List (Str×Addr),∃cl:List (Str×Addr),
  (forIn names acc λ(x:Str×NameKind) (r:List (Str×Addr))=>(if (x.2 == NameKind.free)=true then do let a <- cellOf env x.1;pure (ForInStep.yield ((x.1,a)::r)) else pure (ForInStep.yield r):Sem (ForInStep (List (Str×Addr)))))=(pure cl:Sem (List (Str×Addr))) /\
  (∀y c,cl.lookup y=some c->acc.lookup y=some c\/env.cells.lookup y=some c)/\(∀y∈names,y.2=.free->∃c,cl.lookup y.1=some c)/\∀y c,acc.lookup y=some c->∃c',cl.lookup y=some c'
 |[],_,acc=>⟨acc,rfl,λ_ _ e=>.inl e,(λ_ z=>by cases z),λ_ c e=>⟨c,e⟩⟩
 |(n,k)::r,h,acc=>by
  rw[List.forIn_cons]
  by_cases hk:k=.free
  .subst hk;obtain⟨c,hc⟩:=h (n,.free) (ya5 ..) rfl;have e1:cellOf env n=pure c:=by unfold cellOf;rw[hc]
   obtain⟨cl,e,h1,h2,h3⟩:=Pl env r (λy hy=>h y (ya4 _ hy)) ((n,c)::acc)
   refine⟨cl,?_,λy c' q=>?_,λy hy hf=>?_,λy c' q=>?_⟩
   .simp only[yff,yf3,e1,pure_bind];exact e
   .rcases h1 y c' q with z|z
    .rw[yb5]at z;cases hy:y == n with
     |true =>
      rw[hy]at z;cases z;exact .inr (by rw[eq_of_beq hy];exact hc)
     |false=>rw[hy]at z;exact .inl z
    .exact .inr z
   .obtain rfl|hy:=ya9.mp hy
    .exact h3 n c (by simp)
    .exact h2 y hy hf
   .by_cases hy:y=n
    .subst hy;exact h3 y c (by simp)
    .exact h3 y c' (by rw[yb5,beq_eq_false_iff_ne.mpr hy];exact q)
  .have hk':(k == NameKind.free)=false:=beq_eq_false_iff_ne.mpr hk;obtain⟨cl,e,h1,h2,h3⟩:=Pl env r (λy hy=>h y (ya4 _ hy)) acc
   refine⟨cl,?_,h1,λy hy hf=>?_,h3⟩
   .simp only[hk',pure_bind];exact e
   .obtain rfl|hy:=ya9.mp hy
    .exact absurd hf hk
    .exact h2 y hy hf
theorem zdc(scope:Scope)(env:Env)(h:∀y∈scope.names,y.2=.free->∃c,env.cells.lookup y.1=some c):∃cl,closureFor scope env=pure cl/\(∀y c,cl.lookup y=some c->env.cells.lookup y=some c)/\∀y∈scope.names,y.2=.free->∃c,cl.lookup y.1=some c:=by
 obtain⟨cl,e,h1,h2,_⟩:=Pl env scope.names h [];refine⟨cl,?_,λy c q=>?_,h2⟩
 .have e2:closureFor scope env=(forIn scope.names [] λ(x:Str×NameKind) (r:List (Str×Addr))=>(if (x.2 == NameKind.free)=true then do let a <- cellOf env x.1;pure (ForInStep.yield ((x.1,a)::r)) else pure (ForInStep.yield r):Sem (ForInStep (List (Str×Addr))))) >>= pure:=rfl
  rw[e2,e,pure_bind]
 .rcases h1 y c q with z|z
  .cases z
  .exact z
theorem Pn:∀(names:List (Str×NameKind)) (h:Heap) (acc:List (Str×Addr)) (y:Str) (c:Addr),(cellsFrom h.objs.size names acc).lookup y=some c->acc.lookup y=some c\/(h.objs.size<=c/\(pushCells h names).IsCell c none/\(y,NameKind.cell)∈names)
 |[],h,acc,y,c,e=>.inl e
 |(n,k)::r,h,acc,y,c,e=>by
  unfold cellsFrom at e;unfold pushCells;split at e
  .rename_i hk;rw[if_pos hk];have ez:(h.push { cls:=.type "cell",data:=.cell none }).objs.size=h.objs.size+1:=ybw ..;rw[<- ez]at e
   rcases Pn r _ _ y c e with q|⟨q1,q2,q3⟩
   .rw[yb5]at q;cases hy:y == n with
    |true =>
     rw[hy]at q;cases q;have e1:y=n:=eq_of_beq hy;subst e1;exact .inr ⟨yae _,⟨_,yfg _ _ _ _ (yaw _ rfl),rfl⟩,by rw[eq_of_beq hk];exact ya5 ..⟩
    |false=>rw[hy]at q;exact .inl q
   .exact .inr ⟨by rw[ez]at q1;exact yak (ycc _) q1,q2,ya4 _ q3⟩
  .rename_i hk;rw[if_neg hk]
   rcases Pn r h acc y c e with q|⟨q1,q2,q3⟩
   .exact .inl q
   .exact .inr ⟨q1,q2,ya4 _ q3⟩
theorem Po:∀(names:List (Str×NameKind)) (h:Heap) (acc:List (Str×Addr)),(∀y z c,acc.lookup y=some c->acc.lookup z=some c->y=z)->(∀y c,acc.lookup y=some c->c<h.objs.size) ->
  ∀y z c,(cellsFrom h.objs.size names acc).lookup y=some c->(cellsFrom h.objs.size names acc).lookup z=some c->y=z
 |[],h,acc,hi,_=>hi
 |(n,k)::r,h,acc,hi,hl=>by
  unfold cellsFrom;split
  .have ez:(h.push { cls:=.type "cell",data:=.cell none }).objs.size=h.objs.size+1:=ybw ..;rw[<- ez];refine Po r _ _ (λy z c h1 h2=>?_) (λy c h1=>?_)
   .rw[yb5]at h1 h2;cases hy:y == n with
    |true =>
     rw[hy]at h1;cases h1;cases hz:z == n with
     |true=>rw[eq_of_beq hy,eq_of_beq hz]
     |false =>
      rw[hz]at h2;exact absurd (hl z _ h2) (ybd _)
    |false =>
     rw[hy]at h1;cases hz:z == n with
     |true =>
      rw[hz]at h2;cases h2;exact absurd (hl y _ h1) (ybd _)
     |false=>rw[hz]at h2;exact hi y z c h1 h2
   .rw[yb5]at h1;rw[ez];cases hy:y == n with
    |true=>rw[hy]at h1;cases h1;exact yca _
    |false=>rw[hy]at h1;exact ycn (hl y c h1)
  .exact Po r h acc hi hl
theorem Pm:∀(names:List (Str×NameKind)) (n lo:Nat) (acc:List (Str×Addr)) (y:Str) (c:Addr),lo<=n->((y,NameKind.cell)∈names\/∃c0,acc.lookup y=some c0/\lo<=c0)->(cellsFrom n names acc).lookup y=some c->lo<=c
 |[],n,lo,acc,y,c,hn,h,e=>by
  rcases h with h|⟨c0,h1,h2⟩
  .cases h
  .have e':acc.lookup y=some c:=e;rw[h1]at e';cases e';exact h2
 |(m,k)::r,n,lo,acc,y,c,hn,h,e=>by
  unfold cellsFrom at e;split at e
  .refine Pm r (n+1) lo _ y c (Nat.le_succ_of_le hn) ?_ e
   by_cases hy:y=m
   .subst hy;exact .inr ⟨n,by simp,hn⟩
   .rcases h with h|⟨c0,h1,h2⟩
    .rcases ya9.mp h with z|z
     .cases z;exact absurd rfl hy
     .exact .inl z
    .exact .inr ⟨c0,by rw[yb5,beq_eq_false_iff_ne.mpr hy];exact h1,h2⟩
  .rename_i hk;refine Pm r n lo acc y c hn ?_ e
   rcases h with h|h
   .rcases ya9.mp h with z|z
    .cases z;exact absurd rfl hk
    .exact .inl z
   .exact .inr h
theorem zc3{M:Model}{A:Around}{E:Value->Shared->Prop}{globals:Addr}{cl:List (Str×Addr)}{qual:Str}{func:Option Addr}{code:Value}{outer:Env}{builtins:Addr}{Q:Env->Shared->Prop}(hQ:Q (newEnv scope s.heap.objs.size globals (cellsFrom (s.heap.objs.size+1) scope.names cl) qual func code (some outer) builtins) { s with heap:=pushCells (s.heap.push { cls:=.type "dict",data:=.dict #[] }) scope.names }) :
  wpAny M A (newFunctionEnv scope globals cl [] qual func code (some outer) builtins) Q E s:=by
 simp only[newFunctionEnv,Option.isSome_some,yf3];refine yet (wpAny_alloc ?_);refine yet (wpAny_layCells _ (λname kind cells=>by cases hkc:kind == NameKind.cell<;>simp[hkc]) _ _ _ _ ?_);rw[show({ s with heap:=s.heap.push { cls:=.type "dict",data:=.dict #[] } }:Shared).heap.objs.size=s.heap.objs.size+1 from ybw ..]
 rw[List.forIn_nil];exact yet (yew (yew hQ))
abbrev Aw(X:Cx)(scope:Scope)(cl:List (Str×Addr))(N':List Str)(C:Addr)(s₀:Shared)(H₀:Hp)(ex:List Addr)(xb:Value->Shared->Prop):Cx:={ zoe X scope cl N' C s₀ H₀ ex with fn:=λx=>decide (scope.names.lookup x=some .cell),xe:=xb }
theorem X7{h h' B B':Heap}(k:∀b o,B.get? b=none->h.get? b=some o->(∀us,o.data≠.fields us)->B'.get? b=none/\∃o',h'.get? b=some o'/\∀us,o'.data≠.fields us):∀{l:List Env},h.FunFrames B l->h'.FunFrames B' l
 |[],_=>trivial
 |_::_,⟨x,⟨L,o,y1,y2,y3,y4⟩,r⟩=>by
  obtain⟨z1,o',z2,z3⟩:=k L o y2 y3 y4;exact⟨x,⟨L,o',y1,z1,z2,z3⟩,X7 k r⟩
def HA(X:Cx):Prop:=∃v l,X.stack=v::l/\X.env.frame=v.frame
variable {C:Addr}
theorem zfp{s':Shared}{benv:Env}{e acc:Value}{use:Option (Value->Sem Unit)}{QQ:Value->Shared->Prop}{EE:Value->Shared->Prop}(hx:BH X E)(hst:HA X)(I:Inv X pins σ H s)(fC:C1 X pins H C)(hC:∃m,s.heap.Ns C m)(nC:C∉BK X.stack)(hb:benv.frame=X.env.frame)(h:Bo X.prog X.w X.stack H s (E σ) e s'):wpAny (model X.prog X.w) X.A (noteFrame e benv) (λ_ s2=>compPost (model X.prog X.w) X.A X.xe use QQ acc C (.error e) s2) EE s':=by
 obtain⟨v,l,st,hv⟩:=hst;obtain⟨a,cls,H',B,rfl,os,bare,un,hok,kB,tB,fl0,he⟩:=h;have fl1:HB B (v::l) a cls s'.heap:=st▸fl0
 obtain⟨L,hL⟩:∃L,v.frame=some L:=by
  obtain⟨_,_,_,⟨_,⟨L,_,y,_⟩,_⟩,_⟩:=fl1;exact⟨L,y⟩
 refine N6 (st▸I.ok.frames) (hb.trans hv) hL fl1 λh4 held sm=>?_
 obtain⟨m,oC,es,ep,hCo,dC,rC⟩:=hC;have bC:B.get? C=some oC:=kB C oC hCo fC.1 nC;obtain⟨f1,f2,f3,oe,ws,Tb,oT,ts,ha,hcl,hd,g1,nT,Tne,hT,dT,g3⟩:=held
 have hne:∀{b:Addr},B.get? b=none->b≠C:=λz w=>by
  rw[w,bC]at z;cases z
 have key:∃m,h4.Ns C m/\∀h',Heap.SameBut C h4 h'->∀cenv:Env,cenv.locals=C->wpAny (model X.prog X.w) X.A (PySem.passOn "comprehension.variables-let-go" (.ref a) cenv:Sem Value) (λ_ _=>False) X.xe { s' with heap:=h' }:=by
  refine⟨m,⟨oC,es,ep,f1 C oC bC,dC,rC⟩,λh5 sb cenv _=>?_⟩
  have ha5:h5.get? a=some oe:=(sb.2 a (hne f2)).trans ha;have hT5:h5.get? Tb=some oT:=(sb.2 Tb (hne nT)).trans hT;unfold PySem.passOn;refine yet (yf9 ha5 hd g1 ?_);rw[if_neg (by simp)]
  refine yet ?_;unfold setFlight;refine yet (yf9 ha5 hd g1 ?_);rw[if_pos (by simp)]
  refine yf8 hT5 dT (yc2.mp g3).1 (wpAny_throw ?_);generalize hfl:(cenv.frame.elim Value.none λf=>rawInt f)=fl
  have dT6:=yd6 dT (·.setIfInBounds 3 fl);have hT6:=ycw (Obj.mapFields (·.setIfInBounds 3 fl)) hT5 (ydo dT6);generalize hh6:h5.update Tb (Obj.mapFields (·.setIfInBounds 3 fl))=h6 at hT6 ⊢
  have to6:∀b o,b≠C->b≠Tb->h4.get? b=some o->h6.get? b=some o:=λb o n1 n2 e=>by
   rw[<- hh6,ybo _ _ (ybc n2)];exact(sb.2 b n1).trans e
  have B6:∀b o,b≠C->B.get? b=some o->h6.get? b=some o:=λb o n e=>to6 b o n (λz=>by rw[z,nT]at e;cases e) (f1 b o e)
  have hid:∀{b:Addr} {o:Obj},(PySem.W.hideAll s.heap [C]).get? b=some o->s.heap.get? b=some o/\b≠C:=λ{b o} e=>⟨ycs _ e,λz=>by
   rw[z,ydr [C] (ya8.mpr rfl)]at e;cases e⟩
  have hidB:∀{b:Addr} {o:Obj},b≠C->B.get? b=some o->(PySem.W.hideAll B [C]).get? b=some o:=λ{b o} n e=>yc9 _ e (λz=>n (ya8.mp z))
  have hidN:∀{b:Addr},B.get? b=none->(PySem.W.hideAll B [C]).get? b=none:=λ{b} e=>by
   cases q:(PySem.W.hideAll B [C]).get? b with
   |none=>rfl
   |some o =>
    rw[ycs _ q]at e;cases e
  have IX:Inv X pins σ H { s with heap:=PySem.W.hideAll s.heap [C] }:=G1 (t':=s.toks) (ch:=[C]) I (λb o n e=>yc9 _ e n) λb z=>by
   rw[ya8.mp z];exact fC
  have slot:∀b o,s.heap.get? b=some o->H b=none->b∈BK X.stack->∃z,h6.get? b=some { o with slots:=z }:=λb o e n z=>by
   obtain⟨_,o2,ho2,d2⟩:=I.stack.mem z;rw[e]at ho2;cases ho2;obtain⟨z2,e2⟩:=un.slot b o e n z (by simp)
   obtain⟨z3,e3⟩:=sm b _ e2 d2;refine⟨z3,to6 b _ (λw=>nC (w▸z)) (λw=>?_) e3⟩
   rw[w,hT]at e3;cases e3;exact d2 _ dT
  have HC:H' C=none:=un.free C oC hCo fC.1 (by simp)
  refine hx pins σ H _ _ _ IX ⟨a,cls,H',PySem.W.hideAll B [C],rfl,os,bare,⟨λb o e n z _=>?_,λb o e n z _=>slot b o (hid e).1 n z,λb o e n z=>un.free b o (hid e).1 n z,λb o e _=>?_,un.tups,un.frzs,un.tbls⟩,?_,λb o e n z=>hidB (hid e).2 (kB b o (hid e).1 n z),λb o e z=>?_,⟨fl,λb o e=>?_,hidN f2,?_,?_⟩,he⟩
  .exact B6 b o (hid e).2 (kB b o (hid e).1 n z)
  .by_cases z:b∈BK X.stack
   .obtain⟨w,q⟩:=slot b o (hid e).1 (I.stkFree b z) z;exact⟨_,q⟩
   .obtain⟨o',q⟩:=tB b o (hid e).1 z;exact⟨o',B6 b o' (hid e).2 q⟩
  .intro b u e;refine(hok b u e).stay (λc x hc q=>hidB (λw=>?_) q) (λ_ q=>q) λ_ _ q=>q
   rcases hc with y|y
   .rw[<- y,w,HC]at e;cases e
   .rw[w,HC]at y;cases y
  .obtain⟨o',q⟩:=tB b o (hid e).1 z;exact⟨o',hidB (hid e).2 q⟩
  .have e':=ycs _ e;refine B6 b o (λw=>?_) e'
   rw[w,ydr [C] (ya8.mpr rfl)]at e;cases e
  .rw[st];refine X7 (λb o n e d=>⟨hidN n,o,to6 b o (hne n) (λw=>?_) e,d⟩) f3
   rw[w,hT]at e;cases e;exact d _ dT
  .refine⟨oe,ws,Tb,_,_,?_,hcl,hd,g1,hidN nT,Tne,hT6,dT6,?_⟩
   .rw[<- hh6,ybo _ _ Tne];exact ha5
   .simp[Array.getElem?_setIfInBounds,(yc2.mp g3).1]
 cases use<;>exact key
structure TurnG(cq:Cx->Prop)(P:Program)(w:World)(K:k9)(tg:Expr)(J:It)(fp:List Addr)(it:Addr)(tn:Nat->Heap->Prop):Prop where
 obj:∀i h,tn i h->∀b∈fp,∃o,h.get? b=some o/\∀v,o.data≠.cell v
 keep:∀i h h',tn i h->(∀b∈fp,∀o,h.get? b=some o->h'.get? b=some o)->tn i h'
 item:∀(X:Cx),X.prog=P->X.w=w->X.K=K->cq X->∀(i:Nat) (pins:List (Addr×Obj)) (s:Shared) (σ:L2.St) (H:Hp) (E:Value->Shared->Prop),Inv X pins σ H s->(∀b∈fp,C1 X pins H b)->tn i s.heap->J.go i H ->
  wpAny (model P w) X.A (pyNext (.ref it)) (λr s1=>∃u,r=some u/\wpAny (model P w) X.A (letOwnedTupleGo tg (.ref it) u) (λ_ s2=>∃x H',Inv X pins σ H' s2/\RelV x u/\J.yld i H x H'/\tn (i+1) s2.heap/\∀b∈fp,H' b=none) E s1) E s
 done:∀(X:Cx),X.prog=P->X.w=w->X.K=K->cq X->∀(i:Nat) (pins:List (Addr×Obj)) (s:Shared) (σ:L2.St) (H:Hp) (E:Value->Shared->Prop),Inv X pins σ H s->(∀b∈fp,C1 X pins H b)->tn i s.heap->J.stop i H ->
  wpAny (model P w) X.A (pyNext (.ref it)) (λr s1=>r=none/\Inv X pins σ H s1) E s
 self:∀(A:Around) (i:Nat) (s:Shared) (Q:Value->Shared->Prop) (E:Value->Shared->Prop),tn i s.heap->Q (.ref it) s->wpAny (model P w) A (pyIter (.ref it)) Q E s
def PJ(cq:Cx->Prop)(X:Cx)(tg iter:Expr)(wi:TI):Prop :=
 ∀(pins:List (Addr×Obj)) (s:Shared) (σ:L2.St) (H:Hp) (R:It->Hp->Prop),Inv X pins σ H s->wi σ H R ->
  wpAny (model X.prog X.w) X.A (eval iter X.env) (λv s1=>wpAny (model X.prog X.w) X.A (pyIter v) (λitv s2=>∃(it:Addr) (fp:List Addr) (tn:Nat->Heap->Prop) (J:It) (H':Hp),itv=.ref it/\Inv X pins σ H' s2/\TurnG cq X.prog X.w X.K tg J fp it tn/\tn 0 s2.heap/\(∀b∈fp,C1 X pins H' b)/\R J H') X.xe s1) X.xe s
variable {tg:Expr}
theorem Tn{iter:Expr}{wi:TI}(h:PI X tg iter wi):PJ (λX=>X.calm=true) X tg iter wi:=λpins s σ H R I q =>
 AZ (h pins s σ H R I q) λ_ _ h1=>AZ h1 λ_ _ ⟨it,fp,tn,J,H',e,I2,T,r⟩=>⟨it,fp,tn,J,H',e,I2,⟨T.obj,T.keep,T.item,T.done,T.self⟩,r⟩
variable {pos2 pos':Pos}{N':List Str}{cq:Cx->Prop}{D:Ends}
section
variable {iter:Expr}{cl:List (Str×Addr)}{wi:TI}{g:TG}{tt:TT}{te:TE}
def Jt(σ':L2.St->L2.St)(wi:TI)(g:TG)(tt:TT)(te:TE):TE:=λσ H Q=>wi σ H λJ H1=>∃(W:Nat->List V->L2.St->Hp->Prop) (n:Nat),n<=sizeLine/\W 0 [] (σ' σ) H1/\∀i ys τ H,W i ys τ H->ys.length<=i/\i<=n /\
 ((J.stop i H/\∀p,H p=none->Q (.ref p) (upd H p (.lst ys)))\/(i<n/\J.go i H/\∀x H',J.yld i H x H'->g x τ H' λτ2 H2=>tt τ2 H2 λk H3=>if k=true then te τ2 H3 λy H4=>W (i+1) (ys++[y]) τ2 H4 else W (i+1) ys τ2 H3))
theorem Vs(σ':L2.St->L2.St)(hclos:closureFor scope X.env=pure cl)(hkind:scope.kind=.function)(hnames:∀y∈scope.names,y.2=.local->scope.names.lookup y.1=some .local)(hcl:∀y c,cl.lookup y=some c->X.env.cells.lookup y=some c)(hhas:∀y,(relabel scope X.env).names.lookup y=some .cell\/(relabel scope X.env).names.lookup y=some .free->(y,NameKind.cell)∈scope.names\/∃c,cl.lookup y=some c)(hcap:∀(σ:L2.St) (i:Nat) (y:Str) (v:V),N'[i]?=some y->(σ' σ)[i]?=some (some v)->(y,NameKind.cell)∉scope.names)(hσ:∀σ:L2.St,σ.length=X.N.length->(σ' σ).length=N'.length)(hvis:∀(σ:L2.St) (i:Nat) (y:Str) (v:V),N'[i]?=some y->(σ' σ)[i]?=some (some v)->((relabel scope X.env).names.lookup y=some .cell\/(relabel scope X.env).names.lookup y=some .free)/\∃j:Nat,X.N[j]?=some y/\σ[j]?=some (some v)/\D0 X.env.scope y/\X.env.kindOf y≠some .local)(hc:∀pins σ H s cl C ex xb,Inv X pins σ H s->cq (Aw X scope cl N' C s H ex xb))(hi:PJ cq X tg iter wi)(hps:BH X E)(hst:HA X)(hg:∀cl C s₀ H₀ ex xb,BH (Aw X scope cl N' C s₀ H₀ ex xb) (λ_=>E σ)->PG (Aw X scope cl N' C s₀ H₀ ex xb) tg g)(ht:∀cl C s₀ H₀ ex xb,BH (Aw X scope cl N' C s₀ H₀ ex xb) (λ_=>E σ)->GS (Aw X scope cl N' C s₀ H₀ ex xb) ifs tt)(he:∀cl C s₀ H₀ ex xb,BH (Aw X scope cl N' C s₀ H₀ ex xb) (λ_=>E σ)->PE (Aw X scope cl N' C s₀ H₀ ex xb) elt te)(hs:∀x,foldedSetIterable iter X.env x=pure x){use:Option (Value->Sem Unit)}{QQ:Value->Shared->Prop}(I:Inv X pins σ H s)(h:Jt σ' wi g tt te σ H Q)(hend:∀(D C:Addr) (s5:Shared) (H5:Hp),Inv X pins σ H5 s5->Q (.ref D) H5->(∃m,s5.heap.Ns C m)->C1 X pins H5 C->compPost (model X.prog X.w) X.A X.xe use QQ (.ref D) C (.ok .next) s5) :
  wpAny (model X.prog X.w) X.A (comprehension (.ListComp elt [⟨tg,iter,ifs,0⟩] scope pos) scope X.env pos2 (newList []) false (eval iter X.env) use) QQ X.xe s:=by
 refine wpAny_comprehension_free (use:=use) rfl hs hclos hkind hnames (AZ (hi pins s σ H _ I h) λv s1 h1=>AZ h1 λitv s2 h2=>?_)
 obtain⟨it,fp,tn,J,H2,e,I2,T,st2,f2,W,n,hn,w0,turn⟩:=h2;subst e;refine yex (zc3 ?_);dsimp only;generalize hHp:s2.heap.push { cls:=.type "list",dict:=none,data:=.seq ([]:List Value).toArray }=P2;generalize hcl':cellsFrom (P2.objs.size+1) scope.names cl=cl';generalize hh1:pushCells (P2.push { cls:=.type "dict",data:=.dict #[] }) scope.names=h₁;have hC:P2.objs.size=s2.heap.objs.size+1:=by rw[<- hHp,ybw]
 have hP3:(P2.push { cls:=.type "dict",data:=.dict #[] }).objs.size=P2.objs.size+1:=ybw ..;have hDC:s2.heap.objs.size≠P2.objs.size:=by rw[hC];exact yav (yca _)
 have below:∀b,b<s2.heap.objs.size->b≠P2.objs.size/\b≠s2.heap.objs.size:=λb hb=>⟨by rw[hC];exact yav (ycn hb),yav hb⟩
 have old:∀b o,s2.heap.get? b=some o->h₁.get? b=some o:=λb o e=>by
  rw[<- hh1];exact yfg _ _ _ _ (yaa _ (hHp▸yaa _ e))
 have hacc:h₁.PlainList s2.heap.objs.size #[]:=⟨_,by
  rw[<- hh1];exact yfg _ _ _ _ (yaa _ (hHp▸yaw _ rfl))⟩
 have hns₁:h₁.Ns P2.objs.size (λ_=>none):=by
  rw[<- hh1];exact(Heap.Ns.new P2 (.type "dict")).keeps (yfg _ _)
 have cells:∀y c,cl'.lookup y=some c->X.env.cells.lookup y=some c\/(P2.objs.size<c/\h₁.IsCell c none/\(y,NameKind.cell)∈scope.names):=λy c e=>by
  rw[<- hcl',<- hP3]at e
  rcases Pn _ _ _ y c e with q|⟨q1,q2,q3⟩
  .exact .inl (hcl y c q)
  .rw[hP3]at q1;rw[hh1]at q2;exact .inr ⟨q1,q2,q3⟩
 have has':∀y,(y,NameKind.cell)∈scope.names\/(∃c,cl.lookup y=some c)->∃c,cl'.lookup y=some c:=λy hy=>by
  rw[<- hcl']
  have go:∀(names:List (Str×NameKind)) (n:Nat) (acc:List (Str×Addr)),((y,NameKind.cell)∈names\/∃c,acc.lookup y=some c)->∃c,(cellsFrom n names acc).lookup y=some c:=by
   intro names
   induction names with
   |nil =>
    intro n acc h
    rcases h with h|h
    .cases h
    .exact h
   |cons x r ih =>
    obtain⟨m,k⟩:=x;intro n acc h;unfold cellsFrom;split
    .refine ih _ _ ?_
     by_cases hm:y=m
     .subst hm;exact .inr ⟨n,by simp⟩
     .rcases h with h|⟨c,h⟩
      .rcases ya9.mp h with z|z
       .cases z;exact absurd rfl hm
       .exact .inl z
      .exact .inr ⟨c,by rw[yb5,beq_eq_false_iff_ne.mpr hm];exact h⟩
    .rename_i hk;refine ih _ _ ?_
     rcases h with h|h
     .rcases ya9.mp h with z|z
      .cases z;exact absurd rfl hk
      .exact .inl z
     .exact .inr h
  exact go _ _ _ hy
 have fsub:∀b∈BK X.stack,b∈X.env.locals::X.fs:=I2.stkSub
 have fpfs:∀b∈fp,b∉BK X.stack:=λb hb z=>by
  obtain⟨_,h2,h3,_⟩:=f2 b hb
  rcases ya9.mp (fsub b z) with q|q
  .exact h2 q
  .exact h3 q
 have fpold:∀b∈fp,b<s2.heap.objs.size:=λb hb=>by
  obtain⟨o,e,_⟩:=T.obj 0 _ st2 b hb;exact yaf e
 have cold:∀y c,cl'.lookup y=some c->c<s2.heap.objs.size\/P2.objs.size<c:=λy c e=>by
  rcases cells y c e with q|q
  .obtain⟨v,z⟩:=I2.cell y c q;exact .inl z.lt
  .exact .inr q.1
 have cneD:∀y c,cl'.lookup y=some c->c≠s2.heap.objs.size:=λy c e z=>by
  rcases cold y c e with q|q
  .rw[z]at q;exact ybd _ q
  .rw[z,hC]at q;exact absurd q (Nat.not_lt.mpr (ycc _))
 have cneF:∀b,b<s2.heap.objs.size->(∀y c,X.env.cells.lookup y=some c->c≠b)->∀y c,cl'.lookup y=some c->c≠b:=λb hb hx y c e z=>by
  rcases cells y c e with q|q
  .exact hx y c q z
  .have:=q.1;rw[z,hC]at this;exact absurd (ydq hb (Nat.lt_of_succ_lt this)) (ybd _)
 have fresh2:∀b,s2.heap.objs.size<=b->H2 b=none:=λb hb=>I2.hok.fresh hb
 have CS:s2.heap.objs.size<=P2.objs.size:=by rw[hC];exact ycc _
 obtain⟨xb,hxb⟩:∃xb,xb=notedBy (model X.prog X.w) X.A (compEnvC scope cl' P2.objs.size X.env) λe s'=>compPost (model X.prog X.w) X.A X.xe use QQ (.ref s2.heap.objs.size) P2.objs.size (.error e) s':=⟨_,rfl⟩
 have hpb:BH (Aw X scope cl' N' P2.objs.size s2 H2 fp xb) (λ_=>E σ):=by
  subst hxb;intro pins4 σ4 H4 s4 e s' I4 hcx
  have IX:Inv X pins σ H4 s4:=I2.call' (s':=s4) (ch:=fp) I4.os I4.base I4.hok I4.bare λb hb=>by
   obtain⟨g1,g2,g3,g4,g5,g6⟩:=f2 b hb;exact⟨g4,g2,g5,g6⟩
  obtain⟨m4,hm4,_⟩:=I4.loc
  exact zfp hps hst IX ⟨I4.free,(I2.fpOk (H':=H2) CS (fresh2 _ CS)).2⟩ ⟨m4,hm4⟩ (λz=>by
   obtain⟨o,ho,_⟩:=(I2.stack.mem z).2;exact absurd (yaf ho) (Nat.not_lt.mpr CS)) rfl hcx
 have ok':(Aw X scope cl' N' P2.objs.size s2 H2 fp xb).Ok:=by
  refine⟨I2.ok.mod,hkind,I2.ok.glob,I2.ok.blt,CS,?inj,λy hy=>has' y (hhas y hy),?cab,I2.ok.hd,I2.ok.frames,.inl rfl,λb hb=>⟨(below b (fpold b hb)).1,cneF b (fpold b hb) λy c e=>(f2 b hb).2.2.2.2.1 y c e⟩,
   λb o e=>I2.bs b o e,yak I2.ok.bsz I2.sz,λb o e hb=>?_,λb hb=>fpfs b hb,I2.stack,I2.stkFree⟩
  case inj =>
   intro y z c h1 h2;have h1':(cellsFrom (P2.push { cls:=.type "dict",data:=.dict #[] }).objs.size scope.names cl).lookup y=some c:=by rw[hP3,hcl'];exact h1
   have h2':(cellsFrom (P2.push { cls:=.type "dict",data:=.dict #[] }).objs.size scope.names cl).lookup z=some c:=by rw[hP3,hcl'];exact h2
   refine Po scope.names _ cl (λy z c g1 g2=>I2.ok.inj y z c (hcl y c g1) (hcl z c g2)) (λy c g=>?_) y z c h1' h2'
   obtain⟨v,q⟩:=I2.cell y c (hcl y c g);rw[hP3,hC];exact ycn (ycn q.lt)
  case cab =>
   intro y c hy e;have hy':scope.names.lookup y=some .cell:=yfh hy;have e':(cellsFrom (P2.objs.size+1) scope.names cl).lookup y=some c:=by rw[hcl'];exact e
   exact yak CS (yak (ycc _) (Pm scope.names _ (P2.objs.size+1) cl y c (yae _) (.inl (ybu hy')) e'))
  .obtain⟨_,_,_,q,_⟩:=f2 b hb
   rcases q with q|q
   .exact I2.ok.noex b o e q
   .exact absurd (yan (yaf e) (yak I2.ok.bsz q)) (ybd _)
 have I':Inv (Aw X scope cl' N' P2.objs.size s2 H2 fp xb) pins (σ' σ) H2 { s2 with heap:=h₁ }:=by
  refine⟨ok',rfl,I2.bare,Un.kept old,⟨_,hns₁,λi y v h1 h2 h3=>?_⟩,λy c e=>?_,fresh2 _ CS,?fc,λp hp=>?_,I2.hok.kept old,hσ σ I2.len⟩
  case fc =>
   intro y c e
   rcases cells y c e with q|q
   .exact I2.freeC y c q
   .exact fresh2 c (yak CS (yeh q.1))
  .obtain⟨hk,j,h4,h5,h6,h7⟩:=hvis σ i y v h1 h2;have hno:=hcap σ i y v h1 h2;obtain⟨m,hn',hl⟩:=I2.loc;obtain⟨u,r,l⟩:=hl j y v h4 h5 h6;obtain⟨c,hcc⟩:=has' y (hhas y hk);refine⟨u,r,.inr ⟨hk,c,hcc,?_⟩⟩
   rcases l with ⟨k1,_⟩|⟨_,c',e',z⟩
   .exact absurd k1 h7
   .rcases cells y c hcc with w|w
    .rw[w]at e';cases e';obtain⟨o,ho,hd⟩:=z;exact⟨o,old _ _ ho,hd⟩
    .exact absurd w.2.2 hno
  .rcases cells y c e with w|w
   .obtain⟨v,o,ho,hd⟩:=I2.cell y c w;exact⟨v,o,old _ _ ho,hd⟩
   .exact⟨none,w.2.1⟩
  .obtain⟨e1,e2,e3,e4,e5⟩:=I2.pin p hp;refine⟨old _ _ e1,e2,(below _ (yaf e1)).1,λz=>?_,e5⟩
   rcases ya9.mp (fsub _ z) with q|q
   .exact e3 q
   .exact e4 q
 have stat:∀{H':Hp},(∀b∈fp,H' b=none)->∀b∈fp,C1 (Aw X scope cl' N' P2.objs.size s2 H2 fp xb) pins H' b:=λhn' b hb =>
  ⟨hn' b hb,(below b (fpold b hb)).1,fpfs b hb,.inl hb,cneF b (fpold b hb) λy c e=>(f2 b hb).2.2.2.2.1 y c e,(f2 b hb).2.2.2.2.2⟩
 have Dok:∀{H':Hp},H' s2.heap.objs.size=none->C1 (Aw X scope cl' N' P2.objs.size s2 H2 fp xb) pins H' s2.heap.objs.size:=λhn' =>
  ⟨hn',hDC,(λz=>by
   obtain⟨o,ho,_⟩:=(I2.stack.mem z).2;exact absurd (yaf ho) (ybd _)),.inr (yae _),cneD,λp hp z=>absurd (yaf (I2.pin p hp).1) (by rw[z];exact ybd _)⟩
 have loop:∀s3:Shared,s3={ s2 with heap:=h₁ } ->
   codeAny (model X.prog X.w) X.A (.compLoop (.ListComp elt [⟨tg,iter,ifs,0⟩] scope pos) 0 (.ref it) (.ref s2.heap.objs.size) (compEnvC scope cl' P2.objs.size X.env))
    (compPost (model X.prog X.w) X.A X.xe use QQ (.ref s2.heap.objs.size) P2.objs.size) s3:=by
  rintro s3 rfl
  refine ze8 hxb (λm s'=>∃i ys τ H',m=n - i/\Inv (Aw X scope cl' N' P2.objs.size s2 H2 fp xb) pins τ H' s'/\tn i s'.heap/\(∀b∈fp,H' b=none)/\H' s2.heap.objs.size=none/\(∃its:List Value,Ab ys its/\s'.heap.PlainList s2.heap.objs.size its.toArray)/\W i ys τ H')
   ?_ n ⟨0,[],σ' σ,H2,rfl,I',T.keep _ _ _ st2 λb _ o e=>old b o e,λb hb=>(f2 b hb).1,fresh2 _ (yae _),⟨[],.nil,hacc⟩,w0⟩
  rintro m s4 ⟨i,ys,τ,H4,rfl,I4,st4,fr4,hD4,⟨its,rv,hpl⟩,w4⟩;obtain⟨hly,hin,c⟩:=turn i ys τ H4 w4
  have statp:∀{H':Hp},(∀b∈fp,H' b=none)->∀b∈fp,C1 (Aw X scope cl' N' P2.objs.size s2 H2 fp xb) (pins++Ga [s2.heap.objs.size] s4.heap) H' b:=λ{H'} fr' b hb=>by
    obtain⟨g1,g2,g3,g4,g5,g6⟩:=stat fr' b hb;refine⟨g1,g2,g3,g4,g5,λp hp z=>?_⟩
    rcases yba.mp hp with y|y
    .exact g6 p (yc4 _ y) z
    .rcases yba.mp y with y|y
     .exact g6 p (yas _ y) z
     .obtain⟨hb',_⟩:=UH y;rw[z,ya8]at hb';exact absurd (fpold b hb) (by rw[hb'];exact ybd _)
  rcases c with ⟨stop,q⟩|⟨hlt,go,step⟩
  .obtain⟨k,hDo⟩:=hpl;have I4p:=I4.pinned (fp:=[s2.heap.objs.size]) (λb hb=>by rw[ya8.mp hb];exact Dok hD4) (λb hb=>by rw[ya8.mp hb];exact⟨_,hDo,λv z=>(by cases z)⟩)
   refine AZ (T.done (Aw X scope cl' N' P2.objs.size s2 H2 fp xb) rfl rfl rfl (hc _ _ _ _ _ _ _ _ I2) i _ s4 τ H4 _ I4p (statp fr4) st4 stop) λr s5 ⟨hr,I5⟩=>?_
   subst hr;have hD5:s5.heap.get? s2.heap.objs.size=some { cls:=.type "list",data:=.seq its.toArray k }:=(I5.pin (s2.heap.objs.size,_) (yas _ (yas _ (Gd (ya8.mpr rfl) hDo)))).1;obtain⟨m5,hn5,_⟩:=I5.loc;have fC:H4 P2.objs.size=none:=I5.free
   have U5:Un (BK X.stack) fp H2 (upd H4 s2.heap.objs.size (.lst ys)) s2.heap s5.heap:=by
    have B:=I5.base;refine⟨λb o e1 e2 e3 e4=>B.keep b o e1 e2 e3 e4,λb o e1 e2 e3 e4=>B.slot b o e1 e2 e3 e4,λb o e1 e2 e4=>?_,λb o e1 e4=>B.there b o e1 e4,λb xs e1=>?_,λb o u e1=>?_,λb ps e1=>?_⟩
    .rw[Az (below b (yaf e1)).2];exact B.free b o e1 e2 e4
    .have q':=B.tups b xs e1;rw[Az (C8 q' hD4)];exact q'
    .have q':=B.frzs b o u e1;rw[Az (C8 q' hD4)];exact q'
    .obtain⟨more,q'⟩:=B.tbls b ps e1;exact⟨more,by rw[Az (C8 q' hD4)];exact q'⟩
   have hzy:ys.length<=sizeLine:=yak hly (yak hin hn);have HK:HOk X.prog X.w (upd H4 s2.heap.objs.size (.lst ys)) s5.heap:=Zw.HOk.adopt I5.hok hD4 ⟨hzy,its,k,rv,hD5⟩;have os5:s5.os=s2.os:=I5.os
   have IX:Inv X pins σ (upd H4 s2.heap.objs.size (.lst ys)) s5:=I2.call' (s':=s5) (ch:=fp) os5 U5 HK I5.bare (λb hb=>by
    obtain⟨g1,g2,g3,g4,g5,g6⟩:=f2 b hb;exact⟨g4,g2,g5,g6⟩)
   refine hend s2.heap.objs.size P2.objs.size s5 _ IX (q _ hD4) ⟨m5,hn5⟩ ?_;have CL:s2.heap.objs.size<=P2.objs.size:=CS;have fp0:C1 X pins H2 P2.objs.size:=I2.fpOk CS (fresh2 _ CS);exact⟨by rw[Az (ybc hDC)];exact fC,fp0.2⟩
  .obtain⟨k,hDo⟩:=hpl;have I4p:=I4.pinned (fp:=[s2.heap.objs.size]) (λb hb=>by rw[ya8.mp hb];exact Dok hD4) (λb hb=>by rw[ya8.mp hb];exact⟨_,hDo,λv z=>(by cases z)⟩)
   refine AZ (T.item (Aw X scope cl' N' P2.objs.size s2 H2 fp xb) rfl rfl rfl (hc _ _ _ _ _ _ _ _ I2) i _ s4 τ H4 _ I4p (statp fr4) st4 go) λr s5 ⟨u,hr,h5⟩=>?_
   subst hr;refine AZ h5 λ_ s6 ⟨x,H6,I6,r6,y6,st6,fr6⟩=>?_
   have I6':=I6.pinned (statp fr6) (T.obj _ _ st6);refine AZ (hg _ _ _ _ _ _ hpb _ s6 τ H6 x u _ I6' r6 (step x H6 y6)) λ_ s7 ⟨τ7,H7,I7,q7⟩=>?_
   refine AZ (ht _ _ _ _ _ _ hpb _ s7 τ7 H7 _ I7 q7) λok s7b ⟨H7b,I7b,q7b⟩=>?_
   have BE:∀{H8:Hp} {s8:Shared} {τ8:L2.St},Inv (Aw X scope cl' N' P2.objs.size s2 H2 fp xb) (pins++Ga [s2.heap.objs.size] s4.heap++Ga fp s6.heap) τ8 H8 s8->∀h9:Heap,(∀b o,b≠s2.heap.objs.size->s8.heap.get? b=some o->h9.get? b=some o)->tn (i+1) h9/\∀b∈fp,H8 b=none:=λ{H8 s8 τ8} I8 h9 sb=>by
    refine⟨T.keep _ _ _ st6 λb hb o e=>?_,λb hb=>?_⟩
    .exact sb b o (below b (fpold b hb)).2 (I8.pin (b,o) (yas _ (yas _ (Gd hb e)))).1
    .obtain⟨o,e,d⟩:=T.obj _ _ st6 b hb;exact(I8.pin (b,o) (yas _ (yas _ (Gd hb e)))).2.1
   cases ok with
   |false =>
    rw[if_neg (by decide)]at q7b ⊢
    have hD8:=I7b.pin (s2.heap.objs.size,_) (yas _ (yc4 _ (yas _ (Gd (ya8.mpr rfl) hDo))));obtain⟨t9,f9⟩:=BE I7b s7b.heap λb o _ e=>e
    exact⟨n - (i+1),by omega,i+1,ys,τ7,H7b,rfl,I7b.unpinned.unpinned,t9,f9,hD8.2.1,⟨its,rv,k,hD8.1⟩,q7b⟩
   |true =>
    rw[if_pos rfl]at q7b ⊢;refine AZ (he _ _ _ _ _ _ hpb _ s7b τ7 H7b _ I7b q7b) λuy s8 ⟨y,H8,I8,ry,w8⟩=>?_
    have hD8:=I8.pin (s2.heap.objs.size,_) (yas _ (yc4 _ (yas _ (Gd (ya8.mpr rfl) hDo))));have P8:s8.heap.PlainList s2.heap.objs.size its.toArray:=⟨k,hD8.1⟩;have hlen:=rv.length;refine wpAny_list_append_plain P8 (λh' pl' sb=>?_) (by rw[yam,<- hlen];omega)
    have I8u:Inv (Aw X scope cl' N' P2.objs.size s2 H2 fp xb) pins τ7 H8 s8:=I8.unpinned.unpinned;obtain⟨d1,d2,d3,d4,d5,d6⟩:=Dok hD8.2.1;have I9:Inv (Aw X scope cl' N' P2.objs.size s2 H2 fp xb) pins τ7 H8 { s8 with heap:=h' }:=I8u.turned (t':=s8.toks) (λb o hb e=>(sb.2 b hb).trans e) d1 d2 d4 d5 d6
    obtain⟨t9,f9⟩:=BE I8 h' λb o hb e=>(sb.2 b hb).trans e
    exact⟨n - (i+1),by omega,i+1,ys++[y],τ7,H8,rfl,I9,t9,f9,hD8.2.1,⟨its++[uy],rv.append (.cons ry .nil),by simpa using pl'⟩,w8⟩
 refine codeAny_compStart_list (loop _ rfl) (T.self _ 0 _ _ _ (T.keep _ _ _ st2 λb _ o e=>old b o e) (loop _ rfl))
theorem znm(σ':L2.St->L2.St)(hclos:closureFor scope X.env=pure cl)(hkind:scope.kind=.function)(hnames:∀y∈scope.names,y.2=.local->scope.names.lookup y.1=some .local)(hcl:∀y c,cl.lookup y=some c->X.env.cells.lookup y=some c)(hhas:∀y,(relabel scope X.env).names.lookup y=some .cell\/(relabel scope X.env).names.lookup y=some .free->(y,NameKind.cell)∈scope.names\/∃c,cl.lookup y=some c)(hcap:∀(σ:L2.St) (i:Nat) (y:Str) (v:V),N'[i]?=some y->(σ' σ)[i]?=some (some v)->(y,NameKind.cell)∉scope.names)(hσ:∀σ:L2.St,σ.length=X.N.length->(σ' σ).length=N'.length)(hvis:∀(σ:L2.St) (i:Nat) (y:Str) (v:V),N'[i]?=some y->(σ' σ)[i]?=some (some v)->((relabel scope X.env).names.lookup y=some .cell\/(relabel scope X.env).names.lookup y=some .free)/\∃j:Nat,X.N[j]?=some y/\σ[j]?=some (some v)/\D0 X.env.scope y/\X.env.kindOf y≠some .local)(hc:∀pins σ H s cl C ex xb,Inv X pins σ H s->cq (Aw X scope cl N' C s H ex xb))(hi:PJ cq X tg iter wi)(hps:BH X E)(hst:HA X)(hg:∀cl C s₀ H₀ ex xb,BH (Aw X scope cl N' C s₀ H₀ ex xb) (λ_=>E σ)->PG (Aw X scope cl N' C s₀ H₀ ex xb) tg g)(ht:∀cl C s₀ H₀ ex xb,BH (Aw X scope cl N' C s₀ H₀ ex xb) (λ_=>E σ)->GS (Aw X scope cl N' C s₀ H₀ ex xb) ifs tt)(he:∀cl C s₀ H₀ ex xb,BH (Aw X scope cl N' C s₀ H₀ ex xb) (λ_=>E σ)->PE (Aw X scope cl N' C s₀ H₀ ex xb) elt te)(hs:∀x,foldedSetIterable iter X.env x=pure x)(I:Inv X pins σ H s)(h:Jt σ' wi g tt te σ H Q) :
  wpAny (model X.prog X.w) X.A (eval (.ListComp elt [⟨tg,iter,ifs,0⟩] scope pos) X.env) (EP X pins σ Q) X.xe s:=by
 rw[eval_ListComp];refine Vs σ' hclos hkind hnames hcl hhas hcap hσ hvis hc hi hps hst hg ht he hs I h λD C s5 H5 I5 q5 ⟨m,hm⟩ f=>⟨m,hm,λh' sb=>?_⟩
 exact⟨.ref D,H5,G1 (t':=s5.toks) (ch:=[C]) I5 (λb o hb e=>(sb.2 b (λz=>hb (by simp[z]))).trans e) (λb hb=>by rw[ya8.mp hb];exact f),rfl,q5⟩
theorem znn(σ':L2.St->L2.St)(hclos:closureFor scope X.env=pure cl)(hkind:scope.kind=.function)(hnames:∀y∈scope.names,y.2=.local->scope.names.lookup y.1=some .local)(hcl:∀y c,cl.lookup y=some c->X.env.cells.lookup y=some c)(hhas:∀y,(relabel scope X.env).names.lookup y=some .cell\/(relabel scope X.env).names.lookup y=some .free->(y,NameKind.cell)∈scope.names\/∃c,cl.lookup y=some c)(hcap:∀(σ:L2.St) (i:Nat) (y:Str) (v:V),N'[i]?=some y->(σ' σ)[i]?=some (some v)->(y,NameKind.cell)∉scope.names)(hσ:∀σ:L2.St,σ.length=X.N.length->(σ' σ).length=N'.length)(hvis:∀(σ:L2.St) (i:Nat) (y:Str) (v:V),N'[i]?=some y->(σ' σ)[i]?=some (some v)->((relabel scope X.env).names.lookup y=some .cell\/(relabel scope X.env).names.lookup y=some .free)/\∃j:Nat,X.N[j]?=some y/\σ[j]?=some (some v)/\D0 X.env.scope y/\X.env.kindOf y≠some .local)(hc:X.calm=true)(hi:PI X tg iter wi)(hps:BH X E)(hst:HA X)(hg:∀cl C s₀ H₀ ex xb,BH (Aw X scope cl N' C s₀ H₀ ex xb) (λ_=>E σ)->PG (Aw X scope cl N' C s₀ H₀ ex xb) tg g)(ht:∀cl C s₀ H₀ ex xb,BH (Aw X scope cl N' C s₀ H₀ ex xb) (λ_=>E σ)->GS (Aw X scope cl N' C s₀ H₀ ex xb) ifs tt)(he:∀cl C s₀ H₀ ex xb,BH (Aw X scope cl N' C s₀ H₀ ex xb) (λ_=>E σ)->PE (Aw X scope cl N' C s₀ H₀ ex xb) elt te)(hs:∀x,foldedSetIterable iter X.env x=pure x)(hN:X.N.Nodup)(hix:X.N[i]?=some x)(hx:X.env.scope.names.lookup x=some .local)(hsw:swapsWith (.ListComp elt [⟨tg,iter,ifs,0⟩] scope pos) (some (.Name x pos')) pos2.line X.env=pure true)(I:Inv X pins σ H s)(h:Jt σ' wi g tt te σ H λv H1=>D.nx (σ.set i (some v)) H1) :
  wpAny (model X.prog X.w) X.A (exec (.Assign [.Name x pos'] (.ListComp elt [⟨tg,iter,ifs,0⟩] scope pos) pos2) X.env) (SP X pins D) X.xe s:=by
 rw[exec_Assign_Name_used _ _ _ _ hsw];refine yet (yev (yet ?_));show wpAny _ X.A (do let _ <- comprehension (.ListComp elt [⟨tg,iter,ifs,0⟩] scope pos) scope X.env _ (newList []) false (eval iter X.env) (some (assign (.Name x pos') X.env))) _ _ s
 refine yet (yep (Vs (QQ:=λ_ s'=>SP X pins D .next s') σ' hclos hkind hnames hcl hhas hcap hσ hvis (cq:=λX=>X.calm=true) (λ_ _ _ _ _ _ _ _ _=>hc) (Tn hi) hps hst hg ht he hs I h λA C s5 H5 I5 q5 ⟨m,hm⟩ f=>?_) (λ_ s' hq=>yew (yew hq)) λ_ _ e=>e)
 show wpAny _ X.A (assign (.Name x pos') X.env (.ref A)) _ _ _;refine wpAny_assign_Name (RY I5 hN hix (.inl hx) (v:=.ref A) rfl (λs6 I6 ⟨a,sb,ha⟩=>?_) (.inr hx))
 have hCa:C≠a:=by
  rcases ha with rfl|ha
  .exact f.2.1
  .exact λz=>f.2.2.2.2.1 x a ha z.symm
 refine⟨m,hm.sameBut sb hCa,λh' sb2=>⟨_,H5,G1 (t':=s6.toks) (ch:=[C]) I6 (λb o hb e=>(sb2.2 b (λz=>hb (by simp[z]))).trans e) (λb hb=>by rw[ya8.mp hb];exact f),q5⟩⟩
end
structure RpO(K:k9)(F H:Hp)(l:List T)(xs:List V)(R:Nat->Rg):Prop where
 len:l.length=xs.length
 rep:∀(i:Nat) (t:T) (x:V),l[i]?=some t->xs[i]?=some x->Rp K F H t x (R i)
 dis:∀i j a,i≠j->R i a->¬ R j a
 out:∀i a,R i a->i<l.length
section
variable {K:k9}
theorem RpO.nil:RpO K F H [] [] (λ_=>R0):=⟨rfl,λi t x h=>by simp at h,λ_ _ _ _ z=>z.elim,λ_ _ z=>z.elim⟩
theorem RpO.dom(h:RpO K F H l xs R){i:Nat}{a:Addr}(z:R i a):F a=none/\∃u,H a=some u:=by
 have hi:=h.out i a z;have hx:i<xs.length:=by have:=h.len;omega
 exact(h.rep i _ _ (ya0 hi) (ya0 hx)).dom z
theorem RpO.ext(h:RpO K F H l xs R)(e:Ext F H F1 H1 B):RpO K F1 H1 l xs R:=⟨h.len,λi t x h1 h2=>(h.rep i t x h1 h2).ext e,h.dis,h.out⟩
theorem RpO.apart(h:RpO K F H l xs R)(e:Ext F H F1 H1 B){b:Addr}(hb:B b)(i:Nat):¬ R i b:=λz=>by
 obtain⟨f,u,q⟩:=h.dom z;rw[e.nb b hb]at q;cases q
theorem RpO.snoc(h:RpO K F H l xs R){t:T}{x:V}(r:Rp K F H t x B)(d:∀i a,R i a->¬ B a):RpO K F H (l++[t]) (xs++[x]) (λj=>if j=l.length then B else R j):=by
 have hl:=h.len;refine⟨by simp[hl],λi t' x' h1 h2=>?_,λi j a hij z1 z2=>?_,λi a z=>?_⟩
 .by_cases hi:i=l.length
  .subst hi;rw[if_pos rfl];have e1:t=t':=by simpa using h1
   have e2:x=x':=by rw[hl]at h2;simpa using h2
   subst e1;subst e2;exact r
  .rw[if_neg hi]
   have hlt:i<l.length:=by
    have:=(ya6.mp h1).1;simp at this
    omega
   rw[yaz hlt]at h1;rw[yaz (by omega)]at h2
   exact h.rep i t' x' h1 h2
 .by_cases hi:i=l.length
  .simp only[hi,yf3]at z1;have hj:¬ j=l.length:=λz=>hij (hi.trans z.symm)
   simp only[hj,yf4]at z2;exact d j a z2 z1
  .simp only[hi,yf4]at z1
   by_cases hj:j=l.length
   .simp only[hj,yf3]at z2;exact d i a z1 z2
   .simp only[hj,yf4]at z2;exact h.dis i j a hij z1 z2
 .by_cases hi:i=l.length
  .simp[hi]
  .simp only[hi,yf4]at z;have:=h.out i a z;simp
   omega
theorem RpO.cons(h:RpO K F H l xs R){t:T}{x:V}(r:Rp K F H t x B)(d:∀i a,R i a->¬ B a):RpO K F H (t::l) (x::xs) (λj=>match j with|0=>B|j+1=>R j):=by
 refine⟨by simp[h.len],λi t' x' h1 h2=>?_,λi j a hij z1 z2=>?_,λi a z=>?_⟩
 .cases i with
  |zero =>
   simp at h1 h2;subst h1;subst h2;exact r
  |succ i=>exact h.rep i t' x' (by simpa using h1) (by simpa using h2)
 .cases i with
  |zero =>
   cases j with
   |zero=>exact hij rfl
   |succ j=>exact d j a z2 z1
  |succ i =>
   cases j with
   |zero=>exact d i a z1 z2
   |succ j=>exact h.dis i j a (λz=>hij (by rw[z])) z1 z2
 .cases i with
  |zero=>simp
  |succ i=>have:=h.out i a z;simp;omega
theorem RpO.list(h:RpO K F H l xs R)(s:A7 F H)(hp:H p=none):Rp K F (upd H p (.lst xs)) (.own l) (.ref p) (λa=>a=p\/∃i,R i a)/\Ext F H F (upd H p (.lst xs)) (λa=>a=p):=by
 have e:=Ext.newO (o:=.lst xs) s hp;have h':=h.ext e;exact⟨.own (k:=.lst) trivial R (Gc s hp) Cd h.len h'.rep h.dis (λi z=>h.apart e rfl i z) h.out,e⟩
end
def AY(ma mk:AJ):AJ:=λτ=>match ma τ with
 |some (.v t b)=>(match mk τ with
  |some (.v (.int i) _)=>(match t with
   |.nd _ _ l=>(match A8 l i with
    |some c=>some (.v c (b && !c.sh))
    |none=>none)
   |.str z=>if z.length<=BP then (match A8 z.cps.toList i with
    |some c=>some (.v (.str ⟨#[c]⟩) false)
    |none=>none) else none
   |_=>none)
  |some (.v _ _)=>none
  |r=>r)
 |r=>r
variable {α:Type}
theorem zkz{β:Type}{l:List α}{m:List β}{i:Int}{c:α}(e:l.length=m.length)(h:A8 l i=some c):∃(j:Nat) (d:β),l[j]?=some c/\m[j]?=some d/\A8 m i=some d:=by
 unfold A8 at h ⊢;rw[<- e];cases q:DN l.length i with
 |none=>rw[q]at h;cases h
 |some j =>
  rw[q]at h;have h':l[j]?=some c:=h
  have hj:j<m.length:=by
   have:=(ya6.mp h').1
   omega
  exact⟨j,m[j],h',ya0 hj,ya0 hj⟩
section
variable {K:k9}
theorem Rp.seq{o:Bool}{k:Kd}{l:List T}{x:V}{A:Rg}(s:A7 F H)(h:Rp K F H (.nd o k l) x A):∃p xs,x=.ref p/\(A9 K H p xs\/Bx K H p xs)/\l.length=xs.length/\∀(i:Nat) (t:T) (x:V),l[i]?=some t->xs[i]?=some x->∃B,(∀a,B a->A a)/\Rp K F H t x B:=by
 cases h with
 |@shr k p xs l h e c =>
  refine⟨p,xs,rfl,?_,e,λi t x h1 h2=>⟨R0,λ_ z=>z.elim,c i t x h1 h2⟩⟩
  cases k with
  |lst=>exact .inl (A9.of (s _ _ h))
  |rl=>exact .inl (s.seq h)
  |tup=>exact .inr (Bx.of (s _ _ h))
  |rt=>exact .inr (Fj s h)
  |pin q=>exact .inl (A9.of (s _ _ h))
 |@own k0 p xs l hk R f h e c d dp o=>exact⟨p,xs,rfl,.inl (A9.of h),e,λi t x h1 h2=>⟨R i,λa z=>.inr ⟨i,z⟩,c i t x h1 h2⟩⟩
end
variable {p2:Pos}
section
variable {K:k9}{b:Expr}
theorem tM_ix(h:tM K E ca (AY ma mb) σ H Q):HN (Te K) (tM K E ca ma) (tM K E ca mb) σ H Q:=by
 obtain⟨F,τ,R,S,q⟩:=h;refine⟨F,τ,R,S,?_⟩;unfold AY at q;cases hm:ma τ with
 |none=>simp only[hm]at q<;>exact q.elim
 |some r =>
  simp only[hm]at q;cases r with
  |x c=>exact q
  |v t bb =>
   intro F1 H1 x B e1 g1;have S1:=S.ext e1;refine⟨F1,τ,R,S1,?_⟩;cases hk:mb τ with
   |none=>simp only[hk]at q<;>exact q.elim
   |some r =>
    simp only[hk]at q;cases r with
    |x c=>exact λF' H' e=>q F' H' ((e1.trans e).mono λ_ z=>z.elim)
    |v tk bk =>
     cases tk with
     |int i =>
      intro F2 H2 y C e2 g2
      have hy:y=.int i:=by
       cases bk with
       |true=>obtain⟨_,A,_,r⟩:=g2;exact r.int_inv
       |false=>exact(show Rp K F2 H2 _ _ _ from g2).int_inv
      subst hy;have e02:Ext F H F2 H2 B:=(e1.trans e2).mono λ_ z=>.inl z
      have S2:=S1.ext e2;cases t with
      |nd o k l =>
       simp only at q;cases hc:A8 l i with
       |none=>simp only[hc]at q<;>exact q.elim
       |some cc =>
        simp only[hc]at q
        have node:∃A0,(bb=true->∀a,A0 a->tot R a)/\(bb=false->∀a,A0 a->B a)/\Rp K F2 H2 (.nd o k l) x A0:=by
         cases bb with
         |true =>
          obtain⟨_,A,hA,r⟩:=g1;exact⟨A,λ_=>hA,(λz=>by cases z),r.ext e2⟩
         |false=>exact⟨B,(λz=>by cases z),λ_ _ z=>z,(show Rp K F1 H1 _ _ _ from g1).ext e2⟩
        obtain⟨A0,hA1,hA2,rn⟩:=node;obtain⟨p,xs,rfl,hq,hl,kids⟩:=Rp.seq S2.fh rn;obtain⟨j,d,h1,h2,h3⟩:=zkz hl hc;obtain⟨A1,hA,rk⟩:=kids j cc d h1 h2
        have qq:Q d H2:=by
         cases bb with
         |false=>exact q F2 H2 d A1 (e02.mono λa z=>hA2 rfl a (hA a z)) rk
         |true =>
          cases hs:cc.sh with
          |true =>
           rw[hs]at q;exact q F2 H2 d R0 (e02.mono λ_ z=>z.elim) (rk.move hs (.refl _))
          |false =>
           rw[hs]at q;exact q F2 H2 d R0 (e02.mono λ_ z=>z.elim) ⟨rfl,A1,λa z=>hA1 rfl a (hA a z),rk⟩
        rcases hq with hq|hq
        .exact .inl ⟨p,xs,i,d,rfl,rfl,hq,h3,qq⟩
        .exact .inr (.inl ⟨p,xs,i,d,rfl,rfl,hq,h3,qq⟩)
      |str z =>
       by_cases hz:z.length<=BP
       .simp only[hz,yf3]at q;cases hc:A8 z.cps.toList i with
        |none=>simp only[hc]at q<;>exact q.elim
        |some cc =>
         simp only[hc]at q
         have hx:x=.str z:=by
          cases bb with
          |true=>obtain⟨_,A,_,r⟩:=g1;exact r.str_inv
          |false=>exact(show Rp K F1 H1 _ _ _ from g1).str_inv
         subst hx;exact .inr (.inr ⟨z,i,cc,rfl,rfl,by rw[<- EH];exact hz,hc,q F2 H2 _ R0 (e02.mono λ_ z=>z.elim) (.str _)⟩)
       .simp only[hz,yf4]at q<;>exact q.elim
      |_=>exact q.elim
     |_=>exact q.elim
theorem r_ix(ha:PE X a (tM X.K E ca ma))(hb:PE X b (tM X.K E ca mb))(hs:MH b):PE X (.Subscript a b pos) (tM X.K E ca (AY ma mb)):=PE.weak (Tr znz ha hb hs) λσ H Q h=>tM_ix h
def CH{α:Type}(l:List α)(lo hi:Option Int):List α:=(l.drop (HT.sIx l.length 0 lo)).take (HT.sIx l.length l.length hi - HT.sIx l.length 0 lo)
noncomputable def Ea(m:Option (AJ)):AN->Option (Option Int):=λτ=>match m with
 |none=>some none
 |some m=>match m τ with
  |some (.v (.int i) _)=>some (some i)
  |_=>none
def Dt(ma:AJ)(ml mh:Option (AJ)):AJ:=λτ=>match ma τ with
 |some (.v t false)=>(match Ea ml τ with
  |some lo=>(match Ea mh τ with
   |some hi=>(match t with
    |.nd _ .lst l=>some (.v (.own (CH (BF l) lo hi)) false)
    |.nd _ .rl l=>some (.v (.own (CH (BF l) lo hi)) false)
    |_=>none)
   |none=>none)
  |none=>none)
 |some (.v _ true)=>none
 |r=>r
def G3(K:k9)(m:Option (AJ)):TO:=λσ H Q=>∃F τ R o,StR K F H σ τ R/\Ea m τ=some o/\∀F' H',Ext F H F' H' R0->Q o H'
theorem r_po0:PO X none (G3 X.K none):=λpins s σ H Q I h=>by
 obtain⟨F,τ,R,o,S,e,q⟩:=h;cases e;exact zj9 pins s σ H Q I (q F H (Ext.refl S.fh))
theorem r_po1(ha:PE X e (tM X.K E ca m)):PO X (some e) (G3 X.K (some m)):=λpins s σ H Q I h=>by
 obtain⟨F,τ,R,o,S,e',q⟩:=h;refine zj8 ha pins s σ H Q I ⟨F,τ,R,S,?_⟩;unfold Ea at e';simp only at e';cases hm:m τ with
 |none=>rw[hm]at e';cases e'
 |some r =>
  rw[hm]at e';cases r with
  |x c=>cases e'
  |v v b =>
   cases v with
   |int i =>
    cases e';intro F' H' x B e g
    have hx:x=.int i:=by
     cases b with
     |true=>obtain⟨_,A,_,r⟩:=g;exact r.int_inv
     |false=>exact(show Rp X.K F' H' _ _ _ from g).int_inv
    exact⟨i,hx,q F' H' (e.mono λ_ z=>z.elim)⟩
   |_=>cases e'
theorem zhy(r:Ad K F l xs)(lo hi:Option Int):Ad K F (CH l lo hi) (Hl xs lo hi):=by
 have hl:=r.1;unfold CH Hl;rw[hl];refine⟨by simp[hl],λi t x h1 h2=>?_⟩
 rw[List.getElem?_take]at h1 h2;split at h1
 .rename_i hi';rw[if_pos hi',ycf]at h2;rw[ycf]at h1;exact r.2 _ t x h1 h2
 .cases h1
theorem T3{lo hi:Option Expr}{ml mh:Option (AJ)}(ha:PE X a (tM X.K E ca ma))(hl:PO X lo (G3 X.K ml))(hh:PO X hi (G3 X.K mh)):PE X (.Subscript a (.Slice lo hi none p2) pos) (tM X.K E ca (Dt ma ml mh)):=by
 refine PE.weak (Tp zil ha hl hh) λσ H Q h=>?_
 obtain⟨F,τ,R,S,q⟩:=h;refine⟨F,τ,R,S,?_⟩;unfold Dt at q;cases hm:ma τ with
 |none=>simp only[hm]at q<;>exact q.elim
 |some r =>
  simp only[hm]at q;cases r with
  |x c=>exact q
  |v t bb =>
   cases bb with
   |true=>exact q.elim
   |false =>
    intro F1 H1 x B e1 g1;obtain⟨F1',e1',_,r1⟩:=Df.frz (b:=false) S e1 g1;have S1:=S.ext e1';simp only at q;cases h1:Ea ml τ with
    |none=>simp only[h1]at q<;>exact q.elim
    |some lo' =>
     simp only[h1]at q;refine⟨F1',τ,R,lo',S1,h1,λF2 H2 e2=>?_⟩
     have S2:=S1.ext e2;cases h2:Ea mh τ with
     |none=>simp only[h2]at q<;>exact q.elim
     |some hi' =>
      simp only[h2]at q;refine⟨F2,τ,R,hi',S2,h2,λF3 H3 e3=>?_⟩
      have S3:=S2.ext e3;have e03:=e1'.trans0 (e2.trans0 e3);have r3:Rp X.K F3 F3 t.share x R0:=(show Rp X.K F1' F1' t.share x R0 from r1).frame (e2.ff.trans e3.ff) λ_ z=>z.elim
      have key:∀{o:Bool} {k:Kd} {l:List T},t=.nd o k l->(k=.lst\/k=.rl)->(∀F' H' x B,Ext F H F' H' B->Rp X.K F' H' (.own (CH (BF l) lo' hi')) x B->Q x H')->T9 X.K x lo' hi' H3 Q:=by
       intro o k l et hk qq;subst et;rw[T.share]at r3;obtain⟨p,xs,rfl,_,n3,k3⟩:=EW r3
       have sq:A9 X.K H3 p xs:=by
        rcases hk with rfl|rfl
        .exact A9.of (S3.fh _ _ n3)
        .exact S3.fh.seq n3
       refine⟨p,xs,rfl,sq,λp' hp'=>?_⟩
       have gg:DG X.K F3 H3 (.own (CH (BF l) lo' hi')) Q:=λF' H' z C e g=>qq F' H' z C (e03.trans0 e) g
       exact gg.list S3.fh (zhy k3 lo' hi') hp'
      cases t with
      |nd o k l =>
       cases k with
       |lst=>exact key rfl (.inl rfl) q
       |rl=>exact key rfl (.inr rfl) q
       |tup=>exact q.elim
       |rt=>exact q.elim
       |pin _=>exact q.elim
      |_=>exact q.elim
def pMo(K:k9)(E:L2.St->XK)(ca:Str->Value)(σ:L2.St)(Q:List V->Hp->Prop)(F H:Hp):Option RsL->Prop
 |some (.v ts _)=>∀F' H' xs (Rr:Nat->Rg),Ext F H F' H' (tot Rr)->RpO K F' H' ts xs Rr->Q xs H'
 |some (.x c)=>∀F' H',Ext F H F' H' R0->E σ (ca c) none H'
 |none=>False
def IQ(K:k9)(E:L2.St->XK)(ca:Str->Value)(m:BI):TA:=λσ H Q=>∃F τ R,StR K F H σ τ R/\pMo K E ca σ Q F H (m τ)
noncomputable def BC(m:AJ)(ms:BI):BI:=λτ=>match m τ with
 |some (.v t false)=>(match ms τ with
  |some (.v ts _)=>some (.v (t::ts) false)
  |r=>r)
 |some (.v _ true)=>none
 |some (.x c)=>some (.x c)
 |none=>none
theorem zm5:PA X [] (IQ X.K E ca AE):=PA.weak E6 λσ H Q h=>by
 obtain⟨F,τ,R,S,q⟩:=h;exact q F H [] (λ_=>R0) ((Ext.refl S.fh).mono λa ⟨i,z⟩=>z.elim) .nil
theorem ziv(ha:PE X e (tM X.K E ca m))(hr:PA X es (IQ X.K E ca ms))(hs:starEach (e::es) X.env=(false,eval e X.env)::starEach es X.env):PA X (e::es) (IQ X.K E ca (BC m ms)):=by
 refine PA.weak (EC ha hr hs) λσ H Q h=>?_
 obtain⟨F,τ,R,S,q⟩:=h;refine⟨F,τ,R,S,?_⟩;unfold BC at q;cases hm:m τ with
 |none=>simp only[hm]at q<;>exact q.elim
 |some r =>
  simp only[hm]at q;cases r with
  |x c=>exact q
  |v t bb =>
   cases bb with
   |true=>exact q.elim
   |false =>
    intro F1 H1 x B e1 g1;have S1:=S.ext e1;refine⟨F1,τ,R,S1,?_⟩;simp only at q;cases hs:ms τ with
    |none=>simp only[hs]at q<;>exact q.elim
    |some r =>
     simp only[hs]at q;cases r with
     |x c=>exact λF' H' e=>q F' H' ((e1.trans e).mono λ_ z=>z.elim)
     |v ts b' =>
      intro F2 H2 xs Rr e2 ro;have g1':Rp X.K F1 H1 t x B:=g1;refine q F2 H2 (x::xs) _ ((e1.trans e2).mono ?_) (ro.cons (g1'.ext e2) λi a z=>?_)
      .rintro a ⟨j,z⟩;cases j with
       |zero=>exact .inl z
       |succ j=>exact .inr ⟨j,z⟩
      .exact g1'.apart e2 ⟨i,z⟩
def BJ(ms:BI):AJ:=λτ=>match ms τ with
 |some (.v ts _)=>if ts.length<=BP then some (.v (.own ts) false) else none
 |some (.x c)=>some (.x c)
 |none=>none
theorem r_lst(h:PA X es (IQ X.K E ca ms)):PE X (.List es pos) (tM X.K E ca (BJ ms)):=by
 refine PE.weak (zmv h) λσ H Q h=>?_
 obtain⟨F,τ,R,S,q⟩:=h;refine⟨F,τ,R,S,?_⟩;unfold BJ at q;cases hm:ms τ with
 |none=>simp only[hm]at q<;>exact q.elim
 |some r =>
  simp only[hm]at q;cases r with
  |x c=>exact q
  |v ts b =>
   intro F1 H1 xs Rr e1 ro
   by_cases hz:ts.length<=BP
   .simp only[hz,yf3]at q;refine⟨by rw[<- ro.len,<- EH];exact hz,λp hp=>?_⟩
    obtain⟨r,e2⟩:=ro.list e1.fh hp;refine q F1 _ _ _ ((e1.trans e2).mono ?_) r;rintro a (z|⟨i,z⟩)
    .exact .inr z
    .exact .inl ⟨i,z⟩
   .simp only[hz,yf4]at q<;>exact q.elim
def B5(ms:BI):AJ:=λτ=>match ms τ with
 |some (.v ts false)=>if ts.length<=BP then some (.v (.tup ts) false) else none
 |some (.v _ true)=>none
 |some (.x c)=>some (.x c)
 |none=>none
theorem r_tup{k:Nat}(h:PA X es (Bs X.K E ca ms)):PE X (.Tuple es k pos) (tM X.K E ca (B5 ms)):=by
 refine PE.weak (zmr h) λσ H Q h=>?_
 obtain⟨F,τ,R,S,q⟩:=h;refine⟨F,τ,R,S,?_⟩;unfold B5 at q;cases hm:ms τ with
 |none=>simp only[hm]at q<;>exact q.elim
 |some r =>
  simp only[hm]at q;cases r with
  |x c=>exact q
  |v ts b =>
   cases b with
   |true=>exact q.elim
   |false =>
    intro F1 H1 xs e1 rs
    by_cases hz:ts.length<=BP
    .simp only[hz,yf3]at q;refine⟨by rw[<- rs.1,<- EH];exact hz,λp hp=>?_⟩
     have gg:DG X.K F1 H1 (.tup ts) Q:=λF' H' z C e g=>q F' H' z C (e1.trans0 e) g
     exact gg.tuple e1.fh rs hp
    .simp only[hz,yf4]at q<;>exact q.elim
theorem zmb{id:String}{p:Pos}{g:List T->Option T}(hc:C4 X (.builtin id) (EA X.K g))(hg:Gl X x)(hm:X.mg x=none)(hv:bootBuiltins x=some (.builtin id))(ha:PA X (e::es) (Bs X.K E ca ms))(hn:x≠"__name__")(hdb:(x == ("__debug__":Str))=false)(he:starEach (e::es) X.env=(false,eval e X.env)::starEach es X.env)(hpl:(backTo pos (starEach es X.env)).any (·.1)=false):PE X (.Call (.Name x p) (e::es) [] pos) (tM X.K E ca (Bf g ms)) :=
 PE.weak (KY hc hg hm hv ha hn hdb he hpl) λσ H Q h=>G6 h
theorem T8{T':String}{p:Pos}{g:List T->Option T}(hc:C4 X (.type T') (EA X.K g))(hg:Gl X x)(hm:X.mg x=none)(hv:bootBuiltins x=some (.type T'))(ha:PA X (e::es) (Bs X.K E ca ms))(hn:x≠"__name__")(hdb:(x == ("__debug__":Str))=false)(he:starEach (e::es) X.env=(false,eval e X.env)::starEach es X.env)(hpl:(backTo pos (starEach es X.env)).any (·.1)=false):PE X (.Call (.Name x p) (e::es) [] pos) (tM X.K E ca (Bf g ms)) :=
 PE.weak (Tu hc hg hm hv ha hn hdb he hpl) λσ H Q h=>G6 h
end
def B0:T->Option T
 |.nd _ _ l=>some (.int l.length)
 |.str z=>if z.length<=BP then some (.int z.length) else none
 |_=>none
def CK:T->Option T
 |.nd _ _ l=>some (.own l)
 |_=>none
def Gq:T->Option T
 |.int i=>some (.int (if i<0 then -i else i))
 |_=>none
noncomputable def Iz:T->Option T
 |.int i=>some (.int i)
 |.bl k=>some (.int (if k then 1 else 0))
 |.str x=>if x.length<=640 then (intText? x).map T.int else none
 |_=>none
noncomputable def EK:List T->Option (List Bool)
 |[]=>some []
 |.bl b::r=>(match EK r with
  |some l=>some (b::l)
  |none=>none)
 |_::_=>none
def DE:T->Option T
 |.nd _ .lst l=>(match EK l with
  |some bs=>some (.bl (bs.all id))
  |none=>none)
 |_=>none
noncomputable def Jq:T->Option String
 |.non=>some "NoneType"
 |.bl _=>some "bool"
 |.int _=>some "int"
 |.str _=>some "str"
 |.nd _ .lst _=>some "list"
 |.nd _ .tup _=>some "tuple"
 |.dic _ _=>some "dict"
 |.pdc _ _=>some "dict"
 |_=>none
def HJ:List String:=["int","bool","str","list","tuple"]
def Jx(a c:String):Bool:=a == c || (a == "bool" && c == "int")
def Ci(c:String)(t:T):Option T:=match Jq t with
 |some a=>if c∈HJ then some (.bl (Jx a c)) else none
 |none=>none
theorem zcs:PySem.W.kitMeta "str"=true:=by decide +kernel
theorem zc4:PySem.W.kitMeta "list"=true:=by decide +kernel
theorem Vw(K:k9){a c:String}(ha:a∈["NoneType","bool","int","str","list","tuple","dict"])(hc:c∈HJ):PySem.W.kitOne K (.type a) (.type c)=some (Jx a c):=by
 have km:PySem.W.kitMeta c=true:=by
  simp only[HJ,ya9,yb7,yfe]at hc
  rcases hc with rfl|rfl|rfl|rfl|rfl
  .exact zct
  .exact zc5
  .exact zcs
  .exact zc4
  .exact zbl
 by_cases h:a=c
 .subst h;rw[zhf];simp[Jx]
 .refine znq K (l:=[]) h km ?_;simp only[HJ,ya9,yb7,yfe]at hc ha
  rcases ha with rfl|rfl|rfl|rfl|rfl|rfl|rfl<;>rcases hc with rfl|rfl|rfl|rfl|rfl<;>first|exact absurd rfl h|decide +kernel
section
theorem zfz:C4 X (.builtin "len") (EA X.K (g1 B0)):=by
 intro pins s σ H xs us Q I r h;obtain⟨F,ts,v,fh,rs,e,q⟩:=h;unfold g1 at e;split at e
 .obtain⟨x1,xs1,rfl,r1,rs1⟩:=rs.inv;cases rs1.inv0;unfold B0 at e;split at e
  .cases e;obtain⟨p,ys,rfl,hq,hl,_⟩:=Rp.seq (H:=H) fh (r1.any);refine YR pins s σ H _ us Q I r ⟨_,ys.length,rfl,?_,by rw[<- hl];exact q.int fh⟩
   rcases hq with hq|hq
   .exact .inl ⟨ys,hq,rfl⟩
   .exact .inr ⟨ys,hq,rfl⟩
  .split at e
   .cases e;rename_i hz;rw[r1.str_inv]at r;exact YR pins s σ H _ us Q I r ⟨_,_,rfl,⟨by rw[<- EH];exact hz,rfl⟩,q.int fh⟩
   .cases e
  .cases e
 .cases e
theorem zet{K:k9}{k:Kd}(s:A7 F H)(h:FI K F k p xs):A9 K H p xs\/Bx K H p xs:=by
 cases k with
 |lst=>exact .inl (A9.of (s _ _ h))
 |rl=>exact .inl (s.seq h)
 |tup=>exact .inr (Bx.of (s _ _ h))
 |rt=>exact .inr (Fj s h)
 |pin q=>exact .inl (A9.of (s _ _ h))
theorem YT:C4 X (.type "list") (EA X.K (g1 CK)):=by
 intro pins s σ H xs us Q I r h;obtain⟨F,ts,v,fh,rs,e,q⟩:=h;unfold g1 at e;split at e
 .obtain⟨x1,xs1,rfl,r1,rs1⟩:=rs.inv;cases rs1.inv0;unfold CK at e;split at e
  .cases e;obtain⟨p,ys,rfl,rfl,n1,k1⟩:=EW r1;have hq:A9 X.K H p ys\/Bx X.K H p ys:=zet fh n1;exact zco pins s σ H _ us Q I r ⟨p,ys,rfl,hq,λl hl=>q.list fh k1 hl⟩
  .cases e
 .cases e
theorem zg3:C4 X (.builtin "abs") (EA X.K (g1 Gq)):=by
 intro pins s σ H xs us Q I r h;obtain⟨F,ts,v,fh,rs,e,q⟩:=h;unfold g1 at e;split at e
 .obtain⟨x1,xs1,rfl,r1,rs1⟩:=rs.inv;cases rs1.inv0;unfold Gq at e;split at e
  .cases e;rw[r1.int_inv]at r;exact zi6 pins s σ H _ us Q I r ⟨_,rfl,q.int fh⟩
  .cases e
 .cases e
theorem zg1:C4 X (.type "int") (EA X.K (g1 Iz)):=by
 intro pins s σ H xs us Q I r h;obtain⟨F,ts,v,fh,rs,e,q⟩:=h;unfold g1 at e;split at e
 .obtain⟨x1,xs1,rfl,r1,rs1⟩:=rs.inv;cases rs1.inv0;unfold Iz at e;split at e
  .cases e;rw[r1.int_inv]at r;exact YS pins s σ H _ us Q I r (.inl ⟨_,rfl,q.int fh⟩)
  .cases e;rw[r1.bl_inv]at r;exact YS pins s σ H _ us Q I r (.inr ⟨_,rfl,q.int fh⟩)
  .split at e
   .obtain⟨n,hn,rfl⟩:=yah.mp e;rw[r1.str_inv]at r;obtain⟨u,rfl,ru⟩:=r.one;obtain⟨t,rfl⟩:=ru;exact PySem.W.KIN.call_text hn ‹_› ⟨.int n,H,I.tok _,⟨_,rfl⟩,q.int fh⟩
   .cases e
  .cases e
 .cases e
theorem YU:∀{l:List T} {bs:List Bool},EK l=some bs->l.length=bs.length/\∀(i:Nat) (t:T),l[i]?=some t->∃b,bs[i]?=some b/\t=.bl b
 |[],bs,h=>by cases h;exact⟨rfl,λi t e=>by simp at e⟩
 |t::r,bs,h=>by
  unfold EK at h;cases t with
  |bl b =>
   simp only at h;cases hr:EK r with
   |none=>simp only[hr]at h;cases h
   |some l =>
    simp only[hr]at h;cases h;obtain⟨h1,h2⟩:=YU hr;refine⟨by simp[h1],λi t e=>?_⟩
    cases i with
    |zero=>simp at e;exact⟨b,rfl,e.symm⟩
    |succ i=>exact h2 i t (by simpa using e)
  |_=>cases h
theorem zen{bs:List Bool}{tr:Nat->Bool}(h:∀(i:Nat) (b:Bool),bs[i]?=some b->tr i=b):(List.range bs.length).all tr=bs.all id/\(List.range bs.length).any tr=bs.any id:=by
 have e:(List.range bs.length).map tr=bs:=by
  apply ybq;intro i;rw[ya3]
  by_cases hi:i<bs.length
  .rw[ybh hi,ya0 hi];simp only[yb1];rw[h i _ (ya0 hi)]
  .rw[yai (by simp;omega),yai (by omega)]
   rfl
 constructor
 .have:(List.range bs.length).all tr=((List.range bs.length).map tr).all id:=by rw[yej];rfl
  rw[this,e]
 .have:(List.range bs.length).any tr=((List.range bs.length).map tr).any id:=by rw[List.any_map];rfl
  rw[this,e]
theorem walkB(hc:X.calm=true){bs:List Bool}{E':Value->Shared->Prop}{P:Value->Shared->Prop}{o:Bool}(I:Inv X pins σ H s)(fh:A7 F H)(r1:Rp X.K F F (.nd o .lst l) (.ref p) R0)(hb:EK l=some bs)(hP:∀(I0:Addr) (wr fp:List Addr) (St:Nat->Heap->Prop) (PP:Nat->Value->Prop) (tr:Nat->Bool) (s2:Shared),Walks X.prog X.w X.A.in1 I0 fp wr bs.length PP St->St 0 s2.heap->TruthOf X.prog X.w X.A.in1 PP tr->(∀(i:Nat) (b:Bool),bs[i]?=some b->tr i=b) ->
   (∀h' tk,(∀b o,b∉wr->s2.heap.get? b=some o->h'.get? b=some o)->Inv X pins σ H { s2 with heap:=h',toks:=tk })->P (.ref I0) s2):wpAny (model X.prog X.w) X.A.in1 (pyIter (.ref p)) P E' s:=by
 obtain⟨p',ys,e',rfl,n1,k1⟩:=EW r1;cases e';obtain⟨hlen,hget⟩:=YU hb;obtain⟨its,rv,pl,hz⟩:=I.list (A9.of (fh _ _ n1):A9 X.K H p ys);have hl:=rv.length
 have hne:p≠s.heap.objs.size:=yav (by
  obtain⟨o,n,e,_⟩:=pl;exact yaf e)
 have hh:X.A.in1.handled=none:=I.ok.hd hc
 have val:∀(i:Nat) (v:Value),its[i]?=some v->∃b,bs[i]?=some b/\v=.bool b:=λi v hv=>by
  have hi:i<ys.length:=by
   have:=(ya6.mp hv).1
   omega
  have hi2:i<l.length:=by rw[k1.1];exact hi
  obtain⟨b,h1,h2⟩:=hget i _ (ya0 hi2);have rr:=k1.2 i _ _ (ya0 hi2) (ya0 hi);rw[h2]at rr;obtain⟨u,e1,ru⟩:=rv.get (ya0 hi);rw[hv]at e1;cases e1;rw[rr.bl_inv]at ru;exact⟨b,h1,ru⟩
 have hbl:its.toArray.size=bs.length:=by rw[yam,<- hl,<- k1.1,hlen]
 refine yez pl.isList ?_;have W:=Walks.list (prog:=X.prog) (w:=X.w) hh s.heap.objs.size p hne its.toArray;rw[hbl]at W;refine hP s.heap.objs.size _ _ _ _ (λi=>bs.getD i false) _ W ⟨⟨_,yaw _ rfl,rfl,rfl⟩,?_⟩ ?_ ?_ ?_
 .obtain⟨o,ho,hr⟩:=pl.isList;exact⟨o,yaa _ ho,hr⟩
 .intro i v s' Q' E'' hv hq';obtain⟨b,h1,h2⟩:=val i v (by simpa using hv)
  subst h2;refine yeq ?_;have e:bs.getD i false=b:=by rw[ya2,h1];rfl
  rw[<- e];exact hq'
 .intro i b hb';show bs.getD i false=b;rw[ya2,hb']
  rfl
 .intro h' tk k
  exact I.kept λb o e=>k b o (λz=>by
   rw[ya8]at z;exact absurd (yaf e) (by rw[z];exact ybd _)) (yaa _ e)
theorem zg2(hc:X.calm=true):C4 X (.builtin "all") (EA X.K (g1 DE)):=by
 intro pins s σ H xs us Q I r h;obtain⟨F,ts,v,fh,rs,e,q⟩:=h;unfold g1 at e;split at e
 .obtain⟨x1,xs1,rfl,r1,rs1⟩:=rs.inv;cases rs1.inv0;unfold DE at e;split at e
  .split at e
   .cases e;rename_i bs hbs;obtain⟨p,rfl⟩:=r1.ref_inv;obtain⟨u,rfl,ru⟩:=Ek r;cases ru;refine call_all_walk (walkB hc I fh r1 hbs λI0 wr fp St PP tr s2 W BG tro htr BE=>⟨I0,fp,wr,bs.length,PP,St,tr,rfl,W,BG,tro,λh' tk k=>?_⟩)
    rw[(zen htr).1];exact⟨.bl _,H,BE h' tk k,rfl,q.bl fh⟩
   .cases e
  .cases e
 .cases e
theorem WK{ob:Obj}{c:Value}{A:Around}{Q:Value->Shared->Prop}{E:Value->Shared->Prop}(I:Inv X pins σ H s)(ea:H p=some (.frz ob (.dK kvs)))(e:PySem.W.kitOne X.K (.type "dict") c=some b)(h:∀tk,Q (.bool b) { s with toks:=tk }) :
  wpAny (model X.prog X.w) A (call (.builtin "isinstance") [.ref p,c]) Q E s:=by
 obtain⟨_,_,_,vs,_,q⟩:=(show Ba X.prog X.w H s.heap p (.frz ob (.dK kvs)) from I.hok p _ ea);obtain⟨o,es,ep,h1,h2,_⟩:=q;exact ybl yec I.kIn ⟨o,h1,h2.1⟩ e (λz=>nomatch z) h
theorem Qs{t:T}{x:V}{a:String}(fh:A7 F H)(r:Rp X.K F F t x R0)(h:Jq t=some a):(TyOf X.K H x (.type a)\/a="dict"/\∃p ob kvs,x=.ref p/\H p=some (.frz ob (.dK kvs)))/\a∈["NoneType","bool","int","str","list","tuple","dict"]:=by
 cases t with
 |non=>cases h;rw[r.non_inv];exact⟨.inl .non,by simp⟩
 |bl b=>cases h;rw[r.bl_inv];exact⟨.inl (.bl b),by simp⟩
 |int i=>cases h;rw[r.int_inv];exact⟨.inl (.int i),by simp⟩
 |str y=>cases h;rw[r.str_inv];exact⟨.inl (.str y),by simp⟩
 |nd o k l =>
  obtain⟨p,xs,rfl,_,n,_⟩:=EW r;cases k with
  |lst=>cases h;exact⟨.inl (.lst (fh _ _ n)),by simp⟩
  |tup=>cases h;exact⟨.inl (.tup (fh _ _ n)),by simp⟩
  |rl=>cases h
  |rt=>cases h
  |pin _=>cases h
 |dic ks l =>
  cases h;cases r with
  |dic h e ek c=>exact⟨.inr ⟨rfl,_,_,_,rfl,fh _ _ h⟩,by simp⟩
 |pdc ks l =>
  cases h;cases r with
  |pdc h e ek c=>exact⟨.inl (.dK (fh _ _ h)),by simp⟩
 |odc ks l=>cases h
 |obj k l=>cases h
 |oob p C fs l=>cases h
 |osd ks l=>cases h
theorem zg0{c:String}:C4 X (.builtin "isinstance") (λxs H Q=>∃x,xs=[x,.ty c]/\EA X.K (g1 (Ci c)) [x] H Q):=by
 intro pins s σ H xs us Q I r h;obtain⟨x,rfl,F,ts,v,fh,rs,e,q⟩:=h;unfold g1 at e;split at e
 .obtain⟨x1,xs1,e1,r1,rs1⟩:=rs.inv;cases e1;unfold Ci at e;split at e
  .rename_i a ha;split at e
   .cases e;rename_i hc;obtain⟨ty,hm⟩:=Qs fh r1 ha
    rcases ty with ty|⟨rfl,p,ob,kvs,rfl,hp⟩
    .exact zi3 pins s σ H _ us Q I r ⟨x,_,_,rfl,ty,Vw X.K hm hc,q.bl fh⟩
    .obtain⟨u,w',rfl,rx,ry⟩:=IJ r;cases ry;cases rx;exact WK I hp (Vw X.K hm hc) λtk=>⟨.bl _,H,I.tok _,rfl,q.bl fh⟩
   .cases e
  .cases e
 .cases e
def T.isN:T->Bool
 |.non=>true
 |_=>false
noncomputable def T.isB(b:Bool):T->Bool
 |.bl c=>c == b
 |_=>false
def Cc(neg:Bool)(t u:T):Option T:=match u with
 |.non=>some (.bl (neg ^^ t.isN))
 |.bl b=>some (.bl (neg ^^ t.isB b))
 |_=>none
theorem Xp{K:k9}{t:T}{x:V}(r:Rp K F H t x A):decide (x=V.non)=t.isN:=by
 cases r<;>simp[T.isN]
theorem Xq{K:k9}{t:T}{x:V}(r:Rp K F H t x A):decide (x=V.bl b)=t.isB b:=by
 cases r<;>simp[T.isB]
 rename_i c;cases c<;>cases b<;>rfl
theorem zn7:Ak X (compareOp .Is) (Bt X.K (Cc false)):=by
 intro pins s σ H x y v u Q I rx ry h;obtain⟨F,t1,t2,r,fh,r1,r2,e,q⟩:=h;unfold Cc at e;split at e
 .cases e;rw[r2.non_inv]at ry;refine zn2 pins s σ H _ _ v u Q I rx ry ⟨rfl,?_⟩;rw[Xp r1];have:=q.bl fh;rw[Bool.false_xor]at this;exact this
 .cases e;rw[r2.bl_inv]at ry;refine zn3 pins s σ H _ _ v u Q I rx ry ⟨_,rfl,?_⟩;rw[Xq r1];have:=q.bl fh;rw[Bool.false_xor]at this;exact this
 .cases e
theorem zes:Ak X (compareOp .IsNot) (Bt X.K (Cc true)):=by
 intro pins s σ H x y v u Q I rx ry h;obtain⟨F,t1,t2,r,fh,r1,r2,e,q⟩:=h;unfold Cc at e;split at e
 .cases e;rw[r2.non_inv]at ry;refine zjj pins s σ H _ _ v u Q I rx ry ⟨rfl,?_⟩;rw[Xp r1];have:=q.bl fh;rw[Bool.true_xor]at this;exact this
 .cases e;rw[r2.bl_inv]at ry;refine zjk pins s σ H _ _ v u Q I rx ry ⟨_,rfl,?_⟩;rw[Xq r1];have:=q.bl fh;rw[Bool.true_xor]at this;exact this
 .cases e
end
variable {ps:List Str}
section
variable {K:k9}{b:Expr}{p:Pos}
theorem r_isT{c:String}{cn:Str}(hv:bootBuiltins cn=some (.type c))(hg:Gl X "isinstance")(hm:X.mg "isinstance"=none)(hgc:Gl X cn)(hmc:X.mg cn=none)(hn:cn≠"__name__")(hd:(cn == ("__debug__":Str))=false)(ha:PE X e (tM X.K E ca m))(he:starEach [e,.Name cn p2] X.env=(false,eval e X.env)::starEach [.Name cn p2] X.env) :
  PE X (.Call (.Name "isinstance" p) [e,.Name cn p2] [] pos) (tM X.K E ca (Bf (g1 (Ci c)) (AB m AE))):=by
 refine PE.weak (KY (zg0 (c:=c)) hg hm PyProof.Rows.boot_isinstance (EC ha (EC (zjg (v:=.ty c) hgc hmc hv rfl hn hd) E6) he) (by decide) (by decide) he rfl) λσ H Q h=>?_
 exact(G5 (G6 h)).mono λx H1 h1=>⟨x,rfl,G4 h1⟩
inductive Ru where
 |ok (t:T)|exc (c:Str)
def BA(K:k9)(ca:Str->Value)(g:List T->Option Ru):Sp:=λvs H Q E=>∃F ts,A7 F H/\Ad K F ts vs/\match g ts with
 |some (.ok v)=>DG K F H v Q
 |some (.exc c)=>∀F' H',Ext F H F' H' R0->E (ca c) none H'
 |none=>False
def AS(g:List T->Option Ru)(ms:BI):AJ:=λτ=>match ms τ with
 |some (.v ts b)=>(match g ts with
  |some (.ok v)=>BE b v
  |some (.exc c)=>some (.x c)
  |none=>none)
 |some (.x c)=>some (.x c)
 |none=>none
theorem YQ{g:List T->Option Ru}(h:tM K E ca (AS g ms) σ H Q):Mm (BA K ca g) [] E (Bs K E ca ms) σ H Q:=by
 obtain⟨F,τ,R,S,q⟩:=h;refine⟨F,τ,R,S,?_⟩;unfold AS at q;cases hs:ms τ with
 |none=>simp only[hs]at q<;>exact q.elim
 |some r =>
  simp only[hs]at q;cases r with
  |x c=>exact q
  |v ts b =>
   intro F1 H1 xs e1 rs;have S1:=S.ext e1;simp only at q;rw[yay];refine⟨Gz b F1 H1 R,ts,Ov S1,rs,?_⟩;cases hg:g ts with
   |none=>simp only[hg]at q<;>exact q.elim
   |some r =>
    simp only[hg]at q;cases r with
    |exc c=>exact λF' H' e2=>q F1 H' (e1.grow e2.hh)
    |ok v =>
     intro F2 H2 z C e2 r2;simp only at q;unfold BE at q;cases b with
     |false=>exact q F2 H2 z C (e1.trans0 e2) r2
     |true =>
      cases hf:v.flat with
      |false=>rw[hf]at q;cases q
      |true=>rw[hf]at q;exact q F1 H2 z R0 (e1.grow e2.hh) (r2.flat_any hf)
theorem zma{k:Nat}{g:List T->Option Ru}(D:DefX X.prog X.w X.K X.mg X.base k x ps (BA X.K ca g))(hr:Room j X.A)(hx:BH X E)(ha:PA X (e::es) (Bs X.K E ca ms))(hk:k<=j)(hg:Gl X x)(hdb:(x == ("__debug__":Str))=false)(he:starEach (e::es) X.env=(false,eval e X.env)::starEach es X.env)(hpl:(backTo pos (starEach es X.env)).any (·.1)=false):PE X (.Call (.Name x p) (e::es) [] pos) (tM X.K E ca (AS g ms)):=PE.weak (px D hr hx ha hk hg hdb he hpl) λ_ _ _ h=>YQ h
end
theorem Ad.app{K:k9}{F:Hp}:∀{ts us:List T} {xs ys:List V},Ad K F ts xs->Ad K F us ys->Ad K F (ts++us) (xs++ys)
 |[],us,xs,ys,h,r=>by
  rw[h.inv0];exact r
 |t::ts,us,xs,ys,h,r=>by
  obtain⟨x,xs',rfl,h1,h2⟩:=h.inv;exact .cons h1 (Ad.app h2 r)
def gD(dts:List T)(g:List T->Option Ru):List T->Option Ru:=λts=>g (ts++dts)
variable {dvs:List V}
section
variable {p:Pos}
theorem ziw{k:Nat}{g:List T->Option Ru}{dts:List T}(D:DefX X.prog X.w X.K X.mg X.base k x ps (BA X.K ca g))(DD:DefsX X.K D.fd ps dvs)(hdt:∀F:Hp,Ad X.K F dts dvs)(hr:Room j X.A)(hx:BH X E)(ha:PA X (e::es) (Bs X.K E ca ms))(hk:k<=j)(hg:Gl X x)(hdb:(x == ("__debug__":Str))=false)(he:starEach (e::es) X.env=(false,eval e X.env)::starEach es X.env)(hpl:(backTo pos (starEach es X.env)).any (·.1)=false):PE X (.Call (.Name x p) (e::es) [] pos) (tM X.K E ca (AS (gD dts g) ms)):=PE.weak (pxd D DD hr hx ha hk hg hdb he hpl) λσ H Q h=>(YQ h).mono λvs H1 ⟨F,ts,s,r,q⟩=>by
 rw[yay]at r;exact⟨F,ts++dts,s,r.app (hdt F),q⟩
end
def Fd(K:k9)(J:It)(F:Hp)(ts:List T):Prop:=∀(i:Nat) (F' H':Hp),A7 F F'->A7 F' H' ->
 (∀t,ts[i]?=some t->J.go i H'/\∀x H'',J.yld i H' x H''->∃F'',Ext F' H' F'' H'' R0/\Rp K F'' H'' t x R0)/\(i=ts.length->J.stop i H')
def pI(K:k9)(E:L2.St->XK)(ca:Str->Value)(σ:L2.St)(P:It->Hp->Prop)(F H:Hp):Option RsL->Prop
 |some (.v ts _)=>∀F' H' J,Ext F H F' H' R0->Fd K J F' ts->P J H'
 |some (.x c)=>∀F' H',Ext F H F' H' R0->E σ (ca c) none H'
 |none=>False
def tI(K:k9)(E:L2.St->XK)(ca:Str->Value)(m:BI):TI:=λσ H P=>∃F τ R,StR K F H σ τ R/\pI K E ca σ P F H (m τ)
noncomputable def Iy:T->Bool
 |.nd _ .lst _=>true
 |.nd _ .rl _=>true
 |.nd _ (.pin _) _=>true
 |_=>false
noncomputable def Hb(m:AJ):BI:=λτ=>match m τ with
 |some (.v (.nd _ k l) false)=>some (.v (BF l) false)
 |some (.x c)=>some (.x c)
 |_=>none
def DT(lo:Int)(n:Nat):List T:=(List.range n).map λ(i:Nat)=>.int (lo+(i:Int))
def Cq(j:Int):Bool:=@decide (-(2 ^ 62)<=j/\j<2 ^ 62) (Classical.propDecidable _)
def Ld:List T->Option Int
 |[.int j]=>some j
 |_=>none
def CM(ms:BI):BI:=λτ=>match ms τ with
 |some (.v ts _)=>(match Ld ts with
  |some j=>if Cq j then some (.v (DT 0 j.toNat) false) else none
  |none=>none)
 |r=>r
def CV:Nat->List T->List T
 |_,[]=>[]
 |i,t::r=>.tup [.int (i:Int),t]::CV (i+1) r
def Gp:List T->Option (List T)
 |[.nd o k l]=>if Iy (.nd o k l) then some l else none
 |_=>none
def Lc:List T->Option (List T×List T)
 |[.nd o k l,.nd o' k' m]=>if Iy (.nd o k l) && Iy (.nd o' k' m) then some (l,m) else none
 |_=>none
def DB(ms:BI):BI:=λτ=>match ms τ with
 |some (.v ts false)=>(match Gp ts with
  |some l=>some (.v (CV 0 l) false)
  |none=>none)
 |some (.v _ true)=>none
 |r=>r
def IH(l m:List T):List T:=List.zipWith (λa b=>T.tup [a,b]) l m
def GA(ms:BI):BI:=λτ=>match ms τ with
 |some (.v ts false)=>(match Lc ts with
  |some (l,m)=>some (.v (IH l m) false)
  |none=>none)
 |some (.v _ true)=>none
 |r=>r
theorem LW:∀(l:List T) (n i:Nat),(CV n l)[i]?=(l[i]?).map λt=>T.tup [.int ((n+i:Nat):Int),t]
 |[],n,i=>by simp[CV]
 |t::r,n,i=>by
  cases i with
  |zero=>simp[CV]
  |succ i =>
   simp only[CV,ycr];rw[LW r (n+1) i];have:n+1+i=n+(i+1):=by omega
   rw[this]
theorem P7(l:List T):∀n,(CV n l).length=l.length:=by
 induction l with
 |nil=>intro n;rfl
 |cons t r ih=>intro n;simp[CV,ih]
section
variable {K:k9}{b:Expr}{p:Pos}
theorem Ol{p:Addr}(n:∀F' H':Hp,A7 F F'->A7 F' H'->A9 K H' p xs)(r:Ad K F l xs):Fd K (Q8 K p) F l:=by
 intro i F' H' s1 s2;have sq:=n F' H' s1 s2;refine⟨λt ht=>?_,λe=>⟨xs,sq,by rw[e,r.1];exact yae _⟩⟩
 have hi:i<xs.length:=by
  have:=(ya6.mp ht).1;have:=r.1
  omega
 refine⟨⟨xs,xs[i],sq,ya0 hi⟩,λx H'' y=>?_⟩
 obtain⟨rfl,y⟩:=y;have hx:=y xs sq;exact⟨F',Ext.refl s2,((r.same s1).2 i t x ht hx).any⟩
theorem WH{p:Addr}(n:∀F' H':Hp,A7 F F'->A7 F' H'->Bx K H' p xs)(r:Ad K F l xs):Fd K (Q7 K p) F l:=by
 intro i F' H' s1 s2;have sq:=n F' H' s1 s2;refine⟨λt ht=>?_,λe=>⟨xs,sq,by rw[e,r.1];exact yae _⟩⟩
 have hi:i<xs.length:=by
  have:=(ya6.mp ht).1;have:=r.1
  omega
 refine⟨⟨xs,xs[i],sq,ya0 hi⟩,λx H'' y=>?_⟩
 obtain⟨rfl,y⟩:=y;have hx:=y xs sq;exact⟨F',Ext.refl s2,((r.same s1).2 i t x ht hx).any⟩
theorem zf1{lo:Int}:Fd K (MI lo n) F (DT lo n):=by
 intro i F' H' s1 s2;refine⟨λt ht=>?_,λe=>?_⟩
 .unfold DT at ht;rw[ya3]at ht;obtain⟨j,e1,e2⟩:=yah.mp ht
  have hi:i<n:=by
   have:=(ya6.mp e1).1
   simpa using this
  have hj:i=j:=by rw[ybh hi]at e1;exact yao e1
  subst hj;subst e2;refine⟨hi,λx H'' y=>?_⟩
  obtain⟨rfl,rfl⟩:=y;exact⟨F',Ext.refl s2,.int _⟩
 .have:n<=i:=by rw[e];simp[DT]
  exact this
theorem WI{k:Nat}{p:Addr}(n:∀F' H':Hp,A7 F F'->A7 F' H'->A9 K H' p xs)(r:Ad K F l xs):Fd K (MJ K k p) F (CV k l):=by
 intro i F' H' s1 s2;have sq:=n F' H' s1 s2;refine⟨λt ht=>?_,λe=>⟨xs,sq,by rw[e,P7,r.1];exact yae _⟩⟩
 rw[LW]at ht;obtain⟨t0,h0,rfl⟩:=yah.mp ht
 have hi:i<xs.length:=by
  have:=(ya6.mp h0).1;have:=r.1
  omega
 refine⟨⟨xs,xs[i],sq,ya0 hi⟩,λx H'' y=>?_⟩
 obtain⟨q,y0,rfl,hq,rfl,y⟩:=y;have hx:=y xs sq;have e:=Ext.new (o:=.tup [.int ((k+i:Nat):Int),y0]) s2 hq;refine⟨_,e,Ad.of_node (k:=.tup) (xs:=[.int ((k+i:Nat):Int),y0]) Cd ?_⟩;exact .cons (H:=H') (.int _) (.cons (H:=H') (((r.same (s1.trans e.ff)).2 i t0 y0 h0 hx).any) .nil)
theorem zke{p p2:Addr}{ys:List V}{l2:List T}(n:∀F' H':Hp,A7 F F'->A7 F' H'->A9 K H' p xs)(n2:∀F' H':Hp,A7 F F'->A7 F' H'->A9 K H' p2 ys)(r:Ad K F l xs)(r2:Ad K F l2 ys):Fd K (Q6 K p p2) F (IH l l2):=by
 intro i F' H' s1 s2;have sq:=n F' H' s1 s2;have sq2:=n2 F' H' s1 s2;have l1:=r.1;have l2':=r2.1;refine⟨λt ht=>?_,λe=>⟨xs,ys,sq,sq2,?_⟩⟩
 .unfold IH at ht;rw[ydp]at ht;cases h1:l[i]? with
  |none=>rw[h1]at ht;cases ht
  |some t1 =>
   cases h2:l2[i]? with
   |none=>rw[h1,h2]at ht;cases ht
   |some t2 =>
    rw[h1,h2]at ht;cases ht;have hi:i<xs.length:=by have:=(ya6.mp h1).1;omega
    have hi2:i<ys.length:=by have:=(ya6.mp h2).1;omega
    refine⟨⟨xs,xs[i],ys,ys[i],sq,ya0 hi,sq2,ya0 hi2⟩,λx H'' y=>?_⟩
    obtain⟨q,y0,z0,rfl,hq,rfl,y,z⟩:=y;have hx:=y xs sq;have hy:=z ys sq2;have e:=Ext.new (o:=.tup [y0,z0]) s2 hq;refine⟨_,e,Ad.of_node (k:=.tup) (xs:=[y0,z0]) Cd ?_⟩;exact .cons (H:=H') (((r.same (s1.trans e.ff)).2 i t1 y0 h1 hx).any) (.cons (H:=H') (((r2.same (s1.trans e.ff)).2 i t2 z0 h2 hy).any) .nil)
 .have:i=min l.length l2.length:=by rw[e];simp[IH]
  omega
theorem PI.weak{t t':TI}(h:PI X tg e t)(w:∀σ H P,t' σ H P->t σ H P):PI X tg e t':=λpins s σ H P I q=>h pins s σ H P I (w σ H P q)
theorem PI.or{t t':TI}(h:PI X tg e t)(h':PI X tg e t'):PI X tg e (λσ H P=>t σ H P\/t' σ H P):=λpins s σ H P I q=>q.elim (h pins s σ H P I) (h' pins s σ H P I)
theorem T5(ha:PE X e (tM X.K E ca m)):PI X tg e (tI X.K E ca (Hb m)):=by
 refine PI.weak (PI.or (zja ha) (zmn ha)) λσ H P h=>?_
 obtain⟨F,τ,R,S,q⟩:=h;unfold Hb at q
 have key:∀{o:Bool} {k:Kd} {l:List T},m τ=some (.v (.nd o k l) false)->(∀F' H' J,Ext F H F' H' R0->Fd X.K J F' (BF l)->P J H')->∀F1 H1 x B,Ext F H F1 H1 B->Df X.K F1 H1 R (.nd o k l) false x B->∃(F2:Hp) (p:Addr) (xs:List V),x=.ref p/\Ext F H F2 H1 R0/\FI X.K F2 k p xs/\Ad X.K F2 (BF l) xs:=by
  intro o k l hm q F1 H1 x B e1 g1;obtain⟨F2,e2,_,r2⟩:=Df.frz (b:=false) S e1 g1;have r2':Rp X.K F2 F2 (T.nd o k l).share x R0:=r2;rw[T.share]at r2';obtain⟨p,xs,rfl,_,n,kd⟩:=EW r2';exact⟨F2,p,xs,rfl,e2,n,kd⟩
 cases hm:m τ with
 |none=>simp only[hm]at q<;>exact q.elim
 |some r =>
  simp only[hm]at q;cases r with
  |x c=>exact .inl ⟨F,τ,R,S,by rw[hm];exact q⟩
  |v t bb =>
   cases t with
   |nd o k l =>
    cases bb with
    |true=>exact q.elim
    |false =>
     simp only at q;cases k with
     |lst =>
      refine .inl ⟨F,τ,R,S,?_⟩;rw[hm];intro F1 H1 x B e1 g1;obtain⟨F2,p,xs,rfl,e2,n,kd⟩:=key hm q F1 H1 x B e1 g1;exact⟨p,rfl,⟨xs,A9.of (e2.fh _ _ n)⟩,q F2 H1 _ e2 (Ol (λF' H' s1 s2=>A9.of (s2 _ _ (s1 _ _ n))) kd)⟩
     |pin _ =>
      refine .inl ⟨F,τ,R,S,?_⟩;rw[hm];intro F1 H1 x B e1 g1;obtain⟨F2,p,xs,rfl,e2,n,kd⟩:=key hm q F1 H1 x B e1 g1;exact⟨p,rfl,⟨xs,A9.of (e2.fh _ _ n)⟩,q F2 H1 _ e2 (Ol (λF' H' s1 s2=>A9.of (s2 _ _ (s1 _ _ n))) kd)⟩
     |rl =>
      refine .inl ⟨F,τ,R,S,?_⟩;rw[hm];intro F1 H1 x B e1 g1;obtain⟨F2,p,xs,rfl,e2,n,kd⟩:=key hm q F1 H1 x B e1 g1;exact⟨p,rfl,⟨xs,e2.fh.seq n⟩,q F2 H1 _ e2 (Ol (λF' H' s1 s2=>s2.seq (s1.seq n)) kd)⟩
     |tup =>
      refine .inr ⟨F,τ,R,S,?_⟩;rw[hm];intro F1 H1 x B e1 g1;obtain⟨F2,p,xs,rfl,e2,n,kd⟩:=key hm q F1 H1 x B e1 g1;exact⟨p,rfl,⟨xs,Bx.of (e2.fh _ _ n)⟩,q F2 H1 _ e2 (WH (λF' H' s1 s2=>Bx.of (s2 _ _ (s1 _ _ n))) kd)⟩
     |rt =>
      refine .inr ⟨F,τ,R,S,?_⟩;rw[hm];intro F1 H1 x B e1 g1;obtain⟨F2,p,xs,rfl,e2,n,kd⟩:=key hm q F1 H1 x B e1 g1;exact⟨p,rfl,⟨xs,Fj e2.fh n⟩,q F2 H1 _ e2 (WH (λF' H' s1 s2=>Fj s2 (Fj s1 n)) kd)⟩
   |_=>exact q.elim
theorem Ju{f:(BI)->BI}{P:It->Hp->Prop}{W:List V->Hp->Prop}(hx:∀τ c,ms τ=some (.x c)->f ms τ=some (.x c))(hn:∀τ,ms τ=none->f ms τ=none)
  (hv : ∀ F τ R ts b, StR K F H σ τ R -> ms τ = some (.v ts b) -> (match f ms τ with
   |some (.v us _)=>∀F' H' J,Ext F H F' H' R0->Fd K J F' us->P J H'
   |some (.x c)=>∀F' H',Ext F H F' H' R0->E σ (ca c) none H'
   |none=>False)->∀F' H' xs,Ext F H F' H' R0->Ad K (Gz b F' H' R) ts xs->W xs H') (h:tI K E ca (f ms) σ H P):Bs K E ca ms σ H W:=by
 obtain⟨F,τ,R,S,q⟩:=h;refine⟨F,τ,R,S,?_⟩;cases hm:ms τ with
 |none=>rw[hn τ hm]at q;exact q.elim
 |some r =>
  cases r with
  |x c=>rw[hx τ c hm]at q;exact q
  |v ts b=>exact λF' H' xs e rs=>hv F τ R ts b S hm q F' H' xs e rs
theorem zh5{j:Int}(h:Cq j=true):-(2 ^ 62)<=j/\j<2 ^ 62:=@of_decide_eq_true _ (Classical.propDecidable _) h
theorem zgp(hg:Gl X "range")(hm:X.mg "range"=none)(ha:PA X [a] (Bs X.K E ca ms))(hs:starEach [a] X.env=[(false,eval a X.env)]):PI X tg (.Call (.Name "range" p) [a] [] pos) (tI X.K E ca (CM ms)):=by
 refine PI.weak (zep hg hm ha hs) λσ H P h=>?_
 refine Ju (f:=CM) (λτ c e=>by unfold CM;rw[e]) (λτ e=>by unfold CM;rw[e]) (λF τ R ts b S e q F' H' xs e1 rs=>?_) h
 unfold CM at q;rw[e]at q;simp only at q;cases h1:Ld ts with
 |none=>simp only[h1]at q<;>exact q.elim
 |some j =>
  simp only[h1]at q
  by_cases hj:Cq j=true
  .simp only[hj,yf3]at q;obtain⟨g1,g2⟩:=zh5 hj;unfold Ld at h1;split at h1
   .cases h1;obtain⟨x1,xs1,rfl,r1,rs1⟩:=rs.inv;cases rs1.inv0;rw[r1.int_inv];exact⟨j,rfl,g1,g2,q F' H' _ e1 zf1⟩
   .cases h1
  .simp only[hj]at q;exact q.elim
theorem LC{o:Bool}{k:Kd}{x:V}(h:Iy (.nd o k l)=true)(r:Rp K F F (.nd o k l) x R0):∃p xs,x=.ref p/\(∀F' H':Hp,A7 F F'->A7 F' H'->A9 K H' p xs)/\Ad K F l xs:=by
 obtain⟨p,xs,rfl,_,n,kd⟩:=EW r;refine⟨p,xs,rfl,λF' H' s1 s2=>?_,kd⟩
 cases k with
 |lst=>exact A9.of (s2 _ _ (s1 _ _ n))
 |rl=>exact s2.seq (s1.seq n)
 |tup=>cases h
 |rt=>cases h
 |pin q=>exact A9.of (s2 _ _ (s1 _ _ n))
theorem T6(hg:Gl X "enumerate")(hm:X.mg "enumerate"=none)(ha:PA X [a] (Bs X.K E ca ms))(hs:starEach [a] X.env=[(false,eval a X.env)]):PI X (.Tuple elts kk tpos) (.Call (.Name "enumerate" p) [a] [] pos) (tI X.K E ca (DB ms)):=by
 refine PI.weak (zjb hg hm ha hs) λσ H P h=>?_
 refine Ju (f:=DB) (λτ c e=>by unfold DB;rw[e]) (λτ e=>by unfold DB;rw[e]) (λF τ R ts b S e q F' H' xs e1 rs=>?_) h
 unfold DB at q;rw[e]at q;cases b with
 |true=>exact q.elim
 |false =>
  simp only at q;cases h1:Gp ts with
  |none=>simp only[h1]at q<;>exact q.elim
  |some l =>
   simp only[h1]at q;unfold Gp at h1;split at h1
   .split at h1
    .cases h1;rename_i hL;obtain⟨x1,xs1,rfl,r1,rs1⟩:=rs.inv;cases rs1.inv0;obtain⟨p',ys,rfl,sq,kd⟩:=LC hL r1;exact⟨p',rfl,⟨ys,sq F' H' (.refl _) e1.fh⟩,q F' H' _ e1 (WI sq kd)⟩
    .cases h1
   .cases h1
theorem r_zip(hg:Gl X "zip")(hm:X.mg "zip"=none)(ha:PA X [a,b] (Bs X.K E ca ms))(hs:starEach [a,b] X.env=[(false,eval a X.env),(false,eval b X.env)])(hs2:starEach [b] X.env=[(false,eval b X.env)]):PI X (.Tuple elts kk tpos) (.Call (.Name "zip" p) [a,b] [] pos) (tI X.K E ca (GA ms)):=by
 refine PI.weak (zmm hg hm ha hs hs2) λσ H P h=>?_
 refine Ju (f:=GA) (λτ c e=>by unfold GA;rw[e]) (λτ e=>by unfold GA;rw[e]) (λF τ R ts b S e q F' H' xs e1 rs=>?_) h
 unfold GA at q;rw[e]at q;cases b with
 |true=>exact q.elim
 |false =>
  simp only at q;cases h1:Lc ts with
  |none=>simp only[h1]at q<;>exact q.elim
  |some lm =>
   obtain⟨l,m'⟩:=lm;simp only[h1]at q;unfold Lc at h1;split at h1
   .split at h1
    .cases h1;rename_i hL;rw[ya7]at hL;obtain⟨x1,xs1,rfl,r1,rs1⟩:=rs.inv;obtain⟨x2,xs2,rfl,r2,rs2⟩:=rs1.inv;cases rs2.inv0;obtain⟨p',ys,rfl,sq,kd⟩:=LC hL.1 r1;obtain⟨p2,zs,rfl,sq2,kd2⟩:=LC hL.2 r2;exact⟨p',p2,rfl,⟨ys,sq F' H' (.refl _) e1.fh⟩,⟨zs,sq2 F' H' (.refl _) e1.fh⟩,q F' H' _ e1 (zke sq sq2 kd kd2)⟩
    .cases h1
   .cases h1
end
theorem StR.set{K:k9}{F H:Hp}{σ:L2.St}{τ:AN}{R:Nat->Rg}(S:StR K F H σ τ R){i:Nat}{t:T}{x:V}{A:Rg}(r:Rp K F H t x A)(d:∀j a,j≠i->R j a->¬ A a)(hi:i<τ.length) :
  StR K F H (σ.set i (some x)) (τ.set i (some t)) (λj=>if j=i then A else R j):=by
 have hl:=S.len;refine⟨S.fh,by simp[hl],λj t' e=>?_,λj a z=>?_,λj k a hjk z1 z2=>?_⟩
 .by_cases hj:j=i
  .subst hj;rw[yax hi]at e;cases e;exact⟨x,yax (by omega),by simpa using r⟩
  .rw[yb4 (ybc hj)]at e ⊢;obtain⟨y,e1,r1⟩:=S.rep j t' e;exact⟨y,e1,by simpa[hj] using r1⟩
 .by_cases hj:j=i
  .subst hj;exact⟨t,yax hi⟩
  .simp only[hj,yf4]at z;obtain⟨t',e⟩:=S.out j a z;exact⟨t',by rw[yb4 (ybc hj)];exact e⟩
 .by_cases hj:j=i
  .simp only[hj,yf3]at z1;have hk:¬ k=i:=λz=>hjk (hj.trans z.symm)
   simp only[hk,yf4]at z2;exact d k a hk z2 z1
  .simp only[hj,yf4]at z1
   by_cases hk:k=i
   .simp only[hk,yf3]at z2;exact d j a hj z1 z2
   .simp only[hk,yf4]at z2;exact S.dis j k a hjk z1 z2
def Dx(K:k9)(b:T->AN->Option AN):TG:=λv σ H Q=>∃F τ R t τ',StR K F H σ τ R/\Rp K F H t v R0/\b t τ=some τ'/\∀σ' R',StR K F H σ' τ' R'->(∀i a,R' i a->R i a)->Q σ' H
def G7(K:k9)(b:List T->AN->Option AN):FC:=λvs σ H Q=>∃F τ R ts τ',StR K F H σ τ R/\Ad K F ts vs/\b ts τ=some τ'/\∀σ' R',StR K F H σ' τ' R'->(∀i a,R' i a->R i a)->Q σ' H
def AD(i:Nat):T->AN->Option AN:=λt τ=>if i<τ.length then some (τ.set i (some t)) else none
def Aq:List T->AN->Option AN
 |[],τ=>some τ
 |_::_,_=>none
def AQ(b:T->AN->Option AN)(bs:List T->AN->Option AN):List T->AN->Option AN
 |t::ts,τ=>(match b t τ with
  |some τ'=>bs ts τ'
  |none=>none)
 |[],_=>none
def Ap(n:Nat)(bs:List T->AN->Option AN):T->AN->Option AN
 |.nd _ .tup l,τ=>if l.length=n then bs l τ else none
 |.nd _ .rt l,τ=>if l.length=n then bs l τ else none
 |.nd _ .lst l,τ=>if l.length=n then bs l τ else none
 |_,_=>none
theorem zmq{k:Nat}{t:FC}(hc:X.calm=true)(h:De X es t)(hn:(assignEach es X.env).length=n)(hst:(assignEach es X.env).findIdx? (·.1)=none):PG X (.Tuple es k pos) (λv σ H Q=>Ox X.K n t v σ H Q\/∃a xs,v=.ref a/\A9 X.K H a xs/\xs.length=n/\t xs σ H Q):=by
 intro pins s σ H v u Q I r hw
 rcases hw with hw|⟨a,xs,e1,hq,hl,hw⟩
 .exact zmp hc h hn hst pins s σ H v u Q I r hw
 .subst e1;cases r;obtain⟨its,rv,⟨o,m,ho,hcl,_,hd⟩,hz⟩:=I.list hq;rw[assign_Tuple];refine yet (yev ?_);unfold unpack;rw[hst,hn,show n=its.toArray.size by simp[<- hl,rv.length]]
  refine yet (yeu (PySem.W.kun_itemsOf (I.ok.hd hc) ⟨o,ho,hcl,m,hd⟩ λh' hx=>?_))
  have I1:Inv X pins σ H { s with heap:=h' }:=I.kept (t':=s.toks) λb o e=>hx b o (yav (yaf e)) e
  exact h pins _ σ H xs _ Q I1 (by simpa using rv) hw
section
variable {b:T->AN->Option AN}{bs:List T->AN->Option AN}
theorem PG.weak{t t':TG}(h:PG X e t)(w:∀v σ H Q,t' v σ H Q->t v σ H Q):PG X e t':=λpins s σ H v u Q I r q=>h pins s σ H v u Q I r (w v σ H Q q)
theorem De.weak{t t':FC}(h:De X es t)(w:∀v σ H Q,t' v σ H Q->t v σ H Q):De X es t':=λpins s σ H v u Q I r q=>h pins s σ H v u Q I r (w v σ H Q q)
theorem g_nm(hN:X.N.Nodup)(hi:X.N[i]?=some x)(hx:GU X.env.scope x)(hf:X.fn x=true\/X.env.scope.names.lookup x=some .local):PG X (.Name x pos) (Dx X.K (AD i)):=by
 refine PG.weak (zjd hN hi hx hf) λv σ H Q h=>?_
 obtain⟨F,τ,R,t,τ',S,r,e,q⟩:=h;unfold AD at e;split at e
 .cases e;rename_i hl;refine q _ _ (S.set r (λ_ _ _ _ z=>z.elim) hl) λj a z=>?_
  by_cases hj:j=i
  .simp only[hj,yf3]at z;exact z.elim
  .simpa[hj] using z
 .cases e
theorem g_nil:De X [] (G7 X.K Aq):=De.weak zjc λv σ H Q h=>by
 obtain⟨F,τ,R,ts,τ',S,r,e,q⟩:=h;cases ts with
 |nil=>cases e;exact⟨r.inv0,q σ R S λ_ _ z=>z⟩
 |cons _ _=>cases e
theorem zo8(h1:PG X e (Dx X.K b))(h2:De X es (G7 X.K bs))(hs:(assignEach (e::es) X.env).map (·.2)=assign e X.env::(assignEach es X.env).map (·.2)):De X (e::es) (G7 X.K (AQ b bs)):=by
 refine De.weak (zgx h1 h2 hs) λv σ H Q h=>?_
 obtain⟨F,τ,R,ts,τ',S,r,e,q⟩:=h;cases ts with
 |nil=>cases e
 |cons t ts =>
  obtain⟨x,xs,rfl,r1,rs⟩:=r.inv;unfold AQ at e;simp only at e;cases hb:b t τ with
  |none=>rw[hb]at e;cases e
  |some τ1 =>
   rw[hb]at e;exact⟨x,xs,rfl,F,τ,R,t,τ1,S,r1.any,hb,λσ1 R1 S1 w1=>⟨F,τ1,R1,ts,τ',S1,rs,e,λσ2 R2 S2 w2=>q σ2 R2 S2 λi a z=>w1 i a (w2 i a z)⟩⟩
theorem g_tup{k:Nat}(hc:X.calm=true)(h:De X es (G7 X.K bs))(hn:(assignEach es X.env).length=n)(hst:(assignEach es X.env).findIdx? (·.1)=none):PG X (.Tuple es k pos) (Dx X.K (Ap n bs)):=by
 refine PG.weak (zmq hc h hn hst) λv σ H Q h=>?_
 obtain⟨F,τ,R,t,τ',S,r,e,q⟩:=h
 have key:∀{o:Bool} {kd:Kd} {l:List T},t=.nd o kd l->(kd=.tup\/kd=.rt\/kd=.lst)->(if l.length=n then bs l τ else none)=some τ'->(Ox X.K n (G7 X.K bs) v σ H Q\/∃a xs,v=.ref a/\A9 X.K H a xs/\xs.length=n/\G7 X.K bs xs σ H Q):=by
  intro o kd l et hk e';subst et;split at e'
  .rename_i hl;obtain⟨p,xs,rfl,_,nn,kid⟩:=EW (r.any (H':=F));have hx:xs.length=n:=by rw[<- kid.1];exact hl
   rcases hk with rfl|rfl|rfl
   .exact .inl ⟨p,xs,rfl,Bx.of (S.fh _ _ nn),hx,F,τ,R,l,τ',S,kid,e',q⟩
   .exact .inl ⟨p,xs,rfl,Fj S.fh nn,hx,F,τ,R,l,τ',S,kid,e',q⟩
   .exact .inr ⟨p,xs,rfl,A9.of (S.fh _ _ nn),hx,F,τ,R,l,τ',S,kid,e',q⟩
  .cases e'
 unfold Ap at e;split at e
 .exact key rfl (.inl rfl) e
 .exact key rfl (.inr (.inl rfl)) e
 .exact key rfl (.inr (.inr rfl)) e
 .cases e
end
section
abbrev Io(l:Addr):Obj:={ cls:=.type "list_iterator",data:=.fields #[.ref l,.int 0 0] }
abbrev P9(p:Addr)(k:Int):Obj:={ cls:=.type "enumerate",data:=.fields #[.none,.bool false,.ref p,rawInt k,.none,.none] }
set_option maxHeartbeats 1000001 in
theorem zk0(l:Addr)(its:Array Value)(n:Nat)(d:Option Addr)(sl:Array (Option Value))(t:Tok) :
  Meets (Builtin.«enumerate.__new__» ⟨[.type "enumerate",.ref l],[("start",.int 1 t)]⟩) (λ_ R s=>s.heap.get? l=some ⟨.type "list",d,.seq its n,sl⟩ /\
   R (.ok (.ret (.ref (s.heap.push (Io l)).objs.size))) { s with heap:=(s.heap.push (Io l)).push (P9 s.heap.objs.size 1) }):=Meets.of_wp λprog w A R s h=>by
 obtain⟨hp,g,d2,tk,os⟩:=s;obtain⟨hl,h⟩:=h;have hsub:=sub_enumerate;have hL:Heap.IsList (Shared.heap ⟨hp,g,d2,tk,os⟩) l its:=⟨_,hl,rfl,n,rfl⟩
 wp_walk using yfi hl
 refine wpAny_stack_any λst=>yew ?_
 split
 .rename_i c _ _ _ _ _;cases (c == Value.type "enumerate")
  .wp_walk using yfi hl,yez hL
   exact⟨_,rfl,h⟩
  .wp_walk using yfi hl,yez hL
   exact⟨_,rfl,h⟩
 .wp_walk using yfi hl,yez hL
  exact⟨_,rfl,h⟩
set_option maxHeartbeats 1000001 in
theorem zhg(x l:Addr)(t:Tok):Meets (Builtin.«object.__init__» ⟨[.ref x,.ref l],[("start",.int 1 t)]⟩) (λ_ R s=>s.TypeIs (.ref x) "enumerate"/\R (.ok (.ret .none)) s):=Meets.of_wp λprog w A R s hs=>by
 obtain⟨hT,hq⟩:=hs;have hl:=ye6.init.lookup;have hm:=ye6.made;have hne:(some "enumerate.__new__" != some "object.__new__")=true:=by decide
 repeat (any_goals (first|assumption|wp_step))
 exact⟨_,rfl,hq⟩
set_option maxHeartbeats 1000001 in
theorem zi5{A:Around}{E:Value->Shared->Prop}{l:Addr}{t:Tok}{Q:Value->Shared->Prop}(hL:s.heap.IsList l its)(h:∀h',IsEnum h' (s.heap.objs.size+1) s.heap.objs.size 1 .none->h'.IsListIter s.heap.objs.size l 0->h'.objs.size=s.heap.objs.size+2->(∀b o,s.heap.get? b=some o->h'.get? b=some o)->Q (.ref (s.heap.objs.size+1)) { s with heap:=h' }) :
  wpAny (model prog w) A (call (.type "enumerate") [.ref l] [("start",.int 1 t)]) Q E s:=by
 obtain⟨⟨c,d,dt,sl⟩,hl,hc,n,hd⟩:=hL
 replace hc:c=.type "list":=hc
 replace hd:dt=.seq its n:=hd
 subst hc hd;have ft:=ye6;obtain⟨c,tl,hmro⟩:=ft.mro;have hmade:=ft.made;have hsub:=ft.sub;have hct:checkTypeCall "enumerate" ⟨[.ref l],[("start",.int 1 t)]⟩=pure ():=by ext
 have hcn:checkBuiltinCall "enumerate.__new__" ⟨[.type "enumerate",.ref l],[("start",.int 1 t)]⟩=pure ():=by ext
 refine yfa (codeAny_of_tree ?_);refine yew ⟨Code.quiet_builtin _ (by decide +kernel),yfj F.entry_type_call ?_⟩
 rw[Around.under_plain (weight_type_call_type "enumerate" _ _) (units_type_call_type "enumerate" _ _)];have h1:=ft.notType;have h2:=ft.canCreate
 repeat (any_goals (first|assumption|wp_step))
 refine yf7 (yfk ft.plain F.entry_enumerate_new (yfl hcn (zk0 l its n d sl t prog w A.in1 (wants (λo s1=>o=.ref (s.heap.objs.size+1)/\s1.TypeIs o "enumerate"/\Q o s1) E) s ⟨hl,?_⟩))) λr s1 hr=>?_
 .have hz:(s.heap.push (Io l)).objs.size=s.heap.objs.size+1:=ybw ..
  have he:IsEnum ((s.heap.push (Io l)).push (P9 s.heap.objs.size 1)) (s.heap.objs.size+1) s.heap.objs.size 1 .none:=by
   have:=yaw (s.heap.push (Io l)) (o:=P9 s.heap.objs.size 1) rfl;rw[hz]at this;exact this
  show _/\_;rw[hz];exact⟨rfl,⟨_,he,rfl⟩,h _ he ⟨_,yaa _ (yaw _ rfl),rfl,rfl⟩ (by rw[ybw,hz]) λb o x=>yaa _ (yaa _ x)⟩
 .cases r with
  |error e=>exact hr
  |ok fl =>
   cases fl with
   |ret obj =>
    obtain⟨rfl,hT,hq⟩:=hr;have hli:=ft.init.lookup;have hbi:=ft.init.bind (.ref (s.heap.objs.size+1));have hok:argsOk "object.__init__" ⟨[.ref (s.heap.objs.size+1),.ref l],[("start",.int 1 t)]⟩:=by ext
    repeat (any_goals (first|assumption|wp_step))
    refine yf7 (yfk ft.init.plain F.entry_object_init (ft.init.check _ _ _ _ _ _ _ _ hT hok (zhg _ l t prog w A.in1 (wants (λr s2=>r=.none/\Q (.ref (s.heap.objs.size+1)) s2) E) s1 ⟨hT,rfl,hq⟩))) λr2 s2 hr2=>?_
    cases r2 with
    |error e=>exact hr2
    |ok fl2 =>
     cases fl2 with
     |ret r =>
      obtain⟨rfl,hq⟩:=hr2
      repeat (any_goals (first|assumption|wp_step))
     |_=>exact hr2.elim
   |_=>exact hr.elim
end
section
variable {ko:Nat}{p kp vp:Pos}
abbrev LA(ko:Nat)(vp kp:Pos):List Keyword:=[⟨some (Str.ofString "start"),.Constant (.int 1) ko vp,kp⟩]
theorem zoc{M:Model}{A:Around}{R:Value->Shared->Prop}{T:String}{args:List (Bool×Sem Value)}{ks:List (Option Str×Sem Value)}{Q:Value->Shared->Prop}(h1:args.any (·.1)=false)(h2:ks.any (·.1.isNone)=false)(h:wpAny M A (evalArgs (.type T) true args ks) (λa s1=>wpAny M A (call (.type T) a.pos a.kw) Q R s1) R s):wpAny M A (callWith pos (.type T) [] args ks) Q R s:=by
 unfold callWith;refine yet (yeu (AZ h λa s1 q=>yet (yev ?_)))
 simp only[h1,h2,yd0];exact yet (yew (yet (AZ q λr s2 z=>yet (yeu (wpAny_point (yew z))))))
def zo5(K:k9)(ta:TA):TI:=λσ H R=>ta σ H λvs H1=>∃a,vs=[.ref a]/\(∃xs,A9 K H1 a xs)/\R (MJ K 1 a) H1
theorem zgw{ta:TA}(hg:Gl X "enumerate")(hm:X.mg "enumerate"=none)(ha:PA X [a] ta)(hs:starEach [a] X.env=[(false,eval a X.env)]):PI X (.Tuple elts kk tpos) (.Call (.Name "enumerate" p) [a] (LA ko vp kp) pos) (zo5 X.K ta):=by
 intro pins s σ H R I h;have he:eval (.Call (.Name "enumerate" p) [a] (LA ko vp kp) pos) X.env=(do callWith pos (<- eval (.Name "enumerate" p) X.env) [] (backTo pos (starEach [a] X.env)) (backToKw pos (keywordEach (LA ko vp kp) X.env))):=by rfl
 rw[he];refine yet (Fw I hg hm boot_enumerate (zoc (by rw[hs];rfl) rfl ?_))
 have hb:backTo pos (starEach [a] X.env)=[(false,eval a X.env)]:=by rw[hs];rfl
 have h0:=ha pos pins s σ H _ I h;rw[hb]at h0 ⊢;refine evalArgs_kwB rfl (AZ h0 λus s1 ⟨vs,H1,I1,r1,q1⟩=>kws_cons ?_)
 refine wpAny_Constant_int (kws_nil ?_);obtain⟨l,e,⟨xs,hq⟩,q⟩:=q1;subst e;obtain⟨u,rfl,ru⟩:=Ek r1;cases ru;have I2:Inv X pins σ H1 { s1 with toks:=s1.toks+1 }:=I1.tok _
 obtain⟨its,rv,pl,hz⟩:=I2.list hq;refine zi5 (t:=s1.toks) pl.isList λh' he hit hsz hk=>?_
 have I3:Inv X pins σ H1 { s1 with heap:=h',toks:=s1.toks+1 }:=I2.kept hk
 refine yfd he ⟨s1.heap.objs.size+1,[s1.heap.objs.size+1,s1.heap.objs.size],_,_,H1,rfl,I3,Qu 1 l _ _ (by simp),⟨⟨_,by simpa using he⟩,hit⟩,λb hb=>?_,q⟩
 have hb':s1.heap.objs.size<=b:=by
  obtain rfl|hb:=ya9.mp hb
  .exact ycc _
  .rw[ya8.mp hb];exact yae _
 exact I1.fpOk hb' (I1.hok.fresh hb')
def GB(ms:BI):BI:=λτ=>match ms τ with
 |some (.v ts false)=>(match Gp ts with
  |some l=>some (.v (CV 1 l) false)
  |none=>none)
 |some (.v _ true)=>none
 |r=>r
theorem r_en1(hg:Gl X "enumerate")(hm:X.mg "enumerate"=none)(ha:PA X [a] (Bs X.K E ca ms))(hs:starEach [a] X.env=[(false,eval a X.env)]):PI X (.Tuple elts kk tpos) (.Call (.Name "enumerate" p) [a] (LA ko vp kp) pos) (tI X.K E ca (GB ms)):=by
 refine PI.weak (zgw hg hm ha hs) λσ H P h=>?_
 refine Ju (f:=GB) (λτ c e=>by unfold GB;rw[e]) (λτ e=>by unfold GB;rw[e]) (λF τ R ts b S e q F' H' xs e1 rs=>?_) h
 unfold GB at q;rw[e]at q;cases b with
 |true=>exact q.elim
 |false =>
  simp only at q;cases h1:Gp ts with
  |none=>simp only[h1]at q<;>exact q.elim
  |some l =>
   simp only[h1]at q;unfold Gp at h1;split at h1
   .split at h1
    .cases h1;rename_i hL;obtain⟨x1,xs1,rfl,r1,rs1⟩:=rs.inv;cases rs1.inv0;obtain⟨p',ys,rfl,sq,kd⟩:=LC hL r1;exact⟨p',rfl,⟨ys,sq F' H' (.refl _) e1.fh⟩,q F' H' _ e1 (WI sq kd)⟩
    .cases h1
   .cases h1
end
def Y9:L2.St->XK:=λ_=>E0
noncomputable def BD(b:T->AN->Option AN)(mt me:AJ):List T->AN->Option (List T)
 |[],_=>some []
 |t::ts,τ=>(match b t τ with
  |some τ1=>(match mt τ1 with
   |some (.v (.bl true) _)=>(match me τ1 with
    |some (.v v false)=>(match BD b mt me ts τ1 with
     |some l=>some (v::l)
     |none=>none)
    |_=>none)
   |some (.v (.bl false) _)=>BD b mt me ts τ1
   |_=>none)
  |none=>none)
noncomputable def FY(b:T->AN->Option AN)(mt me:AJ):List T->AN->Option Str
 |[],_=>none
 |t::ts,τ=>(match b t τ with
  |some τ1=>(match mt τ1 with
   |some (.v (.bl true) _)=>(match me τ1 with
    |some (.v _ false)=>FY b mt me ts τ1
    |some (.x c)=>some c
    |_=>none)
   |some (.v (.bl false) _)=>FY b mt me ts τ1
   |some (.x c)=>some c
   |_=>none)
  |none=>none)
noncomputable def Hm(τ:AN)(j:Nat):Option T:=match τ[j]? with
 |some (some t)=>if t.sh then some t else none
 |_=>none
def blk(n:Nat)(caps:List Nat)(τ:AN):AN:=List.replicate n none++caps.map (Hm τ)
noncomputable def L5(σ:L2.St)(j:Nat):Option V:=match σ[j]? with
 |some (some v)=>some v
 |_=>none
def E1(n:Nat)(caps:List Nat)(σ:L2.St):L2.St:=List.replicate n none++caps.map (L5 σ)
def Ar(n:Nat)(caps:List Nat)(mi:BI)(b:T->AN->Option AN)(mt me:AJ):AJ:=λτ=>match mi τ with
 |some (.v ts _)=>if ts.length<=BP then (match BD b mt me ts (blk n caps τ) with
  |some l=>some (.v (.own l) false)
  |none=>(match FY b mt me ts (blk n caps τ) with
   |some c=>some (.x c)
   |none=>none)) else none
 |some (.x c)=>some (.x c)
 |none=>none
theorem zog{K:k9}(S:StR K F H σ τ R)(n:Nat)(caps:List Nat):StR K F H (E1 n caps σ) (blk n caps τ) (λ_=>R0):=by
 refine⟨S.fh,by simp[E1,blk],λi t e=>?_,λ_ _ z=>z.elim,λ_ _ _ _ z=>z.elim⟩
 unfold blk at e;unfold E1
 by_cases hi:i<n
 .rw[yaz (by simpa using hi),ydb,if_pos hi]at e
  cases e
 .rw[yb2 (by simp;omega),ya3]at e ⊢
  simp only[ydn]at e ⊢;cases hc:caps[i - n]? with
  |none=>rw[hc]at e;cases e
  |some j =>
   rw[hc]at e;simp only[yb1]at e ⊢;have e':Hm τ j=some t:=yao e;unfold Hm at e';split at e'
   .rename_i t' ht;split at e'
    .cases e';rename_i hs;obtain⟨x,ex,r⟩:=S.rep j _ ht;refine⟨x,?_,r.move hs (.refl _)⟩;unfold L5;rw[ex]
    .cases e'
   .cases e'
variable {Rr:Nat->Rg}
theorem R7{a:Addr}(h:tot (λj=>if j=l.length then B else Rr j) a):tot Rr a\/B a:=by
 obtain⟨j,z⟩:=h
 by_cases hj:j=l.length
 .simp only[hj,yf3]at z;exact .inr z
 .simp only[hj,yf4]at z;exact .inl ⟨j,z⟩
variable {me:AJ}
section
variable {K:k9}{caps:List Nat}{mi:BI}{b:T->AN->Option AN}{mt:AJ}
theorem zey{t:T}{us l2:List T}{τ1:AN}(h:BD b mt me (t::us) τ1=some l2):∃τ2,b t τ1=some τ2/\((∃bt,mt τ2=some (.v (.bl false) bt)/\BD b mt me us τ2=some l2)\/∃bt w l3,mt τ2=some (.v (.bl true) bt)/\me τ2=some (.v w false)/\BD b mt me us τ2=some l3/\l2=w::l3):=by
 unfold BD at h;split at h
 .rename_i τ2 hb;refine⟨τ2,hb,?_⟩;split at h
  .rename_i bt ht;split at h
   .rename_i w hw;split at h
    .rename_i l3 h3;cases h;exact .inr ⟨bt,w,l3,ht,hw,h3,rfl⟩
    .cases h
   .cases h
  .rename_i bt ht;exact .inl ⟨bt,ht,h⟩
  .cases h
 .cases h
theorem zhd{t:T}{us:List T}{c:Str}{τ1:AN}(h:FY b mt me (t::us) τ1=some c):∃τ2,b t τ1=some τ2/\((∃bt,mt τ2=some (.v (.bl false) bt)/\FY b mt me us τ2=some c)\/(∃bt,mt τ2=some (.v (.bl true) bt)/\((∃w,me τ2=some (.v w false)/\FY b mt me us τ2=some c)\/me τ2=some (.x c)))\/mt τ2=some (.x c)):=by
 unfold FY at h;split at h
 .rename_i τ2 hb;refine⟨τ2,hb,?_⟩;split at h
  .rename_i bt ht;split at h
   .rename_i w hw;exact .inr (.inl ⟨bt,ht,.inl ⟨w,hw,h⟩⟩)
   .rename_i c' hw;cases h;exact .inr (.inl ⟨bt,ht,.inr hw⟩)
   .cases h
  .rename_i bt ht;exact .inl ⟨bt,ht,h⟩
  .rename_i c' ht;cases h;exact .inr (.inr ht)
  .cases h
 .cases h
theorem RI(h:tM K E ca (Ar n caps mi b mt me) σ H Q):Jt (E1 n caps) (tI K E ca mi) (Dx K b) (BN K (λ_=>E σ) ca mt) (tM K (λ_=>E σ) ca me) σ H Q:=by
 obtain⟨F,τ,R,S,q⟩:=h;refine⟨F,τ,R,S,?_⟩;unfold Ar at q;cases hi:mi τ with
 |none=>simp only[hi]at q<;>exact q.elim
 |some r =>
  simp only[hi]at q;cases r with
  |x c=>exact q
  |v ts bb =>
   intro F1 H1 J e1 its
   by_cases hz':¬ ts.length<=BP
   .simp only[hz',yf4]at q<;>exact q.elim
   have hz:ts.length<=BP:=Decidable.not_not.mp hz';simp only[hz,yf3]at q
   obtain⟨G,g1,g0,gs⟩:∃G:List T->AN->List T->Prop,(∀t us τ1 l,G (t::us) τ1 l->∃τ2,b t τ1=some τ2/\((∃bt,mt τ2=some (.v (.bl false) bt)/\G us τ2 l)\/(∃bt,mt τ2=some (.v (.bl true) bt)/\((∃w,me τ2=some (.v w false)/\G us τ2 (l++[w]))\/∃c,me τ2=some (.x c)/\∀F' H',Ext F H F' H' R0->E σ (ca c) none H'))\/∃c,mt τ2=some (.x c)/\∀F' H',Ext F H F' H' R0->E σ (ca c) none H')) /\
     (∀τ1 l,G [] τ1 l->∀F' H' x B,Ext F H F' H' B->Rp K F' H' (.own l) x B->Q x H')/\G ts (blk n caps τ) []:=by
    cases hg:BD b mt me ts (blk n caps τ) with
    |some res =>
     simp only[hg]at q;refine⟨λus τ1 l=>∃l2,BD b mt me us τ1=some l2/\l++l2=res,λt us τ1 l z=>?_,λτ1 l z=>?_,res,hg,rfl⟩
     .obtain⟨l2,z,e⟩:=z;obtain⟨τ2,y,w|⟨bt,w,l3,y1,y2,y3,rfl⟩⟩:=zey z
      .obtain⟨bt,w1,w2⟩:=w;exact⟨τ2,y,.inl ⟨bt,w1,l2,w2,e⟩⟩
      .exact⟨τ2,y,.inr (.inl ⟨bt,y1,.inl ⟨w,y2,l3,y3,by simpa using e⟩⟩)⟩
     .obtain⟨l2,z,e⟩:=z;cases z;rw[yay]at e;subst e;exact q
    |none =>
     simp only[hg]at q;cases hx:FY b mt me ts (blk n caps τ) with
     |none=>simp only[hx]at q<;>exact q.elim
     |some c =>
      simp only[hx]at q;refine⟨λus τ1 l=>FY b mt me us τ1=some c,λt us τ1 l z=>?_,λτ1 l z=>(by cases z),hx⟩
      obtain⟨τ2,y,w|⟨bt,y1,⟨w,y2,y3⟩|y2⟩|w⟩:=zhd z
      .exact⟨τ2,y,.inl w⟩
      .exact⟨τ2,y,.inr (.inl ⟨bt,y1,.inl ⟨w,y2,y3⟩⟩)⟩
      .exact⟨τ2,y,.inr (.inl ⟨bt,y1,.inr ⟨c,y2,q⟩⟩)⟩
      .exact⟨τ2,y,.inr (.inr ⟨c,w,q⟩)⟩
   have S1:=S.ext e1;refine⟨λi ys st H'=>∃(F':Hp) (τ':AN) (l:List T) (Rr:Nat->Rg),Ext F1 H1 F' H' (tot Rr)/\RpO K F' H' l ys Rr/\StR K F' H' st τ' (λ_=>R0)/\i<=ts.length/\G (ts.drop i) τ' l/\l.length<=i,ts.length,by rw[<- EH];exact hz,?_,?_⟩
   .exact⟨F1,blk n caps τ,[],λ_=>R0,(Ext.refl S1.fh).mono λa ⟨_,z⟩=>z.elim,.nil,zog S1 n caps,ybr _,gs,yae _⟩
   .rintro i ys st H' ⟨F',τ',l,Rr,e2,ro,S2,hle,hgo,hll⟩;have hly:=ro.len;refine⟨by omega,hle,?_⟩
    obtain⟨i1,i2⟩:=its i F' H' e2.ff e2.fh
    by_cases hlt:i<ts.length
    .refine .inr ⟨hlt,?_⟩;obtain⟨go,yld⟩:=i1 _ (ya0 hlt);refine⟨go,λx H'' y=>?_⟩
     obtain⟨F'',e3,rx⟩:=yld x H'' y;have S3:=S2.ext e3;rw[yco hlt]at hgo;obtain⟨τ1,hb,hgo⟩:=g1 _ _ _ _ hgo;refine⟨F'',τ',_,ts[i],τ1,S3,rx,hb,λst1 R1 S4 hR1=>?_⟩
     have R1e:R1=λ_=>R0:=funext λj=>funext λa=>propext ⟨λz=>hR1 j a z,λz=>z.elim⟩
     subst R1e;refine⟨F'',τ1,_,S4,?_⟩;have eX:∀{c:Str},(∀F' H',Ext F H F' H' R0->E σ (ca c) none H')->∀F' H',Ext F'' H'' F' H' R0->E σ (ca c) none H':=λz F' H' e=>z F' H' (((e1.trans0 e2).trans (e3.trans0 e)).mono λ_ z=>z.elim)
     rcases hgo with ⟨bt,ht,hgo⟩|⟨bt,ht,hgo⟩|⟨c,ht,hX⟩
     .rw[ht];intro F4 H4 e4;exact Iv ⟨F4,τ1,l,Rr,(e2.trans ((e3.trans0 e4).mono λ_ z=>z)).mono λa z=>.inl z,(ro.ext e3).ext e4,S4.ext e4,hlt,hgo,by omega⟩
     .rw[ht];intro F4 H4 e4;have S5:=S4.ext e4;have e24:=e2.trans ((e3.trans0 e4).mono λ_ z=>z)
      refine Iu ⟨F4,τ1,_,S5,?_⟩
      rcases hgo with ⟨ve,he,hgo⟩|⟨c,he,hX⟩
      .rw[he];intro F5 H5 y B e5 ry;have ry':Rp K F5 H5 ve y B:=ry;have ro4:=(ro.ext e3).ext e4;have ro5:=ro4.ext e5;refine⟨F5,τ1,l++[ve],_,(e24.trans e5).mono ?_,ro5.snoc ry' (λj a z1 z2=>ro4.apart e5 z2 j z1),S5.ext e5,hlt,hgo,by simp;omega⟩
       intro a z
       rcases R7 z with z|z
       .exact .inl (.inl z)
       .exact .inr z
      .rw[he];exact λF' H' e=>eX hX F' H' (e4.trans0 e)
     .rw[ht];exact eX hX
    .have hi':i=ts.length:=by omega
     subst hi';refine .inl ⟨i2 rfl,λp hp=>?_⟩
     rw[List.drop_length]at hgo;obtain⟨rl,e3⟩:=ro.list e2.fh hp;refine g0 _ _ hgo F' _ _ _ (((e1.trans0 e2).trans e3).mono ?_) rl;rintro a (z|⟨j,z⟩)
     .exact .inr z
     .exact .inl ⟨j,z⟩
structure BlkOk(X:Cx)(scope:Scope)(N':List Str)(n:Nat)(caps:List Nat):Prop where
 kind:scope.kind=.function
 names:∀y∈scope.names,y.2=.local->scope.names.lookup y.1=some .local
 len:N'.length=n+caps.length
 cap:∀(k j:Nat),caps[k]?=some j->∃y,X.N[j]?=some y/\N'[n+k]?=some y/\scope.names.lookup y=some .free/\(y,NameKind.cell)∉scope.names
 free:∀y∈scope.names,y.2=.free->scope.names.lookup y.1=some .free/\(X.env.scope.names.lookup y.1=some .cell\/X.env.scope.names.lookup y.1=some .free)
theorem O4{env:Env}(y:Str):∀(names:List (Str×NameKind)),(names.map λ(n,k)=>if (k == NameKind.free && env.scope.kind == .function && env.kindOf n == some .cell) then (n,NameKind.cell) else (n,k)).lookup y =
  (names.lookup y).map λk=>if (k == NameKind.free && env.scope.kind == .function && env.kindOf y == some .cell) then .cell else k
 |[]=>rfl
 |(n,k)::r=>by
  rw[yad];cases hy:y == n with
  |true =>
   have e:y=n:=eq_of_beq hy;subst e
   by_cases hc:(k == NameKind.free && env.scope.kind == .function && env.kindOf y == some .cell)=true
   .simp only[hc,yf3,yb5,yff,yb1]
   .simp only[hc,yb5,yff,yb1];simp
  |false =>
   by_cases hc:(k == .free && env.scope.kind == .function && env.kindOf n == some .cell)=true
   .simp only[hc,yf3,yb5,hy];exact O4 y r
   .simp only[hc,yb5,hy];simp only[ycg,yf4,yb5,hy];exact O4 y r
theorem NS(scope:Scope)(env:Env)(y:Str):(relabel scope env).names.lookup y=(scope.names.lookup y).map λk=>if (k == NameKind.free && env.scope.kind == .function && env.kindOf y == some .cell) then .cell else k:=O4 y scope.names
theorem O5{k:NameKind}:∀{names:List (Str×NameKind)},names.lookup y=some k->(y,k)∈names:=λh=>ybu h
theorem YX(B:BlkOk X scope N' n caps)(I:Inv X pins σ H s) :
  ∃cl,closureFor scope X.env=pure cl/\(∀y c,cl.lookup y=some c->X.env.cells.lookup y=some c)/\(∀y,(relabel scope X.env).names.lookup y=some .cell\/(relabel scope X.env).names.lookup y=some .free->(y,NameKind.cell)∈scope.names\/∃c,cl.lookup y=some c) /\
   (∀(σ:L2.St) (i:Nat) (y:Str) (v:V),N'[i]?=some y->(E1 n caps σ)[i]?=some (some v)->(y,NameKind.cell)∉scope.names) /\
   (∀σ:L2.St,σ.length=X.N.length->(E1 n caps σ).length=N'.length) /\
   (∀(σ:L2.St) (i:Nat) (y:Str) (v:V),N'[i]?=some y->(E1 n caps σ)[i]?=some (some v)->((relabel scope X.env).names.lookup y=some .cell\/(relabel scope X.env).names.lookup y=some .free)/\∃j:Nat,X.N[j]?=some y/\σ[j]?=some (some v)/\D0 X.env.scope y/\X.env.kindOf y≠some .local):=by
 obtain⟨cl,h1,h2,h3⟩:=zdc scope X.env λy hy hf=>I.ok.has y.1 (B.free y hy hf).2
 have GK:∀(σ:L2.St) (i:Nat) (y:Str) (v:V),N'[i]?=some y->(E1 n caps σ)[i]?=some (some v)->∃j:Nat,X.N[j]?=some y/\σ[j]?=some (some v)/\scope.names.lookup y=some .free/\(y,NameKind.cell)∉scope.names:=by
  intro σ i y v e1 e2;unfold E1 at e2
  by_cases hi:i<n
  .rw[yaz (by simpa using hi),ydb,if_pos hi]at e2
   cases e2
  .rw[yb2 (by simp;omega),ya3]at e2
   simp only[ydn]at e2;cases hc:caps[i - n]? with
   |none=>rw[hc]at e2;cases e2
   |some j =>
    rw[hc]at e2;simp only[yb1]at e2;have e':L5 σ j=some v:=yao e2;obtain⟨y',g1,g2,g3,g4⟩:=B.cap (i - n) j hc;have en:n+(i - n)=i:=by omega
    rw[en,e1]at g2;cases g2
    have sv:σ[j]?=some (some v):=by
     unfold L5 at e';split at e'
     .rename_i v' hv;cases e';exact hv
     .cases e'
    exact⟨j,g1,sv,g3,g4⟩
 refine⟨cl,h1,h2,λy hy=>?_,λσ i y v e1 e2=>?_,λσ hσ=>by simp[E1,B.len],λσ i y v e1 e2=>?_⟩
 .cases hk:scope.names.lookup y with
  |none =>
   rw[NS,hk]at hy
   rcases hy with hy|hy<;>cases hy
  |some k =>
   by_cases hf:k=.free
   .subst hf;exact .inr (h3 _ (O5 hk) rfl)
   .rw[NS,hk]at hy;simp only[yb1]at hy;have hf':(k == NameKind.free)=false:=beq_eq_false_iff_ne.mpr hf;simp only[hf',ye1,ycg,yf4]at hy
    rcases hy with hy|hy
    .cases hy;exact .inl (O5 hk)
    .cases hy;exact absurd rfl hf
 .exact(GK σ i y v e1 e2).choose_spec.2.2.2
 .obtain⟨j,g1,sv,g3,g4⟩:=GK σ i y v e1 e2;have fr:=B.free _ (O5 g3) rfl;refine⟨?_,j,g1,sv,?_,?_⟩
  .rw[NS,g3];simp only[yb1]
   by_cases hc2:(NameKind.free == NameKind.free && X.env.scope.kind == .function && X.env.kindOf y == some .cell)=true
   .exact .inl (by rw[if_pos hc2])
   .exact .inr (by rw[if_neg hc2])
  .rcases fr.2 with z|z
   .exact .inr (.inl z)
   .exact .inr (.inr z)
  .intro z;have z':X.env.scope.names.lookup y=some .local:=z
   rcases fr.2 with w|w
   .rw[z']at w;cases w
   .rw[z']at w;cases w
theorem r_lcV{iter:Expr}(B:BlkOk X scope N' n caps)(hc:∀pins σ H s cl C ex xb,Inv X pins σ H s->cq (Aw X scope cl N' C s H ex xb))(hi:PJ cq X tg iter (tI X.K E ca mi))(hps:BH X E)(hst:HA X)(hg:∀cl C s₀ H₀ ex xb E',BH (Aw X scope cl N' C s₀ H₀ ex xb) E'->PG (Aw X scope cl N' C s₀ H₀ ex xb) tg (Dx X.K b))(ht:∀cl C s₀ H₀ ex xb E',BH (Aw X scope cl N' C s₀ H₀ ex xb) E'->GS (Aw X scope cl N' C s₀ H₀ ex xb) ifs (BN X.K E' ca mt))(he:∀cl C s₀ H₀ ex xb E',BH (Aw X scope cl N' C s₀ H₀ ex xb) E'->PE (Aw X scope cl N' C s₀ H₀ ex xb) elt (tM X.K E' ca me))(hs:∀x,foldedSetIterable iter X.env x=pure x):PE X (.ListComp elt [⟨tg,iter,ifs,0⟩] scope pos) (tM X.K E ca (Ar n caps mi b mt me)):=by
 intro pins s σ H Q I h;obtain⟨cl,h1,h2,h3,h4,h5,h6⟩:=YX B I;exact znm (E1 n caps) h1 B.kind B.names h2 h3 h4 h5 h6 hc hi hps hst (λcl C s₀ H₀ ex xb=>hg cl C s₀ H₀ ex xb _) (λcl C s₀ H₀ ex xb=>ht cl C s₀ H₀ ex xb _) (λcl C s₀ H₀ ex xb=>he cl C s₀ H₀ ex xb _) hs I (RI h)
theorem r_lcS{iter:Expr}(B:BlkOk X scope N' n caps)(hc:X.calm=true)(hi:PI X tg iter (tI X.K E ca mi))(hps:BH X E)(hst:HA X)(hg:∀cl C s₀ H₀ ex xb E',BH (Aw X scope cl N' C s₀ H₀ ex xb) E'->PG (Aw X scope cl N' C s₀ H₀ ex xb) tg (Dx X.K b))(ht:∀cl C s₀ H₀ ex xb E',BH (Aw X scope cl N' C s₀ H₀ ex xb) E'->GS (Aw X scope cl N' C s₀ H₀ ex xb) ifs (BN X.K E' ca mt))(he:∀cl C s₀ H₀ ex xb E',BH (Aw X scope cl N' C s₀ H₀ ex xb) E'->PE (Aw X scope cl N' C s₀ H₀ ex xb) elt (tM X.K E' ca me))(hs:∀x,foldedSetIterable iter X.env x=pure x)(hN:X.N.Nodup)(hix:X.N[i]?=some x)(hx:X.env.scope.names.lookup x=some .local)(hsw:swapsWith (.ListComp elt [⟨tg,iter,ifs,0⟩] scope pos) (some (.Name x pos')) pos2.line X.env=pure true):PS X (.Assign [.Name x pos'] (.ListComp elt [⟨tg,iter,ifs,0⟩] scope pos) pos2) (λD σ H=>tM X.K E ca (Ar n caps mi b mt me) σ H λv H1=>D.nx (σ.set i (some v)) H1):=by
 intro pins s σ H D I h;obtain⟨cl,h1,h2,h3,h4,h5,h6⟩:=YX B I;exact znn (E1 n caps) h1 B.kind B.names h2 h3 h4 h5 h6 hc hi hps hst (λcl C s₀ H₀ ex xb=>hg cl C s₀ H₀ ex xb _) (λcl C s₀ H₀ ex xb=>ht cl C s₀ H₀ ex xb _) (λcl C s₀ H₀ ex xb=>he cl C s₀ H₀ ex xb _) hs hN hix hx hsw I (RI h)
end
variable {mk:AJ}
section
variable {mv:AJ}{k v:Expr}{p ap cp:Pos}{K:k9}
end
inductive Out where
 |nx (τ:AN)|rt (t:T)|bk (τ:AN)|ct (τ:AN)|xc (c:Str) (τ:AN)
abbrev AI:=AN->Option Out
structure Stp(F H:Hp)(O:Rg)(F' H':Hp)(O':Rg):Prop where
 ff:A7 F F'
 fh:A7 F' H'
 kp:∀b u,¬ O b->H b=some u->H' b=some u
 nw:∀b,O' b->O b\/H b=none
 nf:∀b u,F' b=some u->F b=some u\/O b\/H b=none
section
variable {F2 H2:Hp}{O O1 O2:Rg}
theorem Stp.refl(s:A7 F H):Stp F H O F H O:=⟨.refl _,s,λ_ _ _ e=>e,λ_ z=>.inl z,λ_ _ e=>.inl e⟩
theorem Stp.trans(a:Stp F H O F1 H1 O1)(b:Stp F1 H1 O1 F2 H2 O2):Stp F H O F2 H2 O2 where
 ff:=a.ff.trans b.ff
 fh:=b.fh
 kp:=λx u n e=>b.kp x u (λz=>(a.nw x z).elim n λw=>by rw[e]at w;cases w) (a.kp x u n e)
 nw:=λx z=>(b.nw x z).elim (a.nw x) λw=>by
  by_cases hO:O x
  .exact .inl hO
  .cases e:H x with
   |none=>exact .inr rfl
   |some u=>rw[a.kp x u hO e]at w;cases w
 nf:=λx u e=>(b.nf x u e).elim (a.nf x u) λz=>.inr (z.elim (a.nw x) λw=>by
  by_cases hO:O x
  .exact .inl hO
  .cases e':H x with
   |none=>exact .inr rfl
   |some u'=>rw[a.kp x u' hO e']at w;cases w)
theorem Stp.mono(a:Stp F H O F1 H1 O1)(h:∀x,O2 x->O1 x):Stp F H O F1 H1 O2:=⟨a.ff,a.fh,a.kp,λx z=>a.nw x (h x z),a.nf⟩
theorem Ext.stp(e:Ext F H F1 H1 B):Stp F H O F1 H1 (λx=>O x\/B x):=⟨e.ff,e.fh,λb u _ q=>e.hh b u q,λb z=>z.elim .inl λz=>.inr (e.nb b z),λb u q=>(e.nf b u q).elim .inl λz=>.inr (.inr z)⟩
theorem Ext.stp0(e:Ext F H F1 H1 B):Stp F H O F1 H1 O:=e.stp.mono λ_ z=>.inl z
end
section
def Wr(K:k9)(mu:Bool)(F H:Hp)(t:T)(x:V)(B:Rg):Prop:=match mu with
 |false=>Rp K F H t x B
 |true=>∃v q l,t=.own [v,.nd true (.pin q) l]/\v.flat=true/\Rp K F H v x R0/\Rp K F H (.nd true (.pin q) l) (.ref q) B
def pS(K:k9)(E:L2.St->XK)(ca:Str->Value)(mu:Bool)(D:Ends)(F H:Hp)(R:Nat->Rg):Option Out->Prop
 |some (.nx τ')=>∀F' H' σ' R',Stp F H (tot R) F' H' (tot R')->StR K F' H' σ' τ' R'->D.nx σ' H'
 |some (.bk τ')=>∀F' H' σ' R',Stp F H (tot R) F' H' (tot R')->StR K F' H' σ' τ' R'->D.bk σ' H'
 |some (.ct τ')=>∀F' H' σ' R',Stp F H (tot R) F' H' (tot R')->StR K F' H' σ' τ' R'->D.ct σ' H'
 |some (.rt t)=>∀F' H' x B,Stp F H (tot R) F' H' B->Wr K mu F' H' t x B->D.rt x H'
 |some (.xc c τ')=>∀F' H' σ' R',Stp F H (tot R) F' H' (tot R')->StR K F' H' σ' τ' R'->E σ' (ca c) none H'
 |none=>False
def tS(K:k9)(E:L2.St->XK)(ca:Str->Value)(mu:Bool)(m:AI):TS:=λD σ H=>∃F τ R,StR K F H σ τ R/\pS K E ca mu D F H R (m τ)
end
def AF(m n:AI):AI:=λτ=>match m τ with
 |some (.nx τ')=>n τ'
 |r=>r
def Ae:AI:=λτ=>some (.nx τ)
def HS:AI:=λ_=>none
def Fk(m:AJ):AI:=λτ=>match m τ with
 |some (.v _ _)=>some (.nx τ)
 |some (.x c)=>some (.xc c τ)
 |none=>none
def AX(m:AJ):AI:=λτ=>match m τ with
 |some (.v t _)=>some (.rt t)
 |some (.x c)=>some (.xc c τ)
 |none=>none
def NK:AI:=λ_=>some (.rt .non)
noncomputable def AU(m:AJ)(b:T->AN->Option AN):AI:=λτ=>match m τ with
 |some (.v t false)=>(match b t.share τ with
  |some τ'=>some (.nx τ')
  |none=>none)
 |some (.v _ true)=>none
 |some (.x c)=>some (.xc c τ)
 |none=>none
noncomputable def CJ(i:Nat)(m:AJ):AI:=λτ=>match m τ with
 |some (.v t false)=>if i<τ.length then some (.nx (τ.set i (some t))) else none
 |some (.v _ true)=>none
 |some (.x c)=>some (.xc c τ)
 |none=>none
noncomputable def Dk(i:Nat):AI:=λτ=>match τ[i]? with
 |some (some t)=>some (.nx (τ.set i (some t.share)))
 |_=>some (.nx τ)
def Af(c:AJ)(a b:AI):AI:=λτ=>match c τ with
 |some (.v (.bl true) _)=>a τ
 |some (.v (.bl false) _)=>b τ
 |some (.x c)=>some (.xc c τ)
 |_=>none
noncomputable def B9(b:T->AN->Option AN)(body:AI):List T->AI
 |[],τ=>some (.nx τ)
 |t::ts,τ=>(match b t τ with
  |some τ1=>(match body τ1 with
   |some (.nx τ2)=>B9 b body ts τ2
   |some (.ct τ2)=>B9 b body ts τ2
   |some (.bk τ2)=>some (.nx τ2)
   |r=>r)
  |none=>none)
def B3(mi:BI)(b:T->AN->Option AN)(body:AI):AI:=λτ=>match mi τ with
 |some (.v ts _)=>B9 b body ts τ
 |some (.x c)=>some (.xc c τ)
 |none=>none
noncomputable def Cj(c:AJ)(body:AI):Nat->AI
 |0,_=>none
 |n+1,τ=>(match c τ with
  |some (.v (.bl true) _)=>(match body τ with
   |some (.nx τ2)=>Cj c body n τ2
   |some (.ct τ2)=>Cj c body n τ2
   |some (.bk τ2)=>some (.nx τ2)
   |r=>r)
  |some (.v (.bl false) _)=>some (.nx τ)
  |some (.x c)=>some (.xc c τ)
  |_=>none)
open Classical in
def Em(c:AJ)(body:AI):AI:=λτ=>if h:∃n,(Cj c body n τ).isSome=true then Cj c body h.choose τ else none
variable {body:AI}
theorem zgh{c:AJ}{o:Out}(h:Em c body τ=some o):∃n,Cj c body n τ=some o:=by
 unfold Em at h;split at h
 .exact⟨_,h⟩
 .cases h
theorem MS{c:AJ}{body:AI}:∀{n:Nat} {τ:AN} {o:Out},Cj c body n τ=some o->Cj c body (n+1) τ=some o
 |0,τ,o,h=>by cases h
 |n+1,τ,o,h=>by
  unfold Cj at h ⊢;split at h
  .split at h
   .exact MS h
   .exact MS h
   .exact h
   .exact h
  .exact h
  .exact h
  .cases h
theorem Qg{c:AJ}{m:Nat}{o:Out}(h:Cj c body n τ=some o)(hm:n<=m):Cj c body m τ=some o:=by
 induction hm with
 |refl=>exact h
 |step _ ih=>exact MS ih
theorem zlx{c:AJ}{o:Out}(h:Cj c body n τ=some o):Em c body τ=some o:=by
 unfold Em;have hx:∃n,(Cj c body n τ).isSome=true:=⟨n,by rw[h];rfl⟩
 rw[dif_pos hx];obtain⟨o',e⟩:=yd5.mp hx.choose_spec;have e1:=Qg e (Nat.le_max_left hx.choose n);have e2:=Qg h (Nat.le_max_right hx.choose n);rw[e1]at e2;rw[e,<- e2]
variable {mu:Bool}{u:AI}
section
variable {K:k9}{mi:BI}{b:T->AN->Option AN}{w:AI}{iter:Expr}{st:Stmt}{rest body sa sb:List Stmt}
theorem PS.weak{t t':TS}(h:PS X st t)(w:∀D σ H,t' D σ H->t D σ H):PS X st t':=λpins s σ H D I q=>h pins s σ H D I (w D σ H q)
theorem BY.weak{t t':TS}(h:BY X rest t)(w:∀D σ H,t' D σ H->t D σ H):BY X rest t':=λpins s σ H D I q=>h pins s σ H D I (w D σ H q)
theorem zlf(h:tS K E ca mu (AF u w) D σ H):RB (tS K E ca mu u) (tS K E ca mu w) D σ H:=by
 obtain⟨F,τ,R,S,q⟩:=h;refine⟨F,τ,R,S,?_⟩;unfold AF at q;cases hm:u τ with
 |none=>simp only[hm]at q<;>exact q.elim
 |some o =>
  simp only[hm]at q;cases o with
  |nx τ' =>
   intro F1 H1 σ1 R1 s1 S1;refine⟨F1,τ',R1,S1,?_⟩;simp only at q;cases hw:w τ' with
   |none=>simp only[hw]at q<;>exact q.elim
   |some o =>
    simp only[hw]at q;cases o with
    |nx _=>exact λF' H' σ' R' s S=>q F' H' σ' R' (s1.trans s) S
    |bk _=>exact λF' H' σ' R' s S=>q F' H' σ' R' (s1.trans s) S
    |ct _=>exact λF' H' σ' R' s S=>q F' H' σ' R' (s1.trans s) S
    |rt _=>exact λF' H' x B s r=>q F' H' x B (s1.trans s) r
    |xc _ _=>exact λF' H' σ' R' s S=>q F' H' σ' R' (s1.trans s) S
  |rt _=>exact q
  |bk _=>exact q
  |ct _=>exact q
  |xc _ _=>exact q
theorem SG:BY X [] (tS X.K E ca mu Ae):=BY.weak zj4 λD σ H h=>by
 obtain⟨F,τ,R,S,q⟩:=h;exact q F H σ R (Stp.refl S.fh) S
theorem Mz(h1:PS X st (tS X.K E ca mu u))(h2:BY X rest (tS X.K E ca mu w)):BY X (st::rest) (tS X.K E ca mu (AF u w)):=BY.weak (zgs h1 h2) λD σ H h=>zlf h
theorem Mx(h1:PS X st (tS X.K E ca mu u)):BY X [st] (tS X.K E ca mu u):=zj3 h1
theorem SF:PS X st (tS X.K E ca mu HS):=λpins s σ H D I h=>by
 obtain⟨_,_,_,_,q⟩:=h;exact q.elim
theorem zlu:PS X (.Pass pos) (tS X.K E ca mu Ae):=PS.weak zj7 λD σ H h=>by
 obtain⟨F,τ,R,S,q⟩:=h;exact q F H σ R (Stp.refl S.fh) S
theorem zlg(h:tS K E ca mu (AF (Dk i) w) D σ H):tS K E ca mu w D σ H:=by
 obtain⟨F,τ,R,S,q⟩:=h;unfold AF Dk at q;cases ht:τ[i]? with
 |none =>
  rw[ht]at q;exact⟨F,τ,R,S,q⟩
 |some ot =>
  rw[ht]at q;cases ot with
  |none=>exact⟨F,τ,R,S,q⟩
  |some t =>
   simp only at q;obtain⟨x,ex,r⟩:=S.rep i t ht;have hi:i<τ.length:=(ya6.mp ht).1;have n:∀a,R i a->F a=none:=λa z=>(r.dom z).1
   have S0:StR K (frz F H (R i)) H σ (τ.set i (some t.share)) (λj=>if j=i then R0 else R j):=by
    refine⟨Hf S.fh,by simpa using S.len,λj t' e=>?_,λj a z=>?_,λj k a hjk z1 z2=>?_⟩
    .by_cases hj:j=i
     .subst hj;rw[yax hi]at e;cases e;exact⟨x,ex,by simpa using r.share (Ed n) λa u z q=>by rw[GG z];exact q⟩
     .rw[yb4 (ybc hj)]at e;obtain⟨y,e1,r1⟩:=S.rep j t' e;refine⟨y,e1,?_⟩;simp only[hj,yf4]
      exact r1.frame (Ed n) λa z=>⟨rfl,by
       rw[F8 (λz'=>S.dis j i a hj z z')]
       exact(r1.dom z).1⟩
    .by_cases hj:j=i
     .simp only[hj,yf3]at z;exact z.elim
     .simp only[hj,yf4]at z;obtain⟨t',e⟩:=S.out j a z;exact⟨t',by rw[yb4 (ybc hj)];exact e⟩
    .by_cases hj:j=i
     .simp only[hj,yf3]at z1;exact z1.elim
     .by_cases hk:k=i
      .simp only[hk,yf3]at z2;exact z2.elim
      .simp only[hj,yf4]at z1;simp only[hk,yf4]at z2;exact S.dis j k a hjk z1 z2
   have BG:Stp F H (tot R) (frz F H (R i)) H (tot λj=>if j=i then R0 else R j):=by
    refine⟨Ed n,Hf S.fh,λ_ _ _ e=>e,λb ⟨j,z⟩=>?_,λb u e=>?_⟩
    .by_cases hj:j=i
     .simp only[hj,yf3]at z;exact z.elim
     .simp only[hj,yf4]at z;exact .inl ⟨j,z⟩
    .by_cases hb:R i b
     .exact .inr (.inl ⟨i,hb⟩)
     .rw[F8 hb]at e;exact .inl e
   refine⟨_,_,_,S0,?_⟩;cases hw:w (τ.set i (some t.share)) with
   |none=>simp only[hw]at q<;>exact q.elim
   |some o =>
    simp only[hw]at q;cases o with
    |nx _=>exact λF' H' σ' R' s S=>q F' H' σ' R' (BG.trans s) S
    |bk _=>exact λF' H' σ' R' s S=>q F' H' σ' R' (BG.trans s) S
    |ct _=>exact λF' H' σ' R' s S=>q F' H' σ' R' (BG.trans s) S
    |rt _=>exact λF' H' x B s r=>q F' H' x B (BG.trans s) r
    |xc _ _=>exact λF' H' σ' R' s S=>q F' H' σ' R' (BG.trans s) S
theorem s_frz(h:BY X rest (tS X.K E ca mu w)):BY X rest (tS X.K E ca mu (AF (Dk i) w)):=BY.weak h λD σ H h=>zlg h
theorem s_exp(he:PE X e (tM X.K E ca m))(hs:swapsWith e none pos.line X.env=pure false):PS X (.Expr e pos) (tS X.K E ca mu (Fk m)):=by
 refine PS.weak (NV he hs) λD σ H h=>?_
 obtain⟨F,τ,R,S,q⟩:=h;refine⟨F,τ,R,S,?_⟩;unfold Fk at q;cases hm:m τ with
 |none=>simp only[hm]at q<;>exact q.elim
 |some r =>
  simp only[hm]at q;cases r with
  |x c=>exact λF' H' e=>q F' H' σ R e.stp0 (S.ext e)
  |v t bb=>exact λF' H' x B e g=>q F' H' σ R e.stp0 (S.ext e)
theorem Ry(he:PE X e (tM X.K E ca m)):PS X (.Return (some e) pos) (tS X.K E ca false (AX m)):=by
 refine PS.weak (zmh he) λD σ H h=>?_
 obtain⟨F,τ,R,S,q⟩:=h;refine⟨F,τ,R,S,?_⟩;unfold AX at q;cases hm:m τ with
 |none=>simp only[hm]at q<;>exact q.elim
 |some r =>
  simp only[hm]at q;cases r with
  |x c=>exact λF' H' e=>q F' H' σ R e.stp0 (S.ext e)
  |v t bb =>
   intro F' H' x B e g;cases bb with
   |false=>exact q F' H' x B (e.stp.mono λ_ z=>.inr z) g
   |true =>
    obtain⟨_,A,hA,r⟩:=g;exact q F' H' x A (e.stp.mono λa z=>.inl (hA a z)) r
theorem zlt:PS X (.Return none pos) (tS X.K E ca false NK):=PS.weak zj6 λD σ H h=>by
 obtain⟨F,τ,R,S,q⟩:=h;exact q F H .non R0 ((Stp.refl S.fh).mono λ_ z=>z.elim) .non
theorem s_if(hc:PT X c (BN X.K E ca mc))(ha:BY X sa (tS X.K E ca mu u))(hb:BY X sb (tS X.K E ca mu w)):PS X (.If c sa sb pos) (tS X.K E ca mu (Af mc u w)):=by
 refine PS.weak (ps_if hc ha hb) λD σ H h=>?_
 obtain⟨F,τ,R,S,q⟩:=h;refine⟨F,τ,R,S,?_⟩;unfold Af at q;cases hm:mc τ with
 |none=>simp only[hm]at q<;>exact q.elim
 |some r =>
  simp only[hm]at q;cases r with
  |x c=>exact λF' H' e=>q F' H' σ R e.stp0 (S.ext e)
  |v t bb =>
   cases t with
   |bl k =>
    intro F1 H1 e1;have S1:=S.ext e1
    have key:∀{mm:AI},(match mm τ with
      |some (.nx τ')=>∀F' H' σ' R',Stp F H (tot R) F' H' (tot R')->StR X.K F' H' σ' τ' R'->D.nx σ' H'
      |some (.bk τ')=>∀F' H' σ' R',Stp F H (tot R) F' H' (tot R')->StR X.K F' H' σ' τ' R'->D.bk σ' H'
      |some (.ct τ')=>∀F' H' σ' R',Stp F H (tot R) F' H' (tot R')->StR X.K F' H' σ' τ' R'->D.ct σ' H'
      |some (.rt t)=>∀F' H' x B,Stp F H (tot R) F' H' B->Wr X.K mu F' H' t x B->D.rt x H'
      |some (.xc c τ')=>∀F' H' σ' R',Stp F H (tot R) F' H' (tot R')->StR X.K F' H' σ' τ' R'->E σ' (ca c) none H'
      |none=>False)->tS X.K E ca mu mm D σ H1:=λ{mm} q=>by
     refine⟨F1,τ,R,S1,?_⟩;cases hr:mm τ with
     |none=>simp only[hr]at q<;>exact q.elim
     |some o =>
      simp only[hr]at q;cases o with
      |nx _=>exact λF' H' σ' R' s S=>q F' H' σ' R' (e1.stp0.trans s) S
      |bk _=>exact λF' H' σ' R' s S=>q F' H' σ' R' (e1.stp0.trans s) S
      |ct _=>exact λF' H' σ' R' s S=>q F' H' σ' R' (e1.stp0.trans s) S
      |rt _=>exact λF' H' x B s r=>q F' H' x B (e1.stp0.trans s) r
      |xc _ _=>exact λF' H' σ' R' s S=>q F' H' σ' R' (e1.stp0.trans s) S
    cases k with
    |true=>exact Iu (key q)
    |false=>exact Iv (key q)
   |_=>exact q.elim
theorem Mg{g:TG}(hg:∀v σ H Q,Dx K b v σ H Q->g v σ H Q)(h:tS K E ca mu (AU m b) D σ H):Jv (tM K E ca m) g D σ H:=by
 obtain⟨F,τ,R,S,q⟩:=h;refine⟨F,τ,R,S,?_⟩;unfold AU at q;cases hm:m τ with
 |none=>simp only[hm]at q<;>exact q.elim
 |some r =>
  simp only[hm]at q;cases r with
  |x c=>exact λF' H' e=>q F' H' σ R e.stp0 (S.ext e)
  |v t bb =>
   cases bb with
   |true=>exact q.elim
   |false =>
    intro F1 H1 x B e1 g1;obtain⟨F2,e2,_,r2⟩:=Df.frz (b:=false) S e1 g1;simp only at q;cases hb:b t.share τ with
    |none=>simp only[hb]at q<;>exact q.elim
    |some τ' =>
     simp only[hb]at q;refine hg _ _ _ _ ⟨F2,τ,R,t.share,τ',S.ext e2,(show Rp K F2 F2 t.share x R0 from r2).any,hb,λσ' R' S' hR=>?_⟩
     exact q F2 H1 σ' R' (e2.stp0.mono λa ⟨i,z⟩=>⟨i,hR i a z⟩) S'
theorem Wc{v:V}{Q:L2.St->Hp->Prop}(h:Dx K (AD i) v σ H Q):JC i v σ H Q:=by
 obtain⟨F,τ,R,t,τ',S,r,e,q⟩:=h;unfold AD at e;split at e
 .cases e;rename_i hl;refine q _ _ (S.set r (λ_ _ _ _ z=>z.elim) hl) λj a z=>?_
  by_cases hj:j=i
  .simp only[hj,yf3]at z;exact z.elim
  .simpa[hj] using z
 .cases e
theorem Rx(hN:X.N.Nodup)(hi:X.N[i]?=some x)(hx:GU X.env.scope x)(he:PE X e (tM X.K E ca m))(hs:swapsWith e (some (.Name x pos')) pos.line X.env=pure false)(hf:X.fn x=true\/X.env.scope.names.lookup x=some .local) :
  PS X (.Assign [.Name x pos'] e pos) (tS X.K E ca mu (AU m (AD i))):=PS.weak (Tg hN hi hx he hs hf) λD σ H h=>Mg (λ_ _ _ _ z=>Wc z) h
theorem zls(he:PE X e (tM X.K E ca m))(hg:PG X tg (Dx X.K b))(hs:swapsWithSole [tg] e pos.line X.env=pure false)(hw:swappedStores [tg] e X.env=pure none)(h1:(assignEach [tg] X.env).map (·.2)=[assign tg X.env]) :
  PS X (.Assign [tg] e pos) (tS X.K E ca mu (AU m b)):=PS.weak (NW he hg hs hw h1) λD σ H h=>Mg (λ_ _ _ _ z=>z) h
theorem RC(h:tS K E ca mu (CJ i m) D σ H):Jv (tM K E ca m) (JC i) D σ H:=by
 obtain⟨F,τ,R,S,q⟩:=h;refine⟨F,τ,R,S,?_⟩;unfold CJ at q;cases hm:m τ with
 |none=>simp only[hm]at q<;>exact q.elim
 |some r =>
  simp only[hm]at q;cases r with
  |x c=>exact λF' H' e=>q F' H' σ R e.stp0 (S.ext e)
  |v t bb =>
   cases bb with
   |true=>exact q.elim
   |false =>
    intro F1 H1 x B e1 g1;have g1':Rp K F1 H1 t x B:=g1;have S1:=S.ext e1
    by_cases hl:i<τ.length
    .simp only[hl,yf3]at q;refine q F1 H1 _ _ (e1.stp.mono ?_) (S1.set g1' (λj a _ z1 z2=>S.apart e1 z2 j z1) hl)
     rintro a ⟨j,z⟩
     by_cases hj:j=i
     .simp only[hj,yf3]at z;exact .inr z
     .simp only[hj,yf4]at z;exact .inl ⟨j,z⟩
    .simp only[hl,yf4]at q<;>exact q.elim
theorem zlv(hN:X.N.Nodup)(hi:X.N[i]?=some x)(hx:GU X.env.scope x)(he:PE X e (tM X.K E ca m))(hs:swapsWith e (some (.Name x pos')) pos.line X.env=pure false)(hf:X.fn x=true\/X.env.scope.names.lookup x=some .local) :
  PS X (.Assign [.Name x pos'] e pos) (tS X.K E ca mu (CJ i m)):=PS.weak (Tg hN hi hx he hs hf) λD σ H h=>RC h
theorem s_for(hp:PassesOwn (model X.prog X.w) X.A X.env X.xe)(hc:X.calm=true)(hi:PI X tg iter (tI X.K E ca mi))(hg:PG X tg (Dx X.K b))(hb:BY X body (tS X.K E ca mu u))(hs:∀x,foldedSetIterable iter X.env x=pure x) :
  PS X (.For tg iter body [] pos) (tS X.K E ca mu (B3 mi b u)):=by
 refine PS.weak (zmj hp hc hi hg hb hs) λD σ H h=>?_
 obtain⟨F,τ,R,S,q⟩:=h;refine⟨F,τ,R,S,?_⟩;unfold B3 at q;cases hm:mi τ with
 |none=>simp only[hm]at q<;>exact q.elim
 |some r =>
  simp only[hm]at q;cases r with
  |x c=>exact λF' H' e=>q F' H' σ R e.stp0 (S.ext e)
  |v ts bb =>
   intro F1 H1 J e1 its;simp only at q;have S1:=S.ext e1;cases hg:B9 b u ts τ with
   |none=>simp only[hg]at q<;>exact q.elim
   |some out =>
    simp only[hg]at q;refine⟨λi mm σ' H'=>mm=ts.length - i/\i<=ts.length/\∃F' τ' R',Stp F H (tot R) F' H' (tot R')/\A7 F1 F'/\StR X.K F' H' σ' τ' R'/\B9 b u (ts.drop i) τ'=some out,⟨ts.length,by simp,ybr _,F1,τ,R,e1.stp0,.refl _,S1,by simpa using hg⟩,?_⟩
    rintro i mm σ' H' ⟨rfl,hle,F',τ',R',st,sf,S',hgo⟩;obtain⟨i1,i2⟩:=its i F' H' sf S'.fh
    by_cases hlt:i<ts.length
    .refine .inr ⟨(i1 _ (ya0 hlt)).1,λσ2 H2=>i+1<=ts.length/\∃F2 τ2 R2,Stp F H (tot R) F2 H2 (tot R2)/\A7 F1 F2/\StR X.K F2 H2 σ2 τ2 R2/\B9 b u (ts.drop (i+1)) τ2=some out,λσ2 H2 n2=>⟨ts.length - (i+1),by omega,rfl,n2⟩,λx H'' y=>?_⟩
     obtain⟨F'',e3,rx⟩:=(i1 _ (ya0 hlt)).2 x H'' y;have S3:=S'.ext e3;rw[yco hlt]at hgo;unfold B9 at hgo;cases hb2:b ts[i] τ' with
     |none=>simp only[hb2]at hgo;cases hgo
     |some τ1 =>
      simp only[hb2]at hgo;refine⟨F'',τ',R',ts[i],τ1,S3,rx,hb2,λσ3 R3 S4 hR3=>?_⟩
      have st3:Stp F H (tot R) F'' H'' (tot R3):=(st.trans e3.stp0).mono λa ⟨j,z⟩=>⟨j,hR3 j a z⟩
      refine⟨F'',τ1,R3,S4,?_⟩;cases hu:u τ1 with
      |none=>simp only[hu]at hgo;cases hgo
      |some o =>
       simp only[hu]at hgo;cases o with
       |nx τ2=>exact λF4 H4 σ4 R4 s4 S5=>⟨hlt,F4,τ2,R4,st3.trans s4,(sf.trans e3.ff).trans s4.ff,S5,hgo⟩
       |ct τ2=>exact λF4 H4 σ4 R4 s4 S5=>⟨hlt,F4,τ2,R4,st3.trans s4,(sf.trans e3.ff).trans s4.ff,S5,hgo⟩
       |bk τ2 =>
        cases hgo;exact λF4 H4 σ4 R4 s4 S5=>q F4 H4 σ4 R4 (st3.trans s4) S5
       |rt v =>
        cases hgo;exact λF4 H4 x B s4 r=>q F4 H4 x B (st3.trans s4) r
       |xc cc τ2 =>
        cases hgo;exact λF4 H4 σ4 R4 s4 S5=>q F4 H4 σ4 R4 (st3.trans s4) S5
    .have hi':i=ts.length:=by omega
     subst hi';refine .inl ⟨i2 rfl,?_⟩;rw[List.drop_length]at hgo;unfold B9 at hgo;cases hgo;exact q F' H' σ' R' st S'
theorem s_wh(hp:PassesOwn (model X.prog X.w) X.A X.env X.xe)(hc:PT X c (BN X.K E ca mc))(hb:BY X body (tS X.K E ca mu u)):PS X (.While c body [] pos) (tS X.K E ca mu (Em mc u)):=by
 refine PS.weak (zgt hp hc hb) λD σ H h=>?_
 obtain⟨F,τ,R,S,q⟩:=h;cases hw:Em mc u τ with
 |none=>simp only[hw]at q<;>exact q.elim
 |some out =>
  simp only[hw]at q;obtain⟨n,hn⟩:=zgh hw;refine⟨λmm σ' H'=>∃F' τ' R',Stp F H (tot R) F' H' (tot R')/\StR X.K F' H' σ' τ' R'/\Cj mc u mm τ'=some out,⟨n,F,τ,R,Stp.refl S.fh,S,hn⟩,?_⟩
  rintro mm σ' H' ⟨F',τ',R',st,S',hgo⟩;cases mm with
  |zero=>cases hgo
  |succ mm =>
   refine⟨F',τ',R',S',?_⟩;unfold Cj at hgo;cases hm:mc τ' with
   |none=>simp only[hm]at hgo;cases hgo
   |some r =>
    simp only[hm]at hgo;cases r with
    |x cc =>
     cases hgo;exact λF2 H2 e2=>q F2 H2 σ' R' (st.trans e2.stp0) (S'.ext e2)
    |v t bb =>
     cases t with
     |bl k =>
      intro F2 H2 e2;have S2:=S'.ext e2;have st2:Stp F H (tot R) F2 H2 (tot R'):=st.trans e2.stp0;cases k with
      |false =>
       cases hgo;exact Iv (q F2 H2 σ' R' st2 S2)
      |true =>
       simp only at hgo;refine Iu ⟨λσ2 H2=>∃F2 τ2 R2,Stp F H (tot R) F2 H2 (tot R2)/\StR X.K F2 H2 σ2 τ2 R2/\Cj mc u mm τ2=some out,λσ3 H3 n3=>⟨mm,yca _,n3⟩,F2,τ',R',S2,?_⟩
       cases hu:u τ' with
       |none=>simp only[hu]at hgo;cases hgo
       |some o =>
        simp only[hu]at hgo;cases o with
        |nx τ2=>exact λF4 H4 σ4 R4 s4 S5=>⟨F4,τ2,R4,st2.trans s4,S5,hgo⟩
        |ct τ2=>exact λF4 H4 σ4 R4 s4 S5=>⟨F4,τ2,R4,st2.trans s4,S5,hgo⟩
        |bk τ2 =>
         cases hgo;exact λF4 H4 σ4 R4 s4 S5=>q F4 H4 σ4 R4 (st2.trans s4) S5
        |rt v =>
         cases hgo;exact λF4 H4 x B s4 r=>q F4 H4 x B (st2.trans s4) r
        |xc cc τ2 =>
         cases hgo;exact λF4 H4 σ4 R4 s4 S5=>q F4 H4 σ4 R4 (st2.trans s4) S5
     |_=>cases hgo
end
section
variable {K:k9}{o:HO}
theorem Rp.own_inv{x:V}{k:Kd}(h:Rp K F H (.nd true k l) x A):∃p xs Rr,x=.ref p/\A=(λa=>a=p\/∃j,Rr j a)/\F p=none/\H p=some (.lst xs)/\RpO K F H l xs Rr/\(∀j,¬ Rr j p)/\JZ k p:=by
 cases h with
 |own hk R f h e c d dp o=>exact⟨_,_,R,rfl,rfl,f,h,⟨e,c,d,o⟩,dp,hk⟩
theorem NY{k:Kd}(hk:JZ k p)(r:RpO K F H l xs Rr)(f:F p=none)(h:H p=some (.lst xs))(dp:∀j,¬ Rr j p):Rp K F H (.nd true k l) (.ref p) (λa=>a=p\/∃j,Rr j a):=.own hk Rr f h r.len r.rep r.dis dp r.out
theorem RpO.upd(r:RpO K F H l xs Rr)(dp:∀j,¬ Rr j p):RpO K F (L2.upd H p o) l xs Rr:=⟨r.len,λi t x h1 h2=>(r.rep i t x h1 h2).frame (.refl _) λa z=>⟨Az (λe=>dp i (e▸z)),(r.dom z).1⟩,r.dis,r.out⟩
theorem Rp.upd{t:T}{x:V}{A:Rg}(r:Rp K F H t x A)(dp:¬ A p):Rp K F (L2.upd H p o) t x A:=r.frame (.refl _) λa z=>⟨Az (λe=>dp (e▸z)),(r.dom z).1⟩
theorem RpO.set(r:RpO K F H l xs Rr){j0:Nat}{t:T}{y:V}{B:Rg}(hj:j0<l.length)(rt:Rp K F H t y B)(d:∀j a,j≠j0->Rr j a->¬ B a):RpO K F H (l.set j0 t) (xs.set j0 y) (λj=>if j=j0 then B else Rr j):=by
 have hl:=r.len;refine⟨by simp[hl],λi t' x' h1 h2=>?_,λi k a hik z1 z2=>?_,λi a z=>?_⟩
 .by_cases hi:i=j0
  .subst hi;rw[yax hj]at h1;rw[yax (by omega)]at h2
   cases h1;cases h2
   simpa using rt
  .rw[yb4 (ybc hi)]at h1 h2
   simpa[hi] using r.rep i t' x' h1 h2
 .by_cases hi:i=j0
  .simp only[hi,yf3]at z1;have hk:¬ k=j0:=λz=>hik (hi.trans z.symm)
   simp only[hk,yf4]at z2;exact d k a hk z2 z1
  .simp only[hi,yf4]at z1
   by_cases hk:k=j0
   .simp only[hk,yf3]at z2;exact d i a hi z1 z2
   .simp only[hk,yf4]at z2;exact r.dis i k a hik z1 z2
 .by_cases hi:i=j0
  .simp[hi];omega
  .simp only[hi,yf4]at z
   simpa using r.out i a z
theorem StR.upd(S:StR K F H σ τ R){i:Nat}{t t':T}{x:V}{A' B:Rg}(ht:τ[i]?=some (some t))(hx:σ[i]?=some (some x))(hp:R i p)(r':Rp K F (L2.upd H p o) t' x A')(hA:∀a,A' a->R i a\/B a)(hB:∀j a,R j a->¬ B a) :
  StR K F (L2.upd H p o) σ (τ.set i (some t')) (λj=>if j=i then A' else R j)/\Stp F H (λa=>Pu.tot R a\/B a) F (L2.upd H p o) (Pu.tot λj=>if j=i then A' else R j):=by
 have fp:F p=none:=(S.dom hp).1;have hi:i<τ.length:=(ya6.mp ht).1
 have fh':A7 F (L2.upd H p o):=λb u e=>by
  rw[Az (λz=>by rw[z,fp]at e;cases e)]
  exact S.fh b u e
 refine⟨⟨fh',by simpa using S.len,λj t1 e=>?_,λj a z=>?_,λj k a hjk z1 z2=>?_⟩,⟨.refl _,fh',λb u n e=>?_,λb ⟨j,z⟩=>?_,λb u e=>.inl e⟩⟩
 .by_cases hj:j=i
  .subst hj;rw[yax hi]at e;cases e;exact⟨x,hx,by simpa using r'⟩
  .rw[yb4 (ybc hj)]at e;obtain⟨y,e1,r1⟩:=S.rep j t1 e;exact⟨y,e1,by simpa[hj] using r1.upd (o:=o) (λz=>S.dis j i p hj z hp)⟩
 .by_cases hj:j=i
  .subst hj;exact⟨t',yax hi⟩
  .simp only[hj,yf4]at z;obtain⟨t1,e⟩:=S.out j a z;exact⟨t1,by rw[yb4 (ybc hj)];exact e⟩
 .by_cases hj:j=i
  .simp only[hj,yf3]at z1;have hk:¬ k=i:=λz=>hjk (hj.trans z.symm)
   simp only[hk,yf4]at z2
   rcases hA a z1 with w|w
   .exact S.dis i k a (ybc hk) w z2
   .exact hB k a z2 w
  .simp only[hj,yf4]at z1
   by_cases hk:k=i
   .simp only[hk,yf3]at z2
    rcases hA a z2 with w|w
    .exact S.dis i j a (ybc hj) w z1
    .exact hB j a z1 w
   .simp only[hk,yf4]at z2;exact S.dis j k a hjk z1 z2
 .rw[Az (λz=>n (.inl (by rw[z];exact⟨i,hp⟩)))]
  exact e
 .by_cases hj:j=i
  .simp only[hj,yf3]at z
   rcases hA b z with w|w
   .exact .inl (.inl ⟨i,w⟩)
   .exact .inl (.inr w)
  .simp only[hj,yf4]at z;exact .inl (.inl ⟨j,z⟩)
end
def FP(τ:AN)(i:Nat):Option (Kd×List T):=match τ[i]? with
 |some (some (.nd true k l))=>some (k,l)
 |_=>none
theorem NZ{k:Kd}(h:FP τ i=some (k,l)):τ[i]?=some (some (.nd true k l)):=by
 unfold FP at h;split at h
 .rename_i k' l' e;cases h;exact e
 .cases h
def C6(i:Nat)(m:AJ):AI:=λτ=>match FP τ i with
 |some (kd,l)=>(match m τ with
  |some (.v t false)=>if l.length<BP then some (.nx (τ.set i (some (.nd true kd (l++[t]))))) else none
  |some (.v _ true)=>none
  |some (.x c)=>some (.xc c τ)
  |none=>none)
 |none=>none
def En(i:Nat)(m:AJ):AI:=λτ=>match FP τ i with
 |some (kd,l)=>(match m τ with
  |some (.v (.nd _ .lst r) false)=>if l.length+r.length<=BP then some (.nx (τ.set i (some (.nd true kd (l++BF r))))) else none
  |some (.v _ _)=>none
  |some (.x c)=>some (.xc c τ)
  |none=>none)
 |none=>none
def IY(i:Nat)(mk m:AJ):AI:=λτ=>match m τ with
 |some (.v t false)=>(match FP τ i with
  |some (kd,l)=>(match mk τ with
   |some (.v (.int k) _)=>(match DN l.length k with
    |some j=>some (.nx (τ.set i (some (.nd true kd (l.set j t)))))
    |none=>none)
   |some (.v _ _)=>none
   |some (.x c)=>some (.xc c τ)
   |none=>none)
  |none=>none)
 |some (.v _ true)=>none
 |some (.x c)=>some (.xc c τ)
 |none=>none
variable {apos cpos p1:Pos}
section
variable {K:k9}{mn:AJ}{k n:Expr}{pos3:Pos}
theorem zkj{j:Int}{y:V}(g:Df K F H R (.int j) b y B):y=.int j:=by
 cases b with
 |true=>obtain⟨_,A,_,r⟩:=g;exact r.int_inv
 |false=>exact(show Rp K F H _ _ _ from g).int_inv
theorem R6{a:Addr}(h:∃j,(λj=>if j=l.length then B else Rr j) j a):(∃j,Rr j a)\/B a:=R7 (l:=l) h
theorem zio{j0:Nat}{a:Addr}(h:∃j,(λj=>if j=j0 then B else Rr j) j a):(∃j,Rr j a)\/B a:=by
 obtain⟨j,z⟩:=h
 by_cases hj:j=j0
 .simp only[hj,yf3]at z;exact .inr z
 .simp only[hj,yf4]at z;exact .inl ⟨j,z⟩
theorem s_app(hN:X.N[i]?=some x)(hv:D0 X.env.scope x)(hd:(x == ("__debug__":Str))=false)(hcd:(x == ("__classdict__":Str))=false)(he:PE X e (tM X.K E ca m))(hs:starEach [e] X.env=[(false,eval e X.env)])(hline:(apos.endLine == cpos.line)=true) :
  PS X (.Expr (.Call (.Attribute (.Name x p1) "append" apos) [e] [] cpos) pos) (tS X.K E ca mu (C6 i m)):=by
 refine PS.weak (NV (Ig ydc PySem.F.slot_list_append PySem.F.type_list_append zev (HV hN hv hd hcd) (EC he E6 hs) rfl (by rw[hs];rfl) hline hs rfl) rfl) λD σ H h=>?_
 obtain⟨F,τ,R,S,q⟩:=h;unfold C6 at q;cases ho:FP τ i with
 |none=>simp only[ho]at q<;>exact q.elim
 |some kl =>
  obtain⟨kd,l⟩:=kl;simp only[ho]at q;have ht:=NZ ho;obtain⟨y,ey,ry⟩:=S.rep i _ ht;obtain⟨p,xs,Rr,rfl,hA,fp,hp,ro,dp,hOw⟩:=ry.own_inv;refine⟨_,ey,.inl ⟨rfl,xs,A9.of hp⟩,F,τ,R,S,?_⟩;cases hm:m τ with
  |none=>simp only[hm]at q<;>exact q.elim
  |some r =>
   simp only[hm]at q;cases r with
   |x c=>exact λF' H' e=>q F' H' σ R e.stp0 (S.ext e)
   |v t bb =>
    cases bb with
    |true=>exact q.elim
    |false =>
     intro F1 H1 y B e1 g1;have g1':Rp X.K F1 H1 t y B:=g1
     by_cases hz:l.length<BP
     .simp only[hz,yf3]at q;have S1:=S.ext e1;have ro1:=ro.ext e1;have hp1:=e1.hh _ _ hp;have pB:¬ B p:=λz=>by rw[e1.nb p z]at hp;cases hp
      have fp1:F1 p=none:=(ry.ext e1 |>.dom (by rw[hA];exact .inl rfl)).1
      refine⟨p,xs,y,rfl,rfl,hp1,by rw[<- ro.len,<- EH];exact hz,?_⟩
      have ro2:RpO X.K F1 (upd H1 p (.lst (xs++[y]))) (l++[t]) (xs++[y]) _:=(ro1.upd dp).snoc (g1'.upd pB) λj a z1 z2=>ro.apart e1 z2 j z1
      have dp2:∀j,¬ (if j=l.length then B else Rr j) p:=λj z=>by
       by_cases hj:j=l.length
       .simp only[hj,yf3]at z;exact pB z
       .simp only[hj,yf4]at z;exact dp j z
      have r2:=NY hOw ro2 fp1 Cd dp2
      obtain⟨S3,st3⟩:=S1.upd ht ey (by rw[hA];exact .inl rfl) r2 (B:=B) (λa z=>by
       rw[hA]
       rcases z with z|z
       .exact .inl (.inl z)
       .rcases R6 z with w|w
        .exact .inl (.inr w)
        .exact .inr w) (λj a z1 z2=>S.apart e1 z2 j z1)
      exact q F1 _ σ _ (e1.stp.trans st3) S3
     .simp only[hz,yf4]at q<;>exact q.elim
theorem s_ext(hN:X.N[i]?=some x)(hv:D0 X.env.scope x)(hd:(x == ("__debug__":Str))=false)(hcd:(x == ("__classdict__":Str))=false)(he:PE X e (tM X.K E ca m))(hs:starEach [e] X.env=[(false,eval e X.env)])(hline:(apos.endLine == cpos.line)=true) :
  PS X (.Expr (.Call (.Attribute (.Name x p1) "extend" apos) [e] [] cpos) pos) (tS X.K E ca mu (En i m)):=by
 refine PS.weak (NV (Ig ydc PySem.F.slot_list_extend PySem.F.type_list_extend zeu (HV hN hv hd hcd) (EC he E6 hs) rfl (by rw[hs];rfl) hline hs rfl) rfl) λD σ H h=>?_
 obtain⟨F,τ,R,S,q⟩:=h;unfold En at q;cases ho:FP τ i with
 |none=>simp only[ho]at q<;>exact q.elim
 |some kl =>
  obtain⟨kd,l⟩:=kl;simp only[ho]at q;have ht:=NZ ho;obtain⟨y,ey,ry⟩:=S.rep i _ ht;obtain⟨p,xs,Rr,rfl,hA,fp,hp,ro,dp,hOw⟩:=ry.own_inv;refine⟨_,ey,.inl ⟨rfl,xs,A9.of hp⟩,F,τ,R,S,?_⟩;cases hm:m τ with
  |none=>simp only[hm]at q<;>exact q.elim
  |some r =>
   simp only[hm]at q;cases r with
   |x c=>exact λF' H' e=>q F' H' σ R e.stp0 (S.ext e)
   |v t bb =>
    cases t with
    |nd o kd2 r =>
     cases kd2 with
     |lst =>
      cases bb with
      |true=>exact q.elim
      |false =>
       intro F1 H1 y B e1 g1;obtain⟨F2,e2,_,r2⟩:=Df.frz (b:=false) S e1 g1;have r2':Rp X.K F2 F2 (T.nd o .lst r).share y R0:=r2;rw[T.share]at r2';obtain⟨p2,ys,rfl,_,nn,kid⟩:=EW r2'
       by_cases hz:l.length+r.length<=BP
       .simp only[hz,yf3]at q;have S1:=S.ext e2;have ro1:=ro.ext e2;have hp1:=e2.hh _ _ hp;have fp1:F2 p=none:=(ry.ext e2 |>.dom (by rw[hA];exact .inl rfl)).1
        have hn2:F2 p2=some (.lst ys):=nn;have lr:r.length=ys.length:=by have:=kid.1;rw[Cw,ya1]at this;exact this
        refine⟨p,p2,xs,ys,rfl,rfl,hp1,e2.fh _ _ hn2,by rw[<- ro.len,<- lr,<- EH];exact hz,?_⟩
        have app:∀(l2:List T) (ys2:List V),Ad X.K F2 l2 ys2->∀(l:List T) (xs:List V) (H0:Hp),RpO X.K F2 H0 l xs Rr->RpO X.K F2 H0 (l++l2) (xs++ys2) Rr:=by
         intro l2
         induction l2 with
         |nil=>intro ys2 hk l xs H0 hro;rw[hk.inv0,yay,yay];exact hro
         |cons t l2 ih =>
          intro ys2 hk l xs H0 hro;obtain⟨y,ys',rfl,r1,rs1⟩:=hk.inv;have h2:=hro.snoc (r1.any (H':=H0)) (λ_ _ _ z=>z)
          have e3:(λj=>if j=l.length then R0 else Rr j)=Rr:=funext λj=>by
           by_cases hj:j=l.length
           .simp only[hj,yf3];exact funext λa=>propext ⟨λz=>z.elim,λz=>absurd (hro.out _ a z) (ybd _)⟩
           .simp only[hj,yf4]
          rw[e3]at h2;have h3:=ih ys' rs1 (l++[t]) (xs++[y]) H0 h2
          simpa using h3
        have ro2:=app _ _ kid l xs _ (ro1.upd (o:=.lst (xs++ys)) dp);have r3:=NY hOw ro2 fp1 Cd dp;obtain⟨S3,st3⟩:=S1.upd ht ey (by rw[hA];exact .inl rfl) r3 (B:=R0) (λa z=>.inl (by rw[hA];exact z)) (λj a z1 z2=>z2)
        exact q F2 _ σ _ ((e2.stp (O:=tot R)).trans st3) S3
       .simp only[hz,yf4]at q<;>exact q.elim
     |_=>exact q.elim
    |_=>exact q.elim
theorem s_sto(hN:X.N[i]?=some x)(hv:D0 X.env.scope x)(hd:(x == ("__debug__":Str))=false)(hcd:(x == ("__classdict__":Str))=false)(he:PE X e (tM X.K E ca m))(hk:PE X k (tM X.K E ca mk))(hs:swapsWithSole [.Subscript (.Name x p1) k pos2] e pos.line X.env=pure false)(hw:swappedStores [.Subscript (.Name x p1) k pos2] e X.env=pure none)
  (ha : ∀ v, assign (.Subscript (.Name x p1) k pos2) X.env v = (do
   let ov <- holding [v] (eval (.Name x p1) X.env);let iv <- holding [v,ov] (eval k X.env)
   standAt pos2
   holding [v,ov,iv] (setItem ov iv v)
   release [v,ov,iv] [])) :
  PS X (.Assign [.Subscript (.Name x p1) k pos2] e pos) (tS X.K E ca mu (IY i mk m)):=by
 refine PS.weak (NW he (To (HV hN hv hd hcd) hk zgf ha) hs hw rfl) λD σ H h=>?_
 obtain⟨F,τ,R,S,q⟩:=h;refine⟨F,τ,R,S,?_⟩;unfold IY at q;cases hm:m τ with
 |none=>simp only[hm]at q<;>exact q.elim
 |some r =>
  simp only[hm]at q;cases r with
  |x c=>exact λF' H' e=>q F' H' σ R e.stp0 (S.ext e)
  |v t bb =>
   cases bb with
   |true=>exact q.elim
   |false =>
    intro F1 H1 y B e1 g1;have g1':Rp X.K F1 H1 t y B:=g1;simp only at q;cases ho:FP τ i with
    |none=>simp only[ho]at q<;>exact q.elim
    |some kl =>
     obtain⟨kd,l⟩:=kl;simp only[ho]at q;have S1:=S.ext e1;have ht:=NZ ho;obtain⟨y2,ey,ry⟩:=S1.rep i _ ht;refine⟨y2,ey,F1,τ,R,S1,?_⟩;cases hkk:mk τ with
     |none=>simp only[hkk]at q<;>exact q.elim
     |some r =>
      simp only[hkk]at q;cases r with
      |x c=>exact λF' H' e=>q F' H' σ R ((e1.stp0).trans e.stp0) (S1.ext e)
      |v tk bk =>
       cases tk with
       |int kk =>
        simp only at q;cases hj:DN l.length kk with
        |none=>simp only[hj]at q<;>exact q.elim
        |some j =>
         simp only[hj]at q;intro F2 H2 z C e2 g2;have hz:=zkj g2;subst hz;have S2:=S1.ext e2;have ry2:=ry.ext e2;obtain⟨p,xs,Rr,rfl,hA,fp,hp,ro,dp,hOw⟩:=ry2.own_inv;have hjl:=(Oj hj).2.1;have g2':=g1'.ext e2
         have pB:¬ B p:=λz=>by
          have:R i p:=by rw[hA];exact .inl rfl
          exact S.apart e1 z i this
         refine⟨p,xs,kk,j,rfl,rfl,hp,by rw[<- ro.len];exact hj,?_⟩
         have ro2:RpO X.K F2 (upd H2 p (.lst (xs.set j y))) (l.set j t) (xs.set j y) _:=(ro.upd dp).set hjl (g2'.upd pB) λj' a _ z1 z2=>S.apart e1 z2 i (by rw[hA];exact .inr ⟨j',z1⟩)
         have dp2:∀j',¬ (if j'=j then B else Rr j') p:=λj' z=>by
          by_cases hj':j'=j
          .simp only[hj',yf3]at z;exact pB z
          .simp only[hj',yf4]at z;exact dp j' z
         have r3:=NY hOw ro2 fp Cd dp2
         obtain⟨S3,st3⟩:=S2.upd ht ey (by rw[hA];exact .inl rfl) r3 (B:=B) (λa z=>by
          rw[hA]
          rcases z with z|z
          .exact .inl (.inl z)
          .rcases zio z with w|w
           .exact .inl (.inr w)
           .exact .inr w) (λj a z1 z2=>S.apart e1 z2 j z1)
         exact q F2 _ σ _ ((e1.stp.trans e2.stp0).trans st3) S3
       |_=>exact q.elim
noncomputable def IZ(i j:Nat)(ms:BI):AI:=λτ=>match ms τ with
 |some (.v ts false)=>(match ts with
  |[t,u]=>if i<τ.length/\j<τ.length then some (.nx ((τ.set i (some t)).set j (some u))) else none
  |_=>none)
 |some (.v _ true)=>none
 |some (.x c)=>some (.xc c τ)
 |none=>none
theorem s_par{b:Expr}{px py pt:Pos}{kt k2 pt2}(hc:X.calm=true)(hN:X.N.Nodup)(hi:X.N[i]?=some x)(hj:X.N[j]?=some y)(hij:i≠j)(hx:X.env.scope.names.lookup x=some .local)(hy:X.env.scope.names.lookup y=some .local)(ha:PA X [a,b] (Bs X.K E ca ms))(hw:swappedStores [.Tuple [.Name x px,.Name y py] kt pt] (.Tuple [a,b] k2 pt2) X.env=pure (some [x,y]))(hs:swapsWithSole [.Tuple [.Name x px,.Name y py] kt pt] (.Tuple [a,b] k2 pt2) pos.line X.env=pure false) :
  PS X (.Assign [.Tuple [.Name x px,.Name y py] kt pt] (.Tuple [a,b] k2 pt2) pos) (tS X.K E ca mu (IZ i j ms)):=by
 refine PS.weak (zmi hc hN hi hj hij hx hy ha hw hs) λD σ H h=>?_
 obtain⟨F,τ,R,S,q⟩:=h;refine⟨F,τ,R,S,?_⟩;unfold IZ at q;cases hm:ms τ with
 |none=>simp only[hm]at q<;>exact q.elim
 |some r =>
  simp only[hm]at q;cases r with
  |x c=>exact λF' H' e=>q F' H' σ R e.stp0 (S.ext e)
  |v ts bb =>
   cases bb with
   |true=>exact q.elim
   |false =>
    intro F1 H1 xs e1 rs;simp only at q
    match ts,q,rs with
    |[t,u],q,rs =>
     simp only at q
     by_cases hl:i<τ.length/\j<τ.length
     .simp only[hl,yf3]at q;obtain⟨x1,xs1,rfl,r1,rs1⟩:=rs.inv;obtain⟨x2,xs2,rfl,r2,rs2⟩:=rs1.inv;cases rs2.inv0;have S1:=S.ext e1;have S2:=S1.set (i:=i) (show Rp X.K F1 H1 t x1 R0 from(show Rp X.K F1 F1 t x1 R0 from r1).any) (λ_ _ _ _ z=>z.elim) hl.1
      have S3:=S2.set (i:=j) (show Rp X.K F1 H1 u x2 R0 from(show Rp X.K F1 F1 u x2 R0 from r2).any) (λ_ _ _ _ z=>z.elim) (by simpa using hl.2)
      refine⟨x1,x2,rfl,q F1 H1 _ _ (e1.stp0.mono ?_) S3⟩;rintro a ⟨k,z⟩
      by_cases hk:k=j
      .simp only[hk,yf3]at z;exact z.elim
      .simp only[hk,yf4]at z
       by_cases hk2:k=i
       .simp only[hk2,yf3]at z;exact z.elim
       .simp only[hk2,yf4]at z;exact⟨k,z⟩
     .simp only[hl,yf4]at q<;>exact q.elim
    |[],q,rs=>exact q.elim
    |[_],q,rs=>exact q.elim
    |_::_::_::_,q,rs=>exact q.elim
end
section
variable {K:k9}
inductive Mo where
 |ok (v:T) (τ:AN)|exc (c:Str) (τ:AN)
def IU(K:k9)(ca:Str->Value)(g:List T->Option Ru):Sp:=λvs H Q E=>∃F p l ts A vs',A7 F H/\vs=.ref p::vs'/\Rp K F H (.nd true (.pin p) l) (.ref p) A/\Ad K F ts vs'/\match g (.nd true (.pin p) l::ts) with
 |some (.ok t)=>∀F' H' x B,Stp F H A F' H' B->Wr K true F' H' t x B->Q x H'
 |some (.exc c)=>∀F' H',Stp F H A F' H' R0->E (ca c) none H'
 |none=>False
variable {mm:AN->Option Mo}
end
abbrev UE(A:Around):Around:={ A with handled:=none }
structure FnS(P:Program)(w:World)(K:k9)(mg:Str->Option Value)(base:Heap)(k:Nat)(f:Addr)(fd:FuncData)(p:Str)(sp:Sp):Prop where
 run:∀(A:Around) (outer:List Env) (s:Shared) (H:Hp) (args:Args) (a:Addr) (Q:VK),A.handled=some (.ref a)->(∃C,J3 H a C)->Room k (UE A)->Env0 P w K mg base A outer s H->BindsTo s fd args [(p,.ref a)]->sp [.ref a] H Q E0 ->
  codeAny (model P w) A (.call (.ref f) args) (CR J5 outer P w H s Q E0) s
structure DefS(P:Program)(w:World)(K:k9)(mg:Str->Option Value)(base:Heap)(k:Nat)(x p:Str)(sp:Sp) where
 f:Addr
 fd:FuncData
 ok:FnS P w K mg base k f fd p sp
 m:mg x=some (.ref f)
 kp:PySem.W.keepIn K (.ref f)=true
 b:Dg K fd [p] []
section
variable {a:Addr}
end
section
def tDicO:TE:=λ_ H Q=>∀p,H p=none->Q (.ref p) (upd H p (.dK []))
theorem zje:PE X (.Dict [] [] pos) tDicO:=λpins s σ H Q I h=>by
 refine wpAny_Dict_empty ⟨.ref s.heap.objs.size,_,I.laid (a:=s.heap.objs.size) (o:=.dK []) (t':=s.toks) (λ_ _ q=>yaa _ q) (yae _) (zhw s.heap I.big),rfl,h _ (I.hok.fresh (yae _))⟩
end
section
variable {mv:AJ}{k:Expr}
end
section
variable {k:Expr}
end
theorem zn6(hu:X.A.units+64<cLine):Ak X (compareOp .NotEq) (Bt X.K By):=by
 intro pins s σ H x y v u Q I rx ry h;obtain⟨F,t1,t2,r,fh,r1,r2,e,q⟩:=h;unfold By at e;split at e
 .cases e;rename_i hc;unfold Ey DP at hc;rw[ya7,ya7,ya7,ya7,yfc]at hc;obtain⟨a1,q1⟩:=Fm I fh (r1.any) hc.1.1.1 rx;obtain⟨a2,q2⟩:=Fm I fh (r2.any) hc.1.2.1 ry;exact SeqAt.compareNe_reads q1 q2 hc.1.1.2 hc.1.2.2 (Xo hu hc.2) ⟨.bl _,H,I,rfl,q.bl fh⟩
 .cases e
theorem StR.frz{K:k9}{F H:Hp}{σ:L2.St}{τ:AN}{R:Nat->Rg}{i:Nat}{t:T}(S:StR K F H σ τ R)(ht:τ[i]?=some (some t)):StR K (Pu.frz F H (R i)) H σ (τ.set i (some t.share)) (λj=>if j=i then R0 else R j):=by
 obtain⟨x,ex,r⟩:=S.rep i t ht;have hi:i<τ.length:=(ya6.mp ht).1;have n:∀a,R i a->F a=none:=λa z=>(r.dom z).1
 refine⟨Hf S.fh,by simpa using S.len,λj t' e=>?_,λj a z=>?_,λj k a hjk z1 z2=>?_⟩
 .by_cases hj:j=i
  .subst hj;rw[yax hi]at e;cases e;exact⟨x,ex,by simpa using r.share (Ed n) λa u z q=>by rw[GG z];exact q⟩
  .rw[yb4 (ybc hj)]at e;obtain⟨y,e1,r1⟩:=S.rep j t' e;refine⟨y,e1,?_⟩;simp only[hj,yf4]
   exact r1.frame (Ed n) λa z=>⟨rfl,by
    rw[F8 (λz'=>S.dis j i a hj z z')]
    exact(r1.dom z).1⟩
 .by_cases hj:j=i
  .simp only[hj,yf3]at z;exact z.elim
  .simp only[hj,yf4]at z;obtain⟨t',e⟩:=S.out j a z;exact⟨t',by rw[yb4 (ybc hj)];exact e⟩
 .by_cases hj:j=i
  .simp only[hj,yf3]at z1;exact z1.elim
  .by_cases hk:k=i
   .simp only[hk,yf3]at z2;exact z2.elim
   .simp only[hj,yf4]at z1;simp only[hk,yf4]at z2;exact S.dis j k a hjk z1 z2
section
variable {K:k9}{w:AI}
end
variable {f:Str}
theorem Vi{fs:List Str}:∀{j:Nat} {x:V},fs.findIdx? (· == f)=some j->xs[j]?=some x->(fs.zip xs).lookup f=some x:=by
 induction fs generalizing xs with
 |nil=>intro j x h;simp at h
 |cons g r ih =>
  intro j x h hx;rw[ye7]at h;cases xs with
  |nil=>simp at hx
  |cons y ys =>
   rw[ycu,yb5]
   by_cases hg:g=f
   .subst hg;simp only[yff,yf3,yed]at h;subst h;simp at hx;rw[yff,hx]
   .have h1:(g == f)=false:=beq_eq_false_iff_ne.mpr hg;have h2:(f == g)=false:=beq_eq_false_iff_ne.mpr (ybc hg);rw[h1]at h;simp only[ycg,yf4,yah]at h;obtain⟨j',h3,rfl⟩:=h;rw[h2];exact ih h3 (by simpa using hx)
theorem zam{fs:List Str}(h:fs.contains f=false):(fs.zip xs).lookup f=none:=by
 induction fs generalizing xs with
 |nil=>rfl
 |cons g r ih =>
  cases xs with
  |nil=>rfl
  |cons y ys =>
   rw[ye5,ybx]at h;rw[ycu,yb5,h.1];exact ih h.2
theorem Rp.obj_inv{K:k9}{k:Ob}{x:V}(h:Rp K F H (.obj k l) x A):∃p xs,x=.ref p/\A=R0/\J0 F k p xs/\l.length=xs.length/\∀(i:Nat) (t:T) (x:V),l[i]?=some t->xs[i]?=some x->Rp K F H t x R0:=by
 cases h with
 |obj h e c=>exact⟨_,_,rfl,rfl,h,e,c⟩
noncomputable def Bh(C:Addr)(fs:List Str):T->Option (List T)
 |.obj (.ins C' fs') l=>if C'=C/\fs'=fs then some l else none
 |_=>none
theorem WN{fs:List Str}{t:T}(h:Bh C fs t=some l):t=.obj (.ins C fs) l:=by
 unfold Bh at h;split at h
 .split at h
  .rename_i hc;cases h;rw[hc.1,hc.2]
  .cases h
 .cases h
def B7(C:Addr)(fs:List Str)(j:Nat)(m:AJ):AJ:=λτ=>match m τ with
 |some (.v t b)=>(match Bh C fs t with
  |some l=>(match l[j]? with
   |some u=>some (.v u (b && !u.sh))
   |none=>none)
  |none=>none)
 |some (.x c)=>some (.x c)
 |none=>none
def Bl(C:Addr)(fs:List Str)(g:List T->Option Ru)(m:AJ)(ms:BI):AJ:=λτ=>match m τ with
 |some (.v t _)=>(match Bh C fs t with
  |some _=>(match ms τ with
   |some (.v ts b)=>(match g (t.share::ts) with
    |some (.ok v)=>BE b v
    |some (.exc c)=>some (.x c)
    |none=>none)
   |some (.x c)=>some (.x c)
   |none=>none)
  |none=>none)
 |some (.x c)=>some (.x c)
 |none=>none
def Cb(m n:AJ):AJ:=λτ=>match m τ with
 |some r=>some r
 |none=>n τ
variable {pl:Sem Bool}
section
variable {n:AJ}{p:Pos}{fs:List Str}
theorem NT(h1:PE X e (tM X.K E ca m))(h2:PE X e (tM X.K E ca n)):PE X e (tM X.K E ca (Cb m n)):=λpins s σ H Q I h=>by
 obtain⟨F,τ,R,S,q⟩:=h;unfold Cb at q;cases hm:m τ with
 |none =>
  rw[hm]at q;exact h2 pins s σ H Q I ⟨F,τ,R,S,q⟩
 |some r =>
  rw[hm]at q;exact h1 pins s σ H Q I ⟨F,τ,R,S,by rw[hm];exact q⟩
theorem LG{K:k9}{k:Ob}{x:V}(g:Df K F H R (.obj k l) b x B):Rp K F H (.obj k l) x R0/\B=R0:=by
 cases b with
 |true =>
  obtain⟨hB,A,_,r⟩:=g;obtain⟨p,xs,rfl,hA,_⟩:=r.obj_inv;exact⟨hA▸r,hB⟩
 |false =>
  have r:Rp K F H (.obj k l) x B:=g;obtain⟨p,xs,rfl,hA,_⟩:=r.obj_inv;exact⟨hA▸r,hA⟩
theorem r_fld(c:Cls X.K C)(hn:CO X.K C f)(hj:fs.findIdx? (· == f)=some j)(ho:PE X o (tM X.K E ca m))(hb:attributeBase o f X.env (eval o X.env)=eval o X.env):PE X (.Attribute o f pos) (tM X.K E ca (B7 C fs j m)):=by
 refine PE.weak (Tt ho hb) λσ H Q h=>?_
 obtain⟨F,τ,R,S,q⟩:=h;refine⟨F,τ,R,S,?_⟩;unfold B7 at q;cases hm:m τ with
 |none=>simp only[hm]at q<;>exact q.elim
 |some r =>
  simp only[hm]at q;cases r with
  |x c=>exact q
  |v t b =>
   intro F1 H1 x B e1 g1;cases hi:Bh C fs t with
   |none=>simp only[hi]at q<;>exact q.elim
   |some l =>
    simp only[hi]at q;have ht:=WN hi;subst ht;cases hu:l[j]? with
    |none=>simp only[hu]at q<;>exact q.elim
    |some u =>
     simp only[hu]at q;obtain⟨r1,hB⟩:=LG g1;subst hB;obtain⟨a,xs,rfl,_,⟨dx,hF⟩,el,cc⟩:=r1.obj_inv;have hjl:=(ya6.mp hu).1;have hx:xs[j]?=some xs[j]:=ya0 (by omega)
     have hc:=cc j u _ hu hx;refine⟨a,_,dx,_,xs[j],rfl,e1.fh _ _ hF,c,hn,Vi hj hx,?_⟩;refine q F1 H1 _ R0 e1 ?_;cases b with
     |false=>exact hc
     |true =>
      cases hs:u.sh with
      |true=>exact hc
      |false=>exact⟨rfl,R0,λ_ z=>z.elim,hc⟩
structure MetX(P:Program)(w:World)(K:k9)(mg:Str->Option Value)(base:Heap)(C:Addr)(m:Str)(k:Nat)(ps:List Str)(sp:Sp) where
 f:Addr
 fd:FuncData
 c:Cls K C
 me:Meth K C m f
 ok:FnOk P w K mg base (Bo P w) k f fd ps sp
 b:Dg K fd ps []
def Mh(C:Addr)(m:Str)(sp:Sp)(E:L2.St->XK)(ta:TE)(t:TA):TE:=λσ H Q=>ta σ H λx H1=>∃a dx fs,x=.ref a/\H1 a=some (.ins C dx fs)/\fs.lookup m=none /\
 t σ H1 λvs H2=>sp (x::vs) H2 Q (E σ)
theorem pmx{k:Nat}{sp:Sp}{ta:TE}{t:TA}(D:MetX X.prog X.w X.K X.mg X.base C f k ps sp)(hr:Room j X.A)(hx:BH X E)(he:PE X o ta)(ha:PA X (e::es) t)(hk:k<=j)(hst:starEach (e::es) X.env=(false,eval e X.env)::starEach es X.env)(hpl:(backTo pos (starEach es X.env)).any (·.1)=false)(ht:eval (.Call (.Attribute o f apos) (e::es) [] pos) X.env=(do
   let ov <- eval o X.env
   standAt apos.atName
   let (f,first) <- holding [ov] (getMethod ov f pl)
   callWith pos f first (backTo pos (starEach (e::es) X.env)) (backToKw pos (keywordEach [] X.env)))):PE X (.Call (.Attribute o f apos) (e::es) [] pos) (Mh C f sp E ta t):=by
 intro pins s σ H Q I h;refine PySem.W.methodCall_KW (pl:=pl) (AZ (he pins s σ H _ I h) λu s1 ⟨x,H1,I1,rx,a,dx,fs,ex,ea,l,q⟩=>?_) ht
 subst ex;obtain rfl:u=Value.ref a:=rx;refine Wb I1 ea D.c D.me l ?_;refine yd7 (first:=[.ref a]) (h₀:=X.base) I.ok.mod.kin D.me.kp (AZ (ha pos pins s1 σ H1 _ I1 q) λus s2 ⟨vs,H2,I2,r,q2⟩=>⟨I2.kIn,?_⟩) hst hpl
 exact KQ (us:=.ref a::us) (vs:=.ref a::vs) (dvs:=[]) D.ok (hr.mono hk) D.b .nil hx I2 (.cons rfl r) (by rw[yay];exact q2)
theorem pmx0{k:Nat}{sp:Sp}{ta:TE}(D:MetX X.prog X.w X.K X.mg X.base C f k ps sp)(hr:Room j X.A)(hx:BH X E)(he:PE X o ta)(hk:k<=j)(ht:eval (.Call (.Attribute o f apos) [] [] pos) X.env=(do
   let ov <- eval o X.env
   standAt apos.atName
   let (f,first) <- holding [ov] (getMethod ov f pl)
   callWith pos f first (backTo pos (starEach [] X.env)) (backToKw pos (keywordEach [] X.env)))):PE X (.Call (.Attribute o f apos) [] [] pos) (Mh C f sp E ta RF):=by
 intro pins s σ H Q I h;refine PySem.W.methodCall_KW (pl:=pl) (AZ (he pins s σ H _ I h) λu s1 ⟨x,H1,I1,rx,a,dx,fs,ex,ea,l,q⟩=>?_) ht
 subst ex;obtain rfl:u=Value.ref a:=rx;refine Wb I1 ea D.c D.me l ?_;exact PySem.W.callWith_K0 (first:=[.ref a]) I1.kIn D.me.kp (KQ (us:=[.ref a]) (vs:=[.ref a]) (dvs:=[]) D.ok (hr.mono hk) D.b .nil hx I1 (.cons rfl .nil) q)
theorem RH{g:List T->Option Ru}(hf:fs.contains f=false)(h:tM X.K E ca (Bl C fs g m ms) σ H Q):Mh C f (BA X.K ca g) E (tM X.K E ca m) (Bs X.K E ca ms) σ H Q:=by
 obtain⟨F,τ,R,S,q⟩:=h;refine⟨F,τ,R,S,?_⟩;unfold Bl at q;cases hm:m τ with
 |none=>simp only[hm]at q<;>exact q.elim
 |some r =>
  simp only[hm]at q;cases r with
  |x c=>exact q
  |v t b =>
   intro F1 H1 x B e1 g1;cases hi:Bh C fs t with
   |none=>simp only[hi]at q<;>exact q.elim
   |some l =>
    simp only[hi]at q;have ht:=WN hi;subst ht;obtain⟨r1,hB⟩:=LG g1;subst hB;have S1:=S.ext e1;obtain⟨a,xs,rfl,_,⟨dx,hF⟩,el,cc⟩:=r1.obj_inv;refine⟨a,dx,_,rfl,e1.fh _ _ hF,zam hf,F1,τ,R,S1,?_⟩;cases hs:ms τ with
    |none=>simp only[hs]at q<;>exact q.elim
    |some r =>
     simp only[hs]at q;cases r with
     |x c=>exact λF' H' e=>q F' H' (e1.trans0 e)
     |v ts b' =>
      intro F2 H2 vs e2 rs;have S2:=S1.ext e2;simp only at q;have r2:Rp X.K (Gz b' F2 H2 R) H2 (T.obj (.ins C fs) l).share (.ref a) R0:=(r1.ext e2).share (LF S2) λ_ _ z=>z.elim
      refine⟨Gz b' F2 H2 R,_,Ov S2,.cons r2 rs,?_⟩;have e12:=e1.trans0 e2;cases hg:g ((T.obj (.ins C fs) l).share::ts) with
      |none=>simp only[hg]at q<;>exact q.elim
      |some r =>
       simp only[hg]at q;cases r with
       |exc c=>exact λF' H' e3=>q F2 H' (e12.grow e3.hh)
       |ok v =>
        intro F3 H3 z C3 e3 r3;simp only at q;unfold BE at q;cases b' with
        |false=>exact q F3 H3 z C3 (e12.trans0 e3) r3
        |true =>
         cases hf:v.flat with
         |false=>rw[hf]at q;cases q
         |true=>rw[hf]at q;exact q F2 H3 z R0 (e12.grow e3.hh) (r3.flat_any hf)
theorem zm6{k:Nat}{g:List T->Option Ru}(D:MetX X.prog X.w X.K X.mg X.base C f k ps (BA X.K ca g))(hf:fs.contains f=false)(hr:Room j X.A)(hx:BH X E)(he:PE X o (tM X.K E ca m))(ha:PA X (e::es) (Bs X.K E ca ms))(hk:k<=j)(hst:starEach (e::es) X.env=(false,eval e X.env)::starEach es X.env)(hpl:(backTo pos (starEach es X.env)).any (·.1)=false)(ht:eval (.Call (.Attribute o f apos) (e::es) [] pos) X.env=(do
   let ov <- eval o X.env
   standAt apos.atName
   let (f,first) <- holding [ov] (getMethod ov f pl)
   callWith pos f first (backTo pos (starEach (e::es) X.env)) (backToKw pos (keywordEach [] X.env)))):PE X (.Call (.Attribute o f apos) (e::es) [] pos) (tM X.K E ca (Bl C fs g m ms)) :=
 PE.weak (pmx D hr hx he ha hk hst hpl ht) λσ H Q h=>RH hf h
structure NewX(P:Program)(w:World)(K:k9)(mg:Str->Option Value)(base:Heap)(x:Str)(C:Addr)(k:Nat)(ps:List Str)(sp:Sp) where
 f:Addr
 fd:FuncData
 m:mg x=some (.ref C)
 ma:Mk K C f
 ok:FnOk P w K mg base (Bo P w) k f fd ps sp
def zli(C:Addr)(sp:Sp)(dvs:List V)(E:L2.St->XK)(t:TA):TE:=λσ H Q=>t σ H λvs H1=>∀x dx,H1 x=none->H1 dx=none->dx≠x ->
 sp (.ref x::(vs++dvs)) (upd (upd H1 dx (.own x)) x (.ins C dx [])) (λv H2=>v=.non/\Q (.ref x) H2) (E σ)
theorem pnx{k:Nat}{sp:Sp}{t:TA}{ds:List Value}(D:NewX X.prog X.w X.K X.mg X.base x C k ps sp)(hb:Dg X.K D.fd ps ds)(hd:Ab dvs ds)(hr:Room j X.A)(hx:BH X E)(ha:PA X (e::es) t)(hk:k+1<=j)(hg:Gl X x)(hdb:(x == ("__debug__":Str))=false)(he:starEach (e::es) X.env=(false,eval e X.env)::starEach es X.env)(hpl:(backTo pos (starEach es X.env)).any (·.1)=false):PE X (.Call (.Name x p) (e::es) [] pos) (zli C sp dvs E t):=by
 intro pins s σ H Q I h;refine yf1 (HZ I hg D.m ?_ hdb);refine yd7 (h₀:=X.base) I.ok.mod.kin D.ma.kp (AZ (ha pos pins s σ H _ I h) λus s1 ⟨vs,H1,I1,r,q⟩=>⟨I1.kIn,?_⟩) he hpl
 have hq:=q (s1.heap.objs.size+1) s1.heap.objs.size (I1.hok.fresh (ycc _)) (I1.hok.fresh (yae _)) (yav (yca _));have I2:=Inv.made (C:=C) I1;have r2:Ab (V.ref (s1.heap.objs.size+1)::(vs++dvs)) (Value.ref (s1.heap.objs.size+1)::(us++ds)):=.cons rfl (r.append hd)
 have hl:(Value.ref (s1.heap.objs.size+1)::us++ds).length=ps.length:=by
  have e:=r2.length;rw[D.ok.len _ _ _ _ hq]at e;exact e.symm
 refine yfa (zhb (f:=D.f) I1.kIn D.ma.makes D.ma.init (beq_iff_eq.mp D.ma.fn) (yf7 (D.ok.run _ X.stack _ _ ⟨Value.ref (s1.heap.objs.size+1)::us,[]⟩ (Value.ref (s1.heap.objs.size+1)::(us++ds)) _ _ (E σ) ((hr.mono hk).make C us [])
  (I2.env0.make C us []) (hb _ (Value.ref (s1.heap.objs.size+1)::us) I2.kIn hl) r2 hq) λr s' hq'=>?_))
 cases r with
 |error v=>exact hx pins σ _ _ v s' I2 hq'
 |ok fl =>
  cases fl with
  |ret u =>
   obtain⟨v,H',I3,rv,ev,q3⟩:=I2.after hq';subst ev;exact⟨rv,⟨V.ref (s1.heap.objs.size+1),H',I3,rfl,q3⟩⟩
  |next=>exact False.elim hq'
  |brk=>exact False.elim hq'
  |cont=>exact False.elim hq'
def Fh(K:k9)(ca:Str->Value)(C:Addr)(g:List T->Option Ru):Sp:=λvs H Q E=>∃F p dx ts vs',A7 F H/\vs=.ref p::vs'/\F p=none/\H p=some (.ins C dx [])/\Ad K F ts vs'/\match g ts with
 |some (.ok t)=>∀F' H',Stp F H (λa=>a=p) F' H' R0->Rp K F' H' t (.ref p) R0->Q .non H'
 |some (.exc c)=>∀F' H',Stp F H (λa=>a=p) F' H' R0->E (ca c) none H'
 |none=>False
noncomputable def Fv(g:List T->Option Ru)(ds:List T)(ms:BI):AJ:=λτ=>match ms τ with
 |some (.v ts false)=>(match g (ts++ds) with
  |some (.ok t)=>some (.v t false)
  |some (.exc c)=>some (.x c)
  |none=>none)
 |some (.v _ true)=>none
 |some (.x c)=>some (.x c)
 |none=>none
theorem r_new{k:Nat}{g:List T->Option Ru}{dts:List T}{ds:List Value}(D:NewX X.prog X.w X.K X.mg X.base x C k ps (Fh X.K ca C g))(hb:Dg X.K D.fd ps ds)(hd:Ab dvs ds)(hdt:∀F:Hp,Ad X.K F dts dvs)(hr:Room j X.A)(hx:BH X E)(ha:PA X (e::es) (Bs X.K E ca ms))(hk:k+1<=j)(hg:Gl X x)(hdb:(x == ("__debug__":Str))=false)(he:starEach (e::es) X.env=(false,eval e X.env)::starEach es X.env)(hpl:(backTo pos (starEach es X.env)).any (·.1)=false):PE X (.Call (.Name x p) (e::es) [] pos) (tM X.K E ca (Fv g dts ms)):=by
 refine PE.weak (pnx D hb hd hr hx ha hk hg hdb he hpl) λσ H Q h=>?_
 obtain⟨F,τ,R,S,q⟩:=h;refine⟨F,τ,R,S,?_⟩;unfold Fv at q;cases hs:ms τ with
 |none=>simp only[hs]at q<;>exact q.elim
 |some r =>
  simp only[hs]at q;cases r with
  |x c=>exact q
  |v ts b =>
   cases b with
   |true=>exact λF1 H1 xs e1 rs=>q.elim
   |false =>
    intro F1 H1 xs e1 rs a dx ha hdx hne;simp only at q;have rs':Ad X.K F1 ts xs:=rs
    have key:∀F' H',Stp F1 (upd (upd H1 dx (.own a)) a (.ins C dx [])) (λb=>b=a) F' H' R0->Ext F H F' H' R0:=λF' H' st=>by
     refine e1.trans0 ⟨λb u z=>?_,st.ff,st.fh,λ_ z=>z.elim,λb u z=>?_⟩
     .have h1:b≠a:=C8 z ha;have h2:b≠dx:=C8 z hdx;exact st.kp b u h1 (by rw[Az h1,Az h2];exact z)
     .rcases st.nf b u z with w|w|w
      .exact .inl w
      .rw[w];exact .inr ha
      .by_cases h1:b=a
       .rw[h1];exact .inr ha
       .by_cases h2:b=dx
        .rw[h2];exact .inr hdx
        .rw[Az h1,Az h2]at w;exact .inr w
    have fh2:A7 F1 (upd (upd H1 dx (.own a)) a (.ins C dx [])):=λb u z=>by
     have z':=e1.fh b u z;rw[Az (C8 z' ha),Az (C8 z' hdx)];exact z'
    refine⟨F1,a,dx,ts++dts,xs++dvs,fh2,rfl,Gc e1.fh ha,Cd,KR rs' (hdt F1),?_⟩;cases hg:g (ts++dts) with
    |none=>simp only[hg]at q<;>exact q.elim
    |some r =>
     simp only[hg]at q;cases r with
     |exc c=>exact λF' H' st=>q F' H' (key F' H' st)
     |ok t=>exact λF' H' st r=>⟨rfl,q F' H' _ R0 (key F' H' st) r⟩
end
noncomputable def FQ(τ:AN)(i:Nat)(C:Addr)(fs:List Str):Option (Addr×List T):=match τ[i]? with
 |some (some (.oob p C' fs' l))=>if C'=C/\fs'=fs then some (p,l) else none
 |_=>none
theorem N1{fs:List Str}(h:FQ τ i C fs=some (p,l)):τ[i]?=some (some (.oob p C fs l)):=by
 unfold FQ at h;split at h
 .rename_i q;split at h
  .rename_i hc;cases h;rw[q,hc.1,hc.2]
  .cases h
 .cases h
def Dl(C:Addr)(fs:List Str)(j i:Nat)(m:AJ):AI:=λτ=>match m τ with
 |some (.v t false)=>(match FQ τ i C fs with
  |some (p,l)=>if l.length=j then some (.nx (τ.set i (some (.oob p C fs (l++[t]))))) else none
  |none=>none)
 |some (.v _ true)=>none
 |some (.x c)=>some (.xc c τ)
 |none=>none
def Ih:Option T->Option (List Str×List T)
 |some (.osd ks l)=>some (ks,l)
 |_=>none
variable {ks:List Str}
theorem zdq{o:Option T}(h:Ih o=some (ks,l)):o=some (.osd ks l):=by
 unfold Ih at h;split at h
 .cases h;rfl
 .cases h
open Classical in
def Ib(C:Addr)(fs:List Str)(j i:Nat)(mk m:AJ):AI:=λτ=>match m τ with
 |some (.v t false)=>(match FQ τ i C fs with
  |some (p,l)=>(match Ih l[j]? with
   |some (ks,lv)=>(match mk τ with
    |some (.v (.str k) _)=>if k∉ks/\ks.length<100000 then some (.nx (τ.set i (some (.oob p C fs (l.set j (.osd (ks++[k]) (lv++[t.share]))))))) else none
    |some (.v _ _)=>none
    |some (.x c)=>some (.xc c τ)
    |none=>none)
   |none=>none)
  |none=>none)
 |some (.v _ true)=>none
 |some (.x c)=>some (.xc c τ)
 |none=>none
def Kv:AJ:=λ_=>some (.v (.osd [] []) false)
theorem Tf{f:Str}{y:V}:∀{fs:List Str} {xs:List V},fs[xs.length]?=some f->(fs.take xs.length).contains f=false->Cp f y (fs.zip xs)=fs.zip (xs++[y])
 |[],xs,h,_=>by simp at h
 |g::r,[],h,_=>by
  simp at h;subst h;simp[Cp]
 |g::r,x::xs,h,hn=>by
  rw[yaj,List.take_succ_cons,ye5,ybx]at hn
  have hg:¬ g=f:=λz=>by
   have:=hn.1;rw[z,yff]at this;cases this
  have ih:=Tf (f:=f) (y:=y) (fs:=r) (xs:=xs) (by simpa using h) hn.2
  rw[ycu,List.cons_append,ycu,<- ih];show(if g=f then _ else _)=_
  rw[if_neg hg]
section
variable {K:k9}{fs:List Str}
theorem Rp.oob_inv{x:V}(h:Rp K F H (.oob p C fs l) x A):∃dx xs Rr,x=.ref p/\A=(λa=>a=p\/∃j,Rr j a)/\F p=none/\H p=some (.ins C dx (fs.zip xs))/\RpO K F H l xs Rr/\∀j,¬ Rr j p:=by
 cases h with
 |oob R f h e c d dp o=>exact⟨_,_,R,rfl,rfl,f,h,⟨e,c,d,o⟩,dp⟩
theorem UC{dx:Addr}(r:RpO K F H l xs Rr)(f:F p=none)(h:H p=some (.ins C dx (fs.zip xs)))(dp:∀j,¬ Rr j p):Rp K F H (.oob p C fs l) (.ref p) (λa=>a=p\/∃j,Rr j a):=.oob Rr f h r.len r.rep r.dis dp r.out
theorem Rp.osd_inv{x:V}(h:Rp K F H (.osd ks l) x A):∃p xs,x=.ref p/\A=(λa=>a=p)/\F p=none/\H p=some (.dK (CU ks xs))/\l.length=xs.length/\ks.length=xs.length/\∀(i:Nat) (t:T) (x:V),l[i]?=some t->xs[i]?=some x->Rp K F H t x R0:=by
 cases h with
 |osd f h e ek c=>exact⟨_,_,rfl,rfl,f,h,e,ek,c⟩
end
theorem zkb(h:ks.length=xs.length):(CU ks xs).length=xs.length:=by
 unfold CU;rw[List.length_zipWith,h,Nat.min_self]
theorem zkc{kv:Key×V}(h:kv∈CU ks xs):∃k∈ks,kv.1=Sum.inr k:=by
 induction ks generalizing xs with
 |nil=>cases xs<;>cases h
 |cons a r ih =>
  cases xs with
  |nil=>cases h
  |cons b s =>
   unfold CU at h;rw[List.zipWith_cons_cons]at h
   rcases ya9.mp h with e|e
   .exact⟨a,ya5 ..,by rw[e]⟩
   .obtain⟨k,hk,e⟩:=ih (xs:=s) e;exact⟨k,ya4 _ hk,e⟩
theorem zgq{k:Str}{y:V}(h:ks.length=xs.length)(hk:k∉ks):Dn (CU ks xs) (Sum.inr k) y=CU (ks++[k]) (xs++[y]):=by
 unfold Dn;rw[if_neg]
 .unfold CU;rw[List.zipWith_append h]
  rfl
 .intro c;obtain⟨kv,h1,h2⟩:=List.any_eq_true.mp c;obtain⟨k',h3,h4⟩:=zkc h1;have:=yfh h2;rw[h4]at this;cases this;exact hk h3
section
variable {k:Expr}{pos3:Pos}{fs:List Str}
theorem zm9:PE X (.Dict [] [] pos) (tM X.K E ca Kv):=PE.weak zje λσ H Q h p hp=>by
 obtain⟨F,τ,R,S,q⟩:=h;exact q F (upd H p (.dK [])) (.ref p) _ (Ext.newO S.fh hp) (Rp.osd (ks:=[]) (xs:=[]) (l:=[]) (Gc S.fh hp) Cd rfl rfl λi t x h=>by simp at h)
theorem zlw(c:Cls X.K C)(hn:CO X.K C f)(hj:fs[j]?=some f)(hnf:(fs.take j).contains f=false)(hjl:j<900)(hN:X.N[i]?=some x)(hv:D0 X.env.scope x)(hd:(x == ("__debug__":Str))=false)(hcd:(x == ("__classdict__":Str))=false)(he:PE X e (tM X.K E ca m))
  (hs:swapsWith e (some (.Attribute (.Name x p1) f pos2)) pos.line X.env=pure false):PS X (.Assign [.Attribute (.Name x p1) f pos2] e pos) (tS X.K E ca mu (Dl C fs j i m)):=by
 refine PS.weak (zmk (HV hN hv hd hcd) he hs) λD σ H h=>?_
 obtain⟨F,τ,R,S,q⟩:=h;refine⟨F,τ,R,S,?_⟩;unfold Dl at q;cases hm:m τ with
 |none=>simp only[hm]at q<;>exact q.elim
 |some r =>
  simp only[hm]at q;cases r with
  |x c=>exact λF' H' e=>q F' H' σ R e.stp0 (S.ext e)
  |v t bb =>
   cases bb with
   |true=>exact λF1 H1 y B e1 g1=>q.elim
   |false =>
    intro F1 H1 y B e1 g1;have g1':Rp X.K F1 H1 t y B:=g1;simp only at q;cases ho:FQ τ i C fs with
    |none=>simp only[ho]at q<;>exact q.elim
    |some pl =>
     obtain⟨p,l⟩:=pl;simp only[ho]at q
     by_cases hl:l.length=j
     .rw[if_pos hl]at q;have S1:=S.ext e1;have ht:=N1 ho;obtain⟨y2,ey,ry⟩:=S.rep i _ ht;obtain⟨dx,xs,Rr,rfl,hA,fp,hp,ro,dp⟩:=ry.oob_inv;have hxs:xs.length=j:=by rw[<- ro.len];exact hl
      have hp1:=e1.hh _ _ hp;have pB:¬ B p:=λz=>by rw[e1.nb p z]at hp;cases hp
      have fp1:F1 p=none:=(ry.ext e1 |>.dom (by rw[hA];exact .inl rfl)).1
      refine⟨_,ey,p,C,dx,fs.zip xs,rfl,hp1,c,hn,?_,?_⟩
      .rw[ydv]
       omega
      .rw[Tf (by rw[hxs];exact hj) (by rw[hxs];exact hnf)]
       have ro1:=ro.ext e1;have ro2:RpO X.K F1 (upd H1 p (.ins C dx (fs.zip (xs++[y])))) (l++[t]) (xs++[y]) _:=(ro1.upd dp).snoc (g1'.upd pB) λj a z1 z2=>ro.apart e1 z2 j z1
       have dp2:∀j,¬ (if j=l.length then B else Rr j) p:=λj z=>by
        by_cases hj:j=l.length
        .simp only[hj,yf3]at z;exact pB z
        .simp only[hj,yf4]at z;exact dp j z
       have r2:=UC (C:=C) (fs:=fs) ro2 fp1 Cd dp2
       obtain⟨S3,st3⟩:=S1.upd ht ey (by rw[hA];exact .inl rfl) r2 (B:=B) (λa z=>by
        rw[hA]
        rcases z with z|z
        .exact .inl (.inl z)
        .rcases R6 z with w|w
         .exact .inl (.inr w)
         .exact .inr w) (λj a z1 z2=>S.apart e1 z2 j z1)
       exact q F1 _ σ _ (e1.stp.trans st3) S3
     .rw[if_neg hl]at q;exact q.elim
def rSetS:Lf:=λo i v H Q=>∃p kvs k,o=.ref p/\i=.str k/\H p=some (.dK kvs)/\kvs.length<sizeLine/\Q (upd H p (.dK (Dn kvs (Sum.inr k) v)))
theorem zgg(hu:X.A.units+1<cLine):Q3 X rSetS:=by
 intro pins s σ H o i v ov iv u Q I ro ri rv h;obtain⟨p,kvs,k,rfl,rfl,hp,hl,q⟩:=h;cases ro;exact zfn hu I (ML.k (k:=Sum.inr k) hp hl) (show L2.RelV (kV (Sum.inr k)) iv from ri) rv λs' I'=>⟨_,I',q⟩
theorem GD{K:k9}{z:Str}{y:V}(g:Df K F H R (.str z) b y B):y=.str z:=by
 cases b with
 |true=>obtain⟨_,A,_,r⟩:=g;exact r.str_inv
 |false=>exact(show Rp K F H _ _ _ from g).str_inv
theorem s_dpf(hu:X.A.units+1<cLine)(c:Cls X.K C)(hn:CO X.K C f)(hj:fs.findIdx? (· == f)=some j)(hN:X.N[i]?=some x)(hv:D0 X.env.scope x)(hd:(x == ("__debug__":Str))=false)(hcd:(x == ("__classdict__":Str))=false)(he:PE X e (tM X.K E ca m))(hk:PE X k (tM X.K E ca mk))
  (hs:swapsWithSole [.Subscript (.Attribute (.Name x p1) f pos3) k pos2] e pos.line X.env=pure false) (hw:swappedStores [.Subscript (.Attribute (.Name x p1) f pos3) k pos2] e X.env=pure none)
  (ha : ∀ v, assign (.Subscript (.Attribute (.Name x p1) f pos3) k pos2) X.env v = (do
   let ov <- holding [v] (eval (.Attribute (.Name x p1) f pos3) X.env);let iv <- holding [v,ov] (eval k X.env)
   standAt pos2
   holding [v,ov,iv] (setItem ov iv v)
   release [v,ov,iv] [])) :
  PS X (.Assign [.Subscript (.Attribute (.Name x p1) f pos3) k pos2] e pos) (tS X.K E ca mu (Ib C fs j i mk m)):=by
 refine PS.weak (NW he (To (Tt (HV hN hv hd hcd) rfl) hk (zgg hu) ha) hs hw rfl) λD σ H h=>?_
 obtain⟨F,τ,R,S,q⟩:=h;refine⟨F,τ,R,S,?_⟩;unfold Ib at q;cases hm:m τ with
 |none=>simp only[hm]at q<;>exact q.elim
 |some r =>
  simp only[hm]at q;cases r with
  |x c=>exact λF' H' e=>q F' H' σ R e.stp0 (S.ext e)
  |v t bb =>
   cases bb with
   |true=>exact λF1 H1 y B e1 g1=>q.elim
   |false =>
    intro F0 H1 y B e0 g0;simp only at q;obtain⟨F1,e1,_,g1⟩:=Df.frz (b:=false) S e0 g0;have g1':Rp X.K F1 H1 t.share y R0:=(show Rp X.K F1 F1 t.share y R0 from g1).any;cases ho:FQ τ i C fs with
    |none=>simp only[ho]at q<;>exact q.elim
    |some pl =>
     obtain⟨p,l⟩:=pl;simp only[ho]at q;cases hos:Ih l[j]? with
     |none=>simp only[hos]at q<;>exact q.elim
     |some kl =>
      obtain⟨ks,lv⟩:=kl;simp only[hos]at q;have hlj:=zdq hos;have S1:=S.ext e1;have ht:=N1 ho;obtain⟨y2,ey,ry⟩:=S1.rep i _ ht;obtain⟨dx,xs,Rr,rfl,hA,fp,hp,ro,dp⟩:=ry.oob_inv;have hjl:=(ya6.mp hlj).1;have hjx:j<xs.length:=by rw[<- ro.len];exact hjl
      have hx:xs[j]?=some xs[j]:=ya0 hjx;refine⟨_,ey,p,C,dx,_,xs[j],rfl,hp,c,hn,Vi hj hx,F1,τ,R,S1,?_⟩;cases hkk:mk τ with
      |none=>simp only[hkk]at q<;>exact q.elim
      |some r =>
       simp only[hkk]at q;cases r with
       |x c=>exact λF' H' e=>q F' H' σ R ((e1.stp0).trans e.stp0) (S1.ext e)
       |v tk bk =>
        cases tk with
        |str kk =>
         simp only at q
         by_cases hc:kk∉ks/\ks.length<100000
         .rw[if_pos hc]at q;intro F2 H2 z CC e2 g2;have hz:=GD g2;subst hz;have e2':Ext F1 H1 F2 H2 R0:=e2.mono λ_ z=>z.elim
          have S2:=S1.ext e2;have ry2:=ry.ext e2;have ro2:=ro.ext e2;have fp2:F2 p=none:=(ry2.dom (by rw[hA];exact .inl rfl)).1
          have hp2:=e2.hh _ _ hp;have rk:=ro2.rep j _ _ hlj hx;obtain⟨pd,ys,exj,hAd,fpd,hpd,el,ek,cc⟩:=rk.osd_inv;have g2':Rp X.K F2 H2 t.share y R0:=g1'.ext e2;have pdj:Rr j pd:=by rw[hAd]
          have pne:pd≠p:=λz=>dp j (z▸pdj)
          refine⟨pd,CU ks ys,kk,exj,rfl,hpd,?_,?_⟩
          .rw[zkb ek,<- ek,yf0];exact ydq hc.2 (by decide)
          .rw[zgq ek hc.1]
           have r3:Rp X.K F2 (upd H2 pd (.dK (CU (ks++[kk]) (ys++[y])))) (.osd (ks++[kk]) (lv++[t.share])) (.ref pd) (λa=>a=pd):=by
            refine .osd fpd Cd (by simp[el]) (by simp[ek]) λj t' x' h1 h2=>?_
            rcases yek j lv.length with w|w
            .rw[yaz w]at h1;rw[yaz (by omega)]at h2
             exact(cc j t' x' h1 h2).any
            .rw[yb2 w]at h1;rw[yb2 (by omega)]at h2
             have hj:j - lv.length=0:=by
              have:=(ya6.mp h1).1;simp at this
              omega
             have hj2:j - ys.length=0:=by omega
             rw[hj]at h1;rw[hj2]at h2;simp at h1 h2;subst h1 h2;exact g2'.any
           have oth:∀k,k≠j->¬ Rr k pd:=λk hk z=>ro2.dis k j pd hk z pdj
           have ro3:RpO X.K F2 (upd H2 pd (.dK (CU (ks++[kk]) (ys++[y])))) (l.set j (.osd (ks++[kk]) (lv++[t.share]))) xs Rr:=by
            refine⟨by rw[yci];exact ro2.len,λk t' x' h1 h2=>?_,ro2.dis,λk a z=>by rw[yci];exact ro2.out k a z⟩
            by_cases hk:k=j
            .subst hk;rw[yax hjl]at h1;rw[hx]at h2;cases h1;cases h2;rw[exj,hAd];exact r3
            .rw[yb4 (ybc hk)]at h1;exact(ro2.rep k t' x' h1 h2).upd (oth k hk)
           have r4:=UC (C:=C) (fs:=fs) (p:=p) (dx:=dx) ro3 fp2 (by rw[Az (ybc pne)];exact hp2) dp
           obtain⟨S3,st3⟩:=S2.upd ht ey (p:=pd) (by rw[hA];exact .inr ⟨j,pdj⟩) r4 (B:=R0) (λa z=>.inl (by rw[hA];exact z)) (λj a z1 z2=>z2)
           exact q F2 _ σ _ ((e1.stp.trans e2.stp0).trans st3) S3
         .rw[if_neg hc]at q;exact q.elim
        |_=>exact λF' H' z CC e2 g2=>q.elim
end
variable {g':T->T->Option T}
section
variable {b:Expr}{t:T}
theorem r_con{v:V}{u:Value}(hg:Gl X x)(hm:X.mg x=some u)(rv:RelV v u)(hd:(x == ("__debug__":Str))=false)(r:∀F:Hp,Rp X.K F F t v R0):PE X (.Name x pos) (tM X.K E ca (mC t)) :=
 PE.weak (Ts hg hm rv hd) λσ H Q h=>by
  obtain⟨F,τ,R,S,q⟩:=h;exact q F H v R0 (Ext.refl S.fh) (r F).any
def Eb(g g':T->T->Option T)(ma mb mc:AJ):AJ:=λτ=>match ma τ,mb τ with
 |some (.v t _),some (.v u _)=>if t.flat && u.flat then (match g t u with
  |some (.bl true)=>(match mc τ with
   |some (.v w _)=>if w.flat then (match g' u w with
    |some (.bl k)=>some (.v (.bl k) false)
    |_=>none) else none
   |_=>none)
  |some (.bl false)=>some (.v (.bl false) false)
  |_=>none) else none
 |_,_=>none
theorem He{K:k9}{v:T}{b:Bool}{x:V}(g:Df K F H R v b x B)(h:v.flat=true):Rp K F' H' v x R0:=by
 cases b with
 |true=>obtain⟨_,A,_,r⟩:=g;exact r.flat_any h
 |false=>exact(show Rp K F H v x B from g).flat_any h
theorem RL(h:tM X.K E ca (Eb g g' ma mb mc) σ H Q):Ml (Bt X.K g) (Bt X.K g') (tM X.K E ca ma) (tM X.K E ca mb) (tM X.K E ca mc) σ H Q:=by
 obtain⟨F,τ,R,S,q⟩:=h;refine⟨F,τ,R,S,?_⟩;unfold Eb at q;cases h1:ma τ with
 |none=>simp only[h1]at q<;>exact q.elim
 |some r1 =>
  cases r1 with
  |x c=>simp only[h1]at q<;>exact q.elim
  |v t b1 =>
   cases h2:mb τ with
   |none=>simp only[h1,h2]at q<;>exact q.elim
   |some r2 =>
    cases r2 with
    |x c=>simp only[h1,h2]at q<;>exact q.elim
    |v u b2 =>
     simp only[h1,h2]at q
     by_cases hf:(t.flat && u.flat)=true
     .rw[if_pos hf]at q;rw[ya7]at hf;intro F1 H1 x B1 e1 g1;have S1:=S.ext e1;refine⟨F1,τ,R,S1,?_⟩;rw[h2];intro F2 H2 y B2 e2 g2;have S2:=S1.ext e2;have e12:Ext F H F2 H2 R0:=(e1.trans e2).mono λ_ z=>z.elim
      cases hg:g t u with
      |none=>simp only[hg]at q<;>exact q.elim
      |some k =>
       cases k with
       |bl k =>
        cases k with
        |false =>
         simp only[hg]at q;refine⟨F2,t,u,_,S2.fh,He g1 hf.1,He g2 hf.2,hg,λF3 H3 z C3 e3 r3=>⟨false,r3.bl_inv,?_⟩⟩
         rw[if_neg ybf];exact q F3 H3 _ R0 (e12.trans0 (e3.mono λ_ z=>z.elim)) (.bl false)
        |true =>
         simp only[hg]at q;refine⟨F2,t,u,_,S2.fh,He g1 hf.1,He g2 hf.2,hg,λF3 H3 z C3 e3 r3=>⟨true,r3.bl_inv,?_⟩⟩
         rw[if_pos rfl];have S3:=S2.ext e3;refine⟨F3,τ,R,S3,?_⟩;cases h3:mc τ with
         |none=>simp only[h3]at q<;>exact q.elim
         |some r3 =>
          cases r3 with
          |x c=>simp only[h3]at q<;>exact q.elim
          |v w b3 =>
           simp only[h3]at q
           by_cases hw:w.flat=true
           .rw[if_pos hw]at q;intro F4 H4 z4 B4 e4 g4;have S4:=S3.ext e4;cases hg':g' u w with
            |none=>simp only[hg']at q<;>exact q.elim
            |some k =>
             cases k with
             |bl k =>
              simp only[hg']at q;refine⟨F4,u,w,_,S4.fh,He g2 hf.2,He g4 hw,hg',λF5 H5 z5 C5 e5 r5=>?_⟩
              rw[r5.bl_inv];exact q F5 H5 _ R0 (e12.trans0 (((e3.trans e4).trans e5).mono λ_ z=>z.elim)) (.bl k)
             |_=>simp only[hg']at q<;>exact q.elim
           .rw[if_neg hw]at q;exact q.elim
       |_=>simp only[hg]at q<;>exact q.elim
     .rw[if_neg hf]at q;exact q.elim
theorem r_chn{op':CmpOp}(ho:Ak X (compareOp op) (Bt X.K g))(ho':Ak X (compareOp op') (Bt X.K g'))(ha:PE X a (tM X.K E ca ma))(hb:PE X b (tM X.K E ca mb))(hc:PE X c (tM X.K E ca mc))(hm:lastMarks [op,op'] [b,c]=false) :
  PE X (.Compare a [op,op'] [b,c] pos) (tM X.K E ca (Eb g g' ma mb mc)):=PE.weak (zgz ho ho' ha hb hc hm) λσ H Q h=>RL h
theorem zm4{op':CmpOp}(ho:Ak X (compareOp op) (Bt X.K g))(ho':Ak X (compareOp op') (Bt X.K g'))(ha:PE X a (tM X.K E ca ma))(hb:PE X b (tM X.K E ca mb))(hc:PE X c (tM X.K E ca mc))(hm:lastMarks [op,op'] [b,c]=false) :
  PT X (.Compare a [op,op'] [b,c] pos) (BN X.K E ca (Eb g g' ma mb mc)):=PT.weak (zgr ho ho' ha hb hc hm) λσ H Q h=>RL (Js h)
end
def MK(x:Str):It:=⟨λi _=>i<x.cps.size,λi H y H'=>H'=H/\∃c,x.cps[i]?=some c/\y=.str ⟨#[c]⟩,λi _=>x.cps.size<=i⟩
theorem zg7{K:k9}(x:Str)(t:Tok)(it:Addr):Turn P w K tg (MK x) [it] it (λi h=>h.IsStrIter it (strIterType x) x t i) where
 mem:=by simp
 obj:=λi h st b hb=>by
  have e:b=it:=by simpa using hb
  subst e;obtain⟨o,e,c,d⟩:=st;exact⟨o,e,λv z=>by rw[d]at z;cases z⟩
 keep:=λi h h' st k=>by
  obtain⟨o,e,c,d⟩:=st;exact⟨o,k it (by simp) o e,c,d⟩
 item:=by
  intro X hP hw hK hc i pins s σ H E I hf st hg;subst hP hw hK;have hi:i<x.cps.size:=hg;obtain⟨f0,f1,f2,f3,f4,f5⟩:=hf it (by simp)
  have BE:∀(h':Heap),h'.IsStrIter it (strIterType x) x t (i+1)->Heap.SameBut it s.heap h'->∃u,some (Value.str ⟨#[x.cps[i]]⟩ s.toks)=some u /\
   wpAny (model X.prog X.w) X.A (letOwnedTupleGo tg (.ref it) u) (λ_ s2=>∃y H',Inv X pins σ H' s2/\RelV y u/\(MK x).yld i H y H'/\s2.heap.IsStrIter it (strIterType x) x t (i+1)/\∀b∈[it],H' b=none) E { s with heap:=h',toks:=s.toks+1 }:=λh' st' sb=>by
   have I1:Inv X pins σ H { s with heap:=h',toks:=s.toks+1 }:=I.turned (t':=s.toks+1) (λb o hb e=>(sb.2 b hb).trans e) f0 f1 f3 f4 f5
   obtain⟨o,e,c,d⟩:=id st';refine⟨_,rfl,LI (s:={ s with heap:=h',toks:=s.toks+1 }) e c d ?_ ⟨.str ⟨#[x.cps[i]]⟩,H,I1,⟨_,rfl⟩,⟨rfl,_,yb9 hi,rfl⟩,st',λb hb=>(hf b hb).1⟩⟩
   unfold strIterType;split<;>decide
  cases ha:(x.cps.all λx=>decide (x<128)) with
  |true =>
   have e:strIterType x="str_ascii_iterator":=by unfold strIterType;rw[ha];rfl
   rw[e]at st BE ⊢;exact wpAny_pyNext_ascii_item st (yb9 hi) BE
  |false =>
   have e:strIterType x="str_iterator":=by unfold strIterType;rw[ha];rfl
   rw[e]at st BE ⊢;exact wpAny_pyNext_wide_item st (yb9 hi) BE
 done:=by
  intro X hP hw hK hc i pins s σ H E I hf st hg;subst hP hw hK;have hi:x.cps.size<=i:=hg;obtain⟨f0,f1,f2,f3,f4,f5⟩:=hf it (by simp)
  have n:x.cps[i]?=none:=Array.getElem?_eq_none hi;cases ha:(x.cps.all λx=>decide (x<128)) with
  |true =>
   have e:strIterType x="str_ascii_iterator":=by unfold strIterType;rw[ha];rfl
   rw[e]at st;exact wpAny_pyNext_ascii_end (I.ok.hd hc) st n λh' eb=>⟨rfl,I.turned (t':=s.toks) (λb o hb e=>eb b o hb e) f0 f1 f3 f4 f5⟩
  |false =>
   have e:strIterType x="str_iterator":=by unfold strIterType;rw[ha];rfl
   rw[e]at st;exact wpAny_pyNext_wide_end (I.ok.hd hc) st n λh' eb=>⟨rfl,I.turned (t':=s.toks) (λb o hb e=>eb b o hb e) f0 f1 f3 f4 f5⟩
 self:=λ_ i s Q E st h=>by
  cases ha:(x.cps.all λx=>decide (x<128)) with
  |true =>
   have e:strIterType x="str_ascii_iterator":=by unfold strIterType;rw[ha];rfl
   rw[e]at st;exact wpAny_pyIter_striter_ascii st h
  |false =>
   have e:strIterType x="str_iterator":=by unfold strIterType;rw[ha];rfl
   rw[e]at st;exact wpAny_pyIter_striter_wide st h
def iStrT(tl:TE):TI:=λσ H P=>tl σ H λx H1=>∃y,x=.str y/\P (MK y) H1
section
variable {l:Expr}{tl:TE}
theorem zmo(hl:PE X l tl):PI X tg l (iStrT tl):=by
 intro pins s σ H R I h;refine AZ (hl pins s σ H _ I h) λv s1 ⟨x,H1,I1,r1,q1⟩=>?_
 obtain⟨y,rfl,q⟩:=q1;obtain⟨t,rfl⟩:=(show ∃t,v=Value.str y t from r1);refine wpAny_pyIter_strU ?_;refine⟨s1.heap.objs.size,[s1.heap.objs.size],_,_,H1,rfl,I1.kept (t':=s1.toks) λb o e=>yaa _ e,zg7 y t _,⟨_,yaw _ rfl,rfl,rfl⟩,λb hb=>?_,q⟩
 have e:b=s1.heap.objs.size:=by simpa using hb
 subst e;exact I1.fpOk (yae _) (I1.hok.fresh (yae _))
def Fi(x:Str):List T:=x.cps.toList.map λc=>.str ⟨#[c]⟩
theorem zkf{K:k9}:Fd K (MK x) F (Fi x):=by
 intro i F' H' s1 s2;refine⟨λt ht=>?_,λe=>?_⟩
 .unfold Fi at ht;rw[ya3]at ht;obtain⟨c,e1,rfl⟩:=yah.mp ht;have hi:i<x.cps.size:=by simpa using (ya6.mp e1).1
  refine⟨hi,λy H'' z=>?_⟩
  obtain⟨rfl,c',hc,rfl⟩:=z;rw[ycx,hc]at e1;cases e1;exact⟨F',Ext.refl s2,.str _⟩
 .show x.cps.size<=i;rw[e];simp[Fi]
def Al(m:AJ):BI:=λτ=>match m τ with
 |some (.v (.str x) _)=>some (.v (Fi x) false)
 |_=>Hb m τ
theorem zm8(ha:PE X e (tM X.K E ca m)):PI X tg e (tI X.K E ca (Al m)):=by
 refine PI.weak (PI.or (T5 ha) (zmo ha)) λσ H P h=>?_
 obtain⟨F,τ,R,S,q⟩:=h
 by_cases hs:∃x b,m τ=some (.v (.str x) b)
 .obtain⟨x,b,hm⟩:=hs;have e:Al m τ=some (.v (Fi x) false):=by unfold Al;rw[hm]
  rw[e]at q;refine .inr ⟨F,τ,R,S,?_⟩;rw[hm];intro F1 H1 y B e1 g1;exact⟨x,GD g1,q F1 H1 _ (e1.mono λ_ z=>z.elim) zkf⟩
 .have e:Al m τ=Hb m τ:=by
   unfold Al;split
   .rename_i x b hm;exact absurd ⟨x,b,hm⟩ hs
   .rfl
  rw[e]at q;exact .inl ⟨F,τ,R,S,q⟩
end
open Classical in
def met(val:Nat->Key):Nat->List Key
 |0=>[]
 |i+1=>if val i∈met val i then met val i else met val i++[val i]
open Classical in
theorem V9(val:Nat->Key):∀i,(met val i).length<=i
 |0=>yae 0
 |i+1=>by
  have:=V9 val i;unfold met;split
  .omega
  .rw[yac,ybg]
   omega
section
variable {A:Around}{E:Value->Shared->Prop}
open Classical in
theorem Vh{knd:PySem.KeyKind prog w Key}{R:Result->Shared->Prop}{I:Addr}{fp wr:List Addr}{G:Array GenState->Array GenState->Prop}{n:Nat}{P:Nat->Value->Prop}{St:Nat->Shared->Prop}(W:WalksS prog w A.in1 I fp wr G n P St)(S:Addr)(hS:S∉fp)(val:Nat->Key)
  (hP:∀i v,P i v->knd.is (val i) v=true/\v.scannable=true) (hn:n+1<scanBound):∀(k i:Nat) (s:Shared),n - i=k->i<=n->St i s->Heap.SetOf knd s.heap S (λk'=>decide (k'∈met val i)) (met val i).length ->
   (∀s':Shared,Moved (S::wr) G s s'->Heap.SetOf knd s'.heap S (λk'=>decide (k'∈met val n)) (met val n).length->R (Except.ok (Flow.ret Value.none)) s') ->
   codeAny (model prog w) A (Code.builtin "set.update.loop" { pos:=[Value.ref S,Value.ref I] }) R s
 |0,i,s,hk,hi,st,hset,h=>by
  have e:i=n:=by omega
  subst e;refine yfj F.entry_set_update_loop ?_;rw[Around.under_plainId ydd];unfold Builtin.«set.update.loop»;refine yet (W.done s _ _ st λs' mv=>?_)
  refine yew ?_;refine h s' (mv.mono λb hb=>ya4 _ hb) ?_
  obtain⟨o,es,ep,t,h1,h2⟩:=hset;exact⟨o,es,ep,t,mv.heap S o (λz=>hS (W.sub S z)) h1,h2⟩
 |k+1,i,s,hk,hi,st,hset,h=>by
  have hi':i<n:=by omega
  refine yfj F.entry_set_update_loop ?_;rw[Around.under_plainId ydd];unfold Builtin.«set.update.loop»;refine yet (W.item i s _ _ hi' st λv s' pv st' mv=>?_)
  obtain⟨hk1,hk2⟩:=hP i v pv
  have hset':Heap.SetOf knd s'.heap S (λk'=>decide (k'∈met val i)) (met val i).length:=by
   obtain⟨o,es,ep,t,h1,h2⟩:=hset;exact⟨o,es,ep,t,mv.heap S o (λz=>hS (W.sub S z)) h1,h2⟩
  refine yet (yeu ?_);unfold setAdd;refine yeu (yet (knd.pyHash hk1 ?_));have hl:=V9 val i;refine wpAny_setAddHashed_of (s:={ s' with toks:=s'.toks+1 }) hk1 hk2 hset' (by omega) λh' sb hset2=>?_
  refine yew ⟨plainId_quiet ydd _,?_⟩;have st2:=W.frame (i+1) s' h' (s'.toks+1) st' (ycc _) λb hb o e=>(sb.2 b (λz=>hS (z▸hb))).trans e
  have mv2:Moved (S::wr) G s { s' with heap:=h',toks:=s'.toks+1 }:=(mv.mono λb hb=>ya4 _ hb).then_heap (ycc _) λb o hb e=>(sb.2 b (λz=>hb (by rw[z];exact ya5 ..))).trans e
  refine Vh W S hS val hP hn k (i+1) _ (by omega) (by omega) st2 ?_ λs'' mv3 hs3=>h s'' (mv2.trans W.gtrans mv3) hs3
  have hS:(λk'=>(decide (k'∈met val i) || decide (k'=val i)))=λk'=>decide (k'∈met val (i+1)):=funext λk'=>by
   conv=>rhs;unfold met
   by_cases hm:val i∈met val i
   .rw[if_pos hm]
    by_cases e:k'=val i
    .rw[e,yf6 hm];rfl
    .rw[yeo e,yd0]
   .rw[if_neg hm,yc8];simp only[yc7,yfc,yba,ya8]
  have hN:(if decide (val i∈met val i)=true then (met val i).length else (met val i).length+1)=(met val (i+1)).length:=by
   conv=>rhs;unfold met
   by_cases hm:val i∈met val i
   .rw[if_pos hm,if_pos (yf6 hm)]
   .rw[if_neg hm,if_neg (λz=>hm (yfh z)),yac,ybg]
  obtain⟨o,es,ep,t,h1,h2,h3,h4,h5,h6,h7,h8⟩:=hset2;refine⟨o,es,ep,t,h1,h2,h3,h4,λk'=>?_,h6,h7,h8.trans hN⟩
  rw[<- h5 k'];have e:=congrFun hS k';show decide (k'∈met val (i+1))=true ↔ _;rw[<- e]
end
open Classical in
theorem zc1{A:Around}{E:Value->Shared->Prop}{l:Addr}{items:Array Value}{knd:PySem.KeyKind prog w Key}{val:Nat->Key}{Q:Value->Shared->Prop}(hh:A.handled=none)(hl:s.heap.IsList l items)(hP:∀(i:Nat) (v:Value),items[i]?=some v->knd.is (val i) v=true/\v.scannable=true)(hb:items.size+1<scanBound)(h:∀(h':Heap) (tk:Nat),Heap.SetOf knd h' s.heap.objs.size (λk'=>decide (k'∈met val items.size)) (met val items.size).length->(∀(b:Nat) (o:Obj),b<s.heap.objs.size->s.heap.get? b=some o->h'.get? b=some o)->Q (.ref s.heap.objs.size) { s with heap:=h',toks:=tk }) :
  wpAny (model prog w) A (call (Value.type "set") [Value.ref l]) Q E s:=by
 obtain⟨c,tl,hmro⟩:=yd8.mro;have hmade:=yd8.made;have hsub:=yd8.sub;refine yfa (codeAny_of_tree ?_);refine yew ⟨Code.quiet_builtin _ (by decide +kernel),yfj F.entry_type_call ?_⟩
 have hu:=Around.under_plain (A:=A) (weight_type_call_type "set" [Value.ref l] []) rfl;have h1:=yd8.notType;have h2:=yd8.canCreate;have hct:=F.typeCall_set_1 (Value.ref l);show wpAny (model prog w) (A.under (Code.builtin "type.__call__" { pos:=[Value.type "set",Value.ref l] })) _ _ _ s;rw[hu];unfold Builtin.«type.__call__»;refine yfm (by rw[h1];rfl) (yfm (by rw[h2];rfl) ?_)
 refine yet (yfl hct (yet (yfl hmro (yfm rfl (yet (yfl hmade (yet (yew (yet (yeu (yfa (yf7 (code_set_new_1 (E:=λ_ _=>False) (Value.ref l) (Q₁:=λv s'=>∃led:Bool,v=.ref s.heap.objs.size/\s'={ s with heap:=s.heap.push { cls:=.type "set",data:=.set #[] 0 (SetTable.fresh 0 0 led) } }) λled=>⟨led,rfl,rfl⟩) λr s₁ hr=>?_))))))))))))
 cases r with
 |error e=>exact False.elim hr
 |ok fl =>
  cases fl with
  |next=>exact False.elim hr
  |brk=>exact False.elim hr
  |cont=>exact False.elim hr
  |ret v =>
   obtain⟨led,rfl,rfl⟩:=(show ∃led:Bool,v=.ref s.heap.objs.size/\s₁={ s with heap:=s.heap.push { cls:=.type "set",data:=.set #[] 0 (SetTable.fresh 0 0 led) } } from hr)
   have ho:(s.heap.push { cls:=.type "set",data:=.set #[] 0 (SetTable.fresh 0 0 led) }).get? s.heap.objs.size=some { cls:=.type "set",data:=.set #[] 0 (SetTable.fresh 0 0 led) }:=yaw _ rfl;have hT:Shared.TypeIs { s with heap:=s.heap.push { cls:=.type "set",data:=.set #[] 0 (SetTable.fresh 0 0 led) } } (.ref s.heap.objs.size) "set":=⟨_,ho,rfl⟩
   have hin:=yd8.init;refine yet (yfn hT hsub (yfm rfl (yet (yeu ?_))));unfold callSpecial?;refine yet (wpAny_specialOf hT hin.lookup (yeu (yet (yfl (hin.bind _) (yet (yfa (yf7 (R:=wants (λv s'=>v=.none/\∃tk h',s'={ s with heap:=h',toks:=tk }/\Heap.SetOf knd h' s.heap.objs.size (λk'=>decide (k'∈met val items.size)) (met val items.size).length/\∀(b:Nat) (o:Obj),b<s.heap.objs.size->s.heap.get? b=some o->h'.get? b=some o) λ_ _=>False) (yfk hin.plain F.entry_set_init (check_set_init_1 hT ?_)) λr s₂ hr₂=>?_)))))))
   .unfold Builtin.«set.__init__» noKeywords;refine yet (wpAny_ite_true rfl (yew ?_));unfold typeNameOfCut shownTypeOf;refine yet (yet (yet (wpAny_typeOf hT (yfm (by decide +kernel) (yew ?_)))))
    refine yfl (rfl:typeNameCut 200 (Value.type "set")=pure _) ?_;refine yet (yfl (rfl:checkCount _ 0 1 1=pure ()) ?_);refine yet (yew ?_);unfold setUsed setState;refine yet (yet (yet (wpAny_load ho (yfm rfl (yew (yew (yfm rfl ?_)))))));obtain⟨ol,hol,hcl,nl,hdl⟩:=id hl;have hol2:(s.heap.push { cls:=.type "set",data:=.set #[] 0 (SetTable.fresh 0 0 led) }).get? l=some ol:=yaa _ hol;have hTl:Shared.TypeIs { s with heap:=s.heap.push { cls:=.type "set",data:=.set #[] 0 (SetTable.fresh 0 0 led) } } (.ref l) "list":=⟨_,hol2,hcl⟩
    unfold Builtin.Frozenset.updateFrom Builtin.Frozenset.isAnySet;refine yet (yet (yet (yfn hTl F.sub_list_set ?_)));have hl2:(s.heap.push { cls:=.type "set",data:=.set #[] 0 (SetTable.fresh 0 0 led) }).IsList l items:=⟨ol,hol2,hcl,nl,hdl⟩;refine yfn hTl F.sub_list_frozenset (yfm rfl (yet (wpAny_typeOf hTl (yfm (by decide +kernel) (yet (yez hl2 ?_))))))
    have lt:l<s.heap.objs.size:=yaf hol;have hsz:(s.heap.push { cls:=.type "set",data:=.set #[] 0 (SetTable.fresh 0 0 led) }).objs.size=s.heap.objs.size+1:=ybw _ _;generalize hhp:s.heap.push { cls:=.type "set",data:=.set #[] 0 (SetTable.fresh 0 0 led) }=hp at *
    have hS:s.heap.objs.size∉[hp.objs.size,l]:=by
     rw[hsz];intro z
     rcases ya9.mp z with e|e
     .exact absurd e (yav (yca _))
     .exact absurd (ya8.mp e) (Nat.ne_of_gt lt)
    refine yet (wpAny_runValue ?_);refine Vh (knd:=knd) (A:=A.in1.in1) (Walks.list (A:=A.in1.in1.in1) hh hp.objs.size l (by rw[hsz];exact yav (ycn lt)) items).toS s.heap.objs.size hS val (λi v e=>hP i v e) hb items.size 0 _ (by omega) (ybr _) ⟨?_,?_⟩ ?_ λs' mv hs'=>?_
    .exact⟨_,yaw _ rfl,rfl,rfl⟩
    .exact⟨ol,yaa _ hol2,hcl,nl,hdl⟩
    .letI:BEq Key:=⟨λa b=>decide (a=b)⟩
     haveI:LawfulBEq Key:={ eq_of_beq:=λh=>yfh h,rfl:=yf6 rfl }
     have e0:=(setObjOf_fresh (prog:=prog) (w:=w) (knd:=knd) led).setOf (h:=hp.push { cls:=.type "list_iterator",data:=.fields #[.ref l,.int 0 0] }) (a:=s.heap.objs.size) (yaa _ ho) (by decide)
     obtain⟨o,es,ep,t,g1,g2,g3,g4,g5,g6,g7,g8⟩:=e0;refine⟨o,es,ep,t,g1,g2,g3,g4,λk'=>?_,g6,g7,g8⟩
     rw[<- g5 k'];simp[met]
    .refine yew (yew ?_)
     have b2:∀(b:Nat) (o:Obj),b<s.heap.objs.size->s.heap.get? b=some o->s'.heap.get? b=some o:=λb o hb e=>by
      refine mv.heap b o (λz=>?_) (yaa _ (by rw[<- hhp];exact yaa _ e))
      rcases ya9.mp z with e|e
      .exact absurd e (yav hb)
      .have e:=ya8.mp e;rw[hsz]at e;exact absurd e (yav (ycn hb))
     have m1:=mv.gens;have m2:=mv.drawn;have m3:=mv.os;obtain⟨hh',g',d',t',os'⟩:=s';refine⟨rfl,t',hh',?_,hs',b2⟩;simp only at m1 m2 m3;rw[m1,m2,m3]
   .cases r with
    |error e=>exact False.elim hr₂
    |ok fl =>
     cases fl with
     |next=>exact False.elim hr₂
     |brk=>exact False.elim hr₂
     |cont=>exact False.elim hr₂
     |ret v =>
      obtain⟨rfl,tk,h',rfl,hs,hk⟩:=(show v=.none/\∃tk h',s₂={ s with heap:=h',toks:=tk }/\Heap.SetOf knd h' s.heap.objs.size (λk'=>decide (k'∈met val items.size)) (met val items.size).length/\∀(b:Nat) (o:Obj),b<s.heap.objs.size->s.heap.get? b=some o->h'.get? b=some o from hr₂)
      refine yew (yfm rfl (yew ?_));exact h h' tk hs hk
def Q2(P:Program)(w:World)(a:Addr)(ks:List Key):HO:=.ext λh=>Heap.SetOf (Cr P w) h a (λk=>@decide (k∈ks) (Classical.propDecidable _)) ks.length
section
theorem zfx(hc:X.calm=true):C4 X (.type "set") (λxs H Q=>∃(p:Addr) (ys:List Str),xs=[.ref p]/\A9 X.K H p (ys.map V.str)/\ys.length<1000/\∀a,H a=none->Q (.ref a) (upd H a (Q2 X.prog X.w a (met (λi=>Sum.inr (ys.getD i Str.empty)) ys.length)))):=by
 intro pins s σ H xs us Q I r h;obtain⟨p,ys,rfl,hq,hz,q⟩:=h;obtain⟨u,rfl,rx⟩:=Ek r;cases rx;obtain⟨its,r',pl,_⟩:=I.list hq;have hlen:=r'.length;rw[ya1]at hlen;have hsz:its.toArray.size=ys.length:=by rw[yam];exact hlen.symm
 refine zc1 (knd:=Cr X.prog X.w) (val:=λi=>Sum.inr (ys.getD i Str.empty)) (I.ok.hd hc) pl.isList (λi v e=>?_) (by rw[hsz];exact yan (Nat.succ_lt_succ hz) (by decide)) λh' tk hs kp=>?_
 .have e':its[i]?=some v:=by simpa using e
  have hi:i<ys.length:=by rw[hlen];exact(ya6.mp e').1
  have hx:(ys.map V.str)[i]?=some (.str ys[i]):=by rw[ya3,ya0 hi];rfl
  obtain⟨u,e2,ru⟩:=r'.get hx;rw[e']at e2;cases e2;obtain⟨t,rfl⟩:=(show ∃t,v=Value.str ys[i] t from ru);refine⟨?_,rfl⟩;show F6 (Sum.inr (ys.getD i Str.empty)) (Value.str ys[i] t)=true;rw[ya2,ya0 hi];show(ys[i] == ys[i])=true;exact yff _
 .rw[hsz]at hs;refine⟨.ref s.heap.objs.size,_,I.laid (a:=s.heap.objs.size) (o:=Q2 X.prog X.w s.heap.objs.size (met (λi=>Sum.inr (ys.getD i Str.empty)) ys.length)) (t':=tk) (λb o e=>kp b o (yaf e) e) (yae _) ⟨?_,?_,?_⟩,rfl,q _ (I.hok.fresh (yae _))⟩
  .exact hs
  .obtain⟨o,es,ep,t,g1,_⟩:=hs;exact⟨o,g1⟩
  .intro h1 h2 p1 k;obtain⟨o,es,ep,t,g1,g2⟩:=p1;exact⟨o,es,ep,t,k o g1,g2⟩
theorem zfy:C4 X (.builtin "len") (λxs H Q=>∃a ks,xs=[.ref a]/\H a=some (Q2 X.prog X.w a ks)/\Q (.int ks.length) H):=by
 intro pins s σ H xs us Q I r h;obtain⟨a,ks,rfl,ha,q⟩:=h;obtain⟨u,rfl,rx⟩:=Ek r;cases rx;obtain⟨⟨o,es,ep,t,g1,g2,g3,g4,g5,g6,g7,g8⟩,_⟩:=(show _/\_ from I.hok a _ ha)
 have hb:((es.size:Nat):Int)<2 ^ 63:=by
  have:scanBound<=2 ^ 40:=by decide
  have g6':es.size<scanBound:=g6
  omega
 refine call_len_set g1 g2 g3 g7 hb ⟨.int (es.size:Int),H,I.tok _,⟨_,rfl⟩,?_⟩;rw[show es.size=ks.length from g8];exact q
end
def EN:List T->Option (List Str)
 |[]=>some []
 |.str x::r=>(match EN r with
  |some l=>some (x::l)
  |none=>none)
 |_::_=>none
theorem Mn{K:k9}{F:Hp}:∀{l:List T} {ys:List Str} {xs:List V},EN l=some ys->Ad K F l xs->xs=ys.map V.str
 |[],ys,xs,h,r=>by
  cases h;exact r.inv0
 |t::l,ys,xs,h,r=>by
  obtain⟨x,xs',rfl,r1,r2⟩:=r.inv;unfold EN at h;split at h
  .rename_i e;cases e
  .rename_i y r e;cases e;split at h
   .rename_i l' hl;cases h;rw[r1.str_inv,Mn hl r2]
    rfl
   .cases h
  .cases h
def Ma(ys:List Str):Nat:=(met (λi=>Sum.inr (ys.getD i Str.empty)) ys.length).length
def IL:T->Option T
 |.nd _ .lst l=>(match EN l with
  |some ys=>if ys.length<1000 then some (.int (Ma ys)) else none
  |none=>none)
 |_=>none
section
variable {p p3:Pos}
theorem r_unq(hc:X.calm=true)(hg:Gl X "len")(hm:X.mg "len"=none)(hg2:Gl X "set")(hm2:X.mg "set"=none)(ha:PE X e (tM X.K E ca m))(he:starEach [e] X.env=[(false,eval e X.env)]) :
  PE X (.Call (.Name "len" p) [.Call (.Name "set" p2) [e] [] p3] [] pos) (tM X.K E ca (Bf (g1 IL) (AB m AE))):=by
 have hset:=Tu (pos:=p3) (p:=p2) (zfx hc) hg2 hm2 (show bootBuiltins "set"=some (.type "set") from rfl) (EC ha E6 he) (by decide) (by decide) he rfl
 refine PE.weak (KY (zfy (X:=X)) hg hm PySem.boot_len (EC hset E6 rfl) (by decide) (by decide) rfl rfl) λσ H Q h=>?_
 refine(G5 (G6 h)).mono λx H1 h1=>?_
 obtain⟨F,ts,v,fh,rs,e,q⟩:=G4 h1;unfold g1 at e;split at e
 .obtain⟨x1,xs1,e1,r1,rs1⟩:=rs.inv;cases e1;unfold IL at e;split at e
  .split at e
   .rename_i o l ys hy;split at e
    .rename_i hz;cases e;obtain⟨pp,zs,rfl,_,n,kd⟩:=EW r1;have hF:F pp=some (.lst zs):=n;refine⟨pp,ys,rfl,A9.of (by rw[<- Mn hy kd];exact fh _ _ hF),hz,λa ha=>⟨a,_,rfl,Cd,?_⟩⟩
     exact q F _ _ R0 ((Ext.newO fh ha).mono λ_ z=>z.elim) (Rp.int _)
    .cases e
   .cases e
  .cases e
 .cases e
end
def EI:T->T->Option T
 |.int i,.int j=>some (.bl (decide (i<=j)))
 |.str x,.str y=>some (.bl (!(@decide (y.cps.toList<x.cps.toList) (Classical.propDecidable _))))
 |_,_=>none
section
variable {k:Expr}
theorem zjr:Ak X (compareOp .LtE) (Bt X.K EI):=by
 intro pins s σ H x y v u Q I rx ry h;obtain⟨F,t1,t2,r,fh,r1,r2,e,q⟩:=h;unfold EI at e;split at e
 .cases e;rw[r1.int_inv]at rx;rw[r2.int_inv]at ry;exact UA pins s σ H _ _ v u Q I rx ry ⟨_,_,rfl,rfl,q.bl fh⟩
 .rename_i a b;cases e;rw[r1.str_inv]at rx;rw[r2.str_inv]at ry;obtain⟨t,rfl⟩:=(show ∃t,v=Value.str a t from rx);obtain⟨t',rfl⟩:=(show ∃t,u=Value.str b t from ry);refine PySem.P.le_str ⟨.bl _,H,I,rfl,?_⟩;have q1:=q.bl fh;rw[show(!decide (b.cps.toList<a.cps.toList))=!(@decide (b.cps.toList<a.cps.toList) (Classical.propDecidable _)) from congrArg _ (by rw[yc8,yfc,@decide_eq_true_eq _ (Classical.propDecidable _)])]
  exact q1
 .cases e
end
def Bm(ys:List Str)(y:Str):Option Nat:=ys.findIdx? λx=>@decide (x=y) (Classical.propDecidable _)
theorem zf3{ys:List Str}(h:Bm ys y=some j):∃hj:j<ys.length,ys[j]=y/\∀(m:Nat) (hm:m<ys.length),m<j->ys[m]≠y:=by
 unfold Bm at h;obtain⟨h1,h2,h3⟩:=ybj.mp h;refine⟨h1,@of_decide_eq_true _ (Classical.propDecidable _) h2,λm hm hmj e=>?_⟩
 exact h3 m hmj (@decide_eq_true _ (Classical.propDecidable _) e)
theorem Xy:(x.cps.toList == y.cps.toList)=true ↔ x=y:=by
 rw[yfb];constructor
 .intro h;cases x;cases y;simp only at h;rw[Array.toList_inj.mp h]
 .intro h;rw[h]
def zmc:V->List V->Hp->VK->Prop:=λx vs H Q=>∃(l:Addr) (ys:List Str) (y:Str) (j:Nat),x=.ref l/\vs=[.str y]/\H l=some (.lst (ys.map V.str))/\Bm ys y=some j/\ys.length<1000000/\Q (.int j) H
section
variable {k:Expr}
theorem zha:J2 X "list.index" zmc:=by
 intro pins s σ H x vs v us Q I rx rv h;obtain⟨l,ys,y,j,rfl,rfl,hH,hj,hz,q⟩:=h;cases rx;obtain⟨u,rfl,ru⟩:=rv.one;obtain⟨z,its,n,r,hl,e⟩:=I.lstM hH;obtain⟨t,rfl⟩:=(show ∃t,u=Value.str y t from ru);obtain⟨hj1,hj2,hj3⟩:=zf3 hj;rw[ya1]at hl
 have at_:∀(i:Nat) (hi:i<its.toArray.size),∃(t':Tok) (hi':i<ys.length),its.toArray[i]=Value.str ys[i] t':=λi hi=>by
  have hi0:i<its.length:=by simpa using hi
  have hi':i<ys.length:=by omega
  have hx:(ys.map V.str)[i]?=some (.str ys[i]):=by rw[ya3,ya0 hi'];rfl
  obtain⟨u,e2,ru⟩:=r.get hx;obtain⟨t',rfl⟩:=(show ∃t',u=Value.str ys[i] t' from ru);rw[ya0 hi0]at e2;refine⟨t',hi',?_⟩
  simpa using e2
 let ev:Value->Bool:=λv=>match v with
  |.str x _=>x.cps.toList == y.cps.toList
  |_=>false
 have evs:∀(x:Str) (t':Tok),ev (.str x t')=(x.cps.toList == y.cps.toList):=λ_ _=>rfl
 have hjs:j<its.toArray.size:=by rw[yam];omega
 refine yf5 F.slot_list_index ⟨_,e,rfl⟩ F.entry_list_index (F.args_list_index_2 _ _) (MeetsSeq.list_index l its.toArray n (.str y t) ev (λy' hy'=>?_) j hjs (by omega) ?_ λm hm hmj=>?_) ⟨e,.int j,H,I.tok _,⟨_,rfl⟩,q⟩
 .obtain⟨i,hi,rfl⟩:=Array.mem_iff_getElem.mp hy';obtain⟨t',hi',e1⟩:=at_ i hi;rw[e1,evs _ t'];exact SeqRoads2.EqGives.str _ _ _ _
 .obtain⟨t',hi',e1⟩:=at_ j hjs;rw[e1,evs _ t'];exact Xy.mpr hj2
 .obtain⟨t',hi',e1⟩:=at_ m hm;rw[e1,evs _ t',Bool.eq_false_iff];exact λz=>hj3 m hi' hmj (Xy.mp z)
def Gg(m mk:AJ):AJ:=λτ=>match m τ with
 |some (.v (.nd false .lst l) false)=>(match EN l with
  |some ys=>(match mk τ with
   |some (.v (.str y) _)=>(match Bm ys y with
    |some j=>if ys.length<1000000 then some (.v (.int j) false) else none
    |none=>none)
   |_=>none)
  |none=>none)
 |_=>none
theorem ziu(ho:PE X o (tM X.K E ca m))(hk:PE X k (tM X.K E ca mk))(hbase:attributeBase o "index" X.env (eval o X.env)=eval o X.env)(hs:starEach [k] X.env=[(false,eval k X.env)])(hline:(apos.endLine == cpos.line)=true) :
  PE X (.Call (.Attribute o "index" apos) [k] [] cpos) (tM X.K E ca (Gg m mk)):=by
 refine PE.weak (Ig ydc PySem.F.slot_list_index PySem.F.type_list_index zha ho (EC hk E6 hs) hbase (by rw[hs];rfl) hline hs rfl) λσ H Q h=>?_
 obtain⟨F,τ,R,S,q⟩:=h;refine⟨F,τ,R,S,?_⟩;unfold Gg at q;cases hm:m τ with
 |none=>simp only[hm]at q<;>exact q.elim
 |some r =>
  cases r with
  |x c=>simp only[hm]at q<;>exact q.elim
  |v t b =>
   by_cases ht:∃l,t=.nd false .lst l/\b=false
   .obtain⟨l,rfl,rfl⟩:=ht;simp only[hm]at q;intro F1 H1 x B e1 g1;have g1':Rp X.K F1 H1 (.nd false .lst l) x B:=g1;obtain⟨p,rfl⟩:=g1'.ref_inv;obtain⟨xs,hN,hr⟩:=Ad.node g1';have hF:F1 p=some (.lst xs):=hN;cases hy:EN l with
    |none=>simp only[hy]at q<;>exact q.elim
    |some ys =>
     simp only[hy]at q;have hxs:=Mn hy hr;refine⟨.inl ⟨rfl,xs,A9.of (e1.fh _ _ hF)⟩,F1,τ,R,S.ext e1,?_⟩;cases hk2:mk τ with
     |none=>simp only[hk2]at q<;>exact q.elim
     |some r =>
      cases r with
      |x c=>simp only[hk2]at q<;>exact q.elim
      |v t2 b2 =>
       cases t2 with
       |str y =>
        simp only[hk2]at q;intro F2 H2 z B2 e2 g2;have hz:=GD g2;subst hz;cases hj:Bm ys y with
        |none=>simp only[hj]at q<;>exact q.elim
        |some j =>
         simp only[hj]at q
         by_cases hl:ys.length<1000000
         .rw[if_pos hl]at q;refine⟨p,ys,y,j,rfl,rfl,by rw[<- hxs];exact e2.hh _ _ (e1.fh _ _ hF),hj,hl,?_⟩
          exact q F2 H2 _ R0 ((e1.trans e2).mono λ_ z=>z.elim) (.int _)
         .rw[if_neg hl]at q;exact q.elim
       |_=>simp only[hk2]at q<;>exact q.elim
   .exfalso
    split at q
    .rename_i l hh;rw[hm]at hh;cases hh;exact ht ⟨l,rfl,rfl⟩
    .exact q
end
section
variable {n:Str}{np hpos:Pos}{body suite:List Stmt}{b₀:Stmt}{h:AI}{cs:List (Str×Addr)}
end
def isXT(tb:List (Addr×Bool)):T->Option T
 |.obj (.exn C) _=>(match tb.lookup C with
  |some b=>some (.bl b)
  |none=>none)
 |_=>none
section
variable {p:Pos}{c:Str}{v:V}{tb:List (Addr×Bool)}
end
section
variable {it:Expr}{ret:List Stmt}{k:T}{ip:Pos}
end
section
variable {it:Expr}{t:T}{bpos:Pos}
end
section
variable {k:Expr}{p:Pos}
def rSlS:V->Option Int->Option Int->Hp->VK->Prop:=λx lo hi H Q=>∃z:Str,x=.str z/\z.length<=BP/\Q (.str (Txt.slice z lo hi)) H
theorem zlm:Q1 X rSlS:=by
 intro pins s σ H x v vl vu lo hi sl Q I rx hs pl pu q;obtain⟨z,rfl,hz,q⟩:=q;obtain⟨t,rfl⟩:=(show ∃t,v=Value.str z t from rx);obtain⟨ob,ho,hc,hd⟩:=hs;rw[EH]at hz;cases pl with
 |none =>
  cases pu with
  |none=>exact⟨"str",_,ycq.lookup,yf2 _ _ _,yfo (l:=none) (u:=none) (st:=none) ⟨ob,ho,hc,hd⟩ rfl (yfp ⟨yak (yel z _ _) hz,λt' k=>⟨.str _,H,I.tok _,⟨_,rfl⟩,q⟩⟩)⟩
  |int j uj=>exact⟨"str",_,ycq.lookup,yf2 _ _ _,yfo (l:=none) (u:=some (j,uj)) (st:=none) ⟨ob,ho,hc,hd⟩ rfl (yfp ⟨yak (yel z _ _) hz,λt' k=>⟨.str _,H,I.tok _,⟨_,rfl⟩,q⟩⟩)⟩
 |int i ui =>
  cases pu with
  |none=>exact⟨"str",_,ycq.lookup,yf2 _ _ _,yfo (l:=some (i,ui)) (u:=none) (st:=none) ⟨ob,ho,hc,hd⟩ rfl (yfp ⟨yak (yel z _ _) hz,λt' k=>⟨.str _,H,I.tok _,⟨_,rfl⟩,q⟩⟩)⟩
  |int j uj=>exact⟨"str",_,ycq.lookup,yf2 _ _ _,yfo (l:=some (i,ui)) (u:=some (j,uj)) (st:=none) ⟨ob,ho,hc,hd⟩ rfl (yfp ⟨yak (yel z _ _) hz,λt' k=>⟨.str _,H,I.tok _,⟨_,rfl⟩,q⟩⟩)⟩
def Ds(ma:AJ)(ml mh:Option (AJ)):AJ:=λτ=>match ma τ with
 |some (.v (.str z) _)=>(match Ea ml τ,Ea mh τ with
  |some lo,some hi=>if z.length<=BP then some (.v (.str (Txt.slice z lo hi)) false) else none
  |_,_=>none)
 |_=>none
theorem zgo{lo hi:Option Expr}{ml mh:Option (AJ)}(ha:PE X a (tM X.K E ca ma))(hl:PO X lo (G3 X.K ml))(hh:PO X hi (G3 X.K mh)):PE X (.Subscript a (.Slice lo hi none p2) pos) (tM X.K E ca (Ds ma ml mh)):=by
 refine PE.weak (Tp zlm ha hl hh) λσ H Q h=>?_
 obtain⟨F,τ,R,S,q⟩:=h;refine⟨F,τ,R,S,?_⟩;unfold Ds at q;cases hm:ma τ with
 |none=>rw[hm]at q;exact q.elim
 |some r =>
  rw[hm]at q;cases r with
  |x c=>exact q.elim
  |v t bb =>
   cases t with
   |str z =>
    simp only at q;intro F1 H1 x B e1 g1;have hx:=GD g1;subst hx;have e1':Ext F H F1 H1 R0:=e1.mono λ_ z=>z.elim
    have S1:=S.ext e1';cases h1:Ea ml τ with
    |none=>simp only[h1]at q<;>exact q.elim
    |some lo' =>
     refine⟨F1,τ,R,lo',S1,h1,λF2 H2 e2=>?_⟩
     have S2:=S1.ext e2;cases h2:Ea mh τ with
     |none=>simp only[h1,h2]at q<;>exact q.elim
     |some hi' =>
      simp only[h1,h2]at q;refine⟨F2,τ,R,hi',S2,h2,λF3 H3 e3=>?_⟩
      by_cases hz:z.length<=BP
      .rw[if_pos hz]at q;exact⟨z,rfl,hz,q F3 H3 _ R0 (e1'.trans0 (e2.trans0 e3)) (.str _)⟩
      .rw[if_neg hz]at q;exact q.elim
   |_=>exact q.elim
def rJoin:V->List V->Hp->VK->Prop:=λx vs H Q=>∃(sep:Str) (l:Addr) (ys:List Str),x=.str sep/\vs=[.ref l]/\H l=some (.lst (ys.map V.str))/\(ys.map (·.length)).sum+ys.length * sep.length<=BP/\Q (.str (Txt.join sep ys)) H
theorem RX:∀{ys:List Str} {its:List Value},Ab (ys.map V.str) its->StrsAre its ys
 |[],its,r=>by
  cases r;exact .nil
 |y::ys,its,r=>by
  cases r with
  |cons h t =>
   obtain⟨tk,rfl⟩:=h;exact .cons _ _ (RX t)
theorem zk2:J2 X "str.join" rJoin:=by
 intro pins s σ H x vs v us Q I rx rv h;obtain⟨sep,l,ys,rfl,rfl,hH,hz,q⟩:=h;obtain⟨t,rfl⟩:=(show ∃t,v=Value.str sep t from rx);obtain⟨u,rfl,ru⟩:=rv.one;cases ru;obtain⟨its,r,pl,_⟩:=I.list (A9.of hH);refine join_list (items:=its.toArray) pl.isList (RX r) (by rw[EH]at hz;exact hz) λt' k=>⟨.str _,H,I.tok _,⟨_,rfl⟩,q⟩
def Gf(m mk:AJ):AJ:=λτ=>match m τ with
 |some (.v (.str sep) _)=>(match mk τ with
  |some (.v (.nd _ .lst l) _)=>(match EN l with
   |some ys=>if (ys.map (·.length)).sum+ys.length * sep.length<=BP then some (.v (.str (Txt.join sep ys)) false) else none
   |none=>none)
  |_=>none)
 |_=>none
theorem zni{K:k9}{o:Bool}{x:V}(s:A7 F H)(h:Rp K F H (.nd o .lst l) x A):∃p xs,x=.ref p/\H p=some (.lst xs)/\l.length=xs.length/\∀(i:Nat) (t:T) (x:V),l[i]?=some t->xs[i]?=some x->∃B,Rp K F H t x B:=by
 cases h with
 |shr h e c=>exact⟨_,_,rfl,s _ _ h,e,λi t x h1 h2=>⟨_,c i t x h1 h2⟩⟩
 |own hk R f h e c d dp o=>exact⟨_,_,rfl,h,e,λi t x h1 h2=>⟨_,c i t x h1 h2⟩⟩
theorem RW{K:k9}{F H:Hp}:∀{l:List T} {ys:List Str} {xs:List V},EN l=some ys->l.length=xs.length->(∀(i:Nat) (t:T) (x:V),l[i]?=some t->xs[i]?=some x->∃B,Rp K F H t x B)->xs=ys.map V.str
 |[],ys,xs,h,e,_=>by
  cases h;cases xs with
  |nil=>rfl
  |cons _ _=>simp at e
 |t::l,ys,[],h,e,_=>by simp at e
 |t::l,ys,x::xs,h,e,f=>by
  unfold EN at h;split at h
  .cases ‹_::_=[]›
  .rename_i z r hh;cases hh;split at h
   .rename_i l' hl;cases h;obtain⟨B,r0⟩:=f 0 _ x rfl rfl;have ih:xs=l'.map V.str:=RW hl (by simpa using e) λi t x h1 h2=>f (i+1) t x (by simpa using h1) (by simpa using h2)
    rw[r0.str_inv,ih]
    rfl
   .cases h
  .cases h
theorem zm7(ho:PE X o (tM X.K E ca m))(hk:PE X k (tM X.K E ca mk))(hbase:attributeBase o "join" X.env (eval o X.env)=eval o X.env)(hs:starEach [k] X.env=[(false,eval k X.env)])(hline:(apos.endLine == cpos.line)=true) :
  PE X (.Call (.Attribute o "join" apos) [k] [] cpos) (tM X.K E ca (Gf m mk)):=by
 refine PE.weak (Ig PySem.F.plainAttrs_str PySem.F.slot_str_join PySem.F.type_str_join zk2 ho (EC hk E6 hs) hbase (by rw[hs];rfl) hline hs rfl) λσ H Q h=>?_
 obtain⟨F,τ,R,S,q⟩:=h;refine⟨F,τ,R,S,?_⟩;unfold Gf at q;cases hm:m τ with
 |none=>rw[hm]at q;exact q.elim
 |some r =>
  rw[hm]at q;cases r with
  |x c=>exact q.elim
  |v t b =>
   cases t with
   |str sep =>
    simp only at q;intro F1 H1 x B e1 g1;have hx:=GD g1;subst hx;have e1':Ext F H F1 H1 R0:=e1.mono λ_ z=>z.elim
    refine⟨rfl,F1,τ,R,S.ext e1',?_⟩;cases hk2:mk τ with
    |none=>rw[hk2]at q;exact q.elim
    |some r2 =>
     rw[hk2]at q;cases r2 with
     |x c=>exact q.elim
     |v t2 b2 =>
      cases t2 with
      |nd o2 k2 l =>
       cases k2 with
       |lst =>
        simp only at q;intro F2 H2 z B2 e2 g2
        have hr:∃A,Rp X.K F2 H2 (.nd o2 .lst l) z A:=by
         cases b2 with
         |true=>obtain⟨_,A,_,r⟩:=g2;exact⟨A,r⟩
         |false=>exact⟨_,g2⟩
        obtain⟨A,r⟩:=hr;obtain⟨p,xs,rfl,hH,el,kd⟩:=zni e2.fh r;cases hy:EN l with
        |none=>simp only[hy]at q<;>exact q.elim
        |some ys =>
         simp only[hy]at q;have hxs:=RW hy el kd
         by_cases hz:(ys.map (·.length)).sum+ys.length * sep.length<=BP
         .rw[if_pos hz]at q;exact⟨sep,p,ys,rfl,rfl,by rw[<- hxs];exact hH,hz,q F2 H2 _ R0 ((e1'.trans e2).mono λ_ z=>z.elim) (.str _)⟩
         .rw[if_neg hz]at q;exact q.elim
       |_=>exact q.elim
      |_=>exact q.elim
   |_=>exact q.elim
def rIxD:R2:=λx y H Q=>∃a kvs k v,x=.ref a/\y=.str k/\H a=some (.dK kvs)/\Dh kvs (Sum.inr k)=some v/\Q v H
theorem zo0(hu:X.A.units+1<cLine):FJ X rIxD:=by
 intro value slice pins s σ H x y v u Q I rx ry h hs;obtain⟨a,kvs,k,w,rfl,rfl,hH,hv,q⟩:=h;cases rx;have g:J4 H a (kV (Sum.inr k)) (some w):=hv▸J4.k hH
 have hT:s.TypeIs (.ref a) "dict":=by
  obtain⟨_,_,vs,_,dd⟩:=Xn I.hok hH;exact dd.typeIs
 unfold subscriptTail;refine yet ?_;rw[getitemInPython_of_ne hT.not_modules];refine yet (wpAny_specialOf hT PySem.F.slot_dict_getitem.lookup ?_)
 have BE:wpAny (model X.prog X.w) X.A (subscripted slice false (.ref a) u) (λr s₃=>wpAny (model X.prog X.w) X.A (letTemporaryGo value (.ref a) r >>= λ_=>pure r) (EP X pins σ Q) X.xe s₃) X.xe s:=by
  rw[hs];exact wpAny_operating (yep (zfo hu I g (show L2.RelV (kV (Sum.inr k)) u from ry) λw' s3 I3 rw'=>(⟨w,H,I3,rw',q⟩:EP X pins σ Q w' s3)) (λr s₃ h₃=>yet (wpAny_letTemporaryGo (yew h₃))) λ_ _ x=>x)
 first|exact yew (yet BE)|exact yet (yew (yet BE))|exact yet BE
def Im(m mk:AJ):AJ:=λτ=>match m τ with
 |some (.v (.obj (.sdc ks) l) _)=>(match mk τ with
  |some (.v (.str y) _)=>(match Bm ks y with
   |some j=>(match l[j]? with
    |some u=>if u.sh then some (.v u false) else none
    |none=>none)
   |none=>none)
  |_=>none)
 |_=>none
theorem Qm:∀{ks:List Str} {xs:List V} {y:Str} {j:Nat} {v:V},Bm ks y=some j->xs[j]?=some v->Dh (CU ks xs) (Sum.inr y)=some v
 |[],xs,y,j,v,h,_=>by simp[Bm]at h
 |k::ks,[],y,j,v,_,h=>by simp at h
 |k::ks,x::xs,y,j,v,h,hx=>by
  show Dh ((Sum.inr k,x)::CU ks xs) (Sum.inr y)=some v;unfold Bm at h;rw[ye7]at h
  by_cases e:k=y
  .rw[@decide_eq_true _ (Classical.propDecidable _) e]at h;simp only[yf3,yed]at h;subst h;rw[Jl (p:=(Sum.inr k,x)) (by rw[e])]
   simpa using hx
  .rw[@decide_eq_false _ (Classical.propDecidable _) e]at h;simp only[ycg,yf4,yah]at h;obtain⟨j',h1,rfl⟩:=h;rw[Jm (p:=(Sum.inr k,x)) (λz=>e (Sum.inr.inj z))]
   exact Qm (show Bm ks y=some j' from h1) (by simpa using hx)
theorem r_gt(hu:X.A.units+1<cLine)(ho:PE X o (tM X.K E ca m))(hk:PE X k (tM X.K E ca mk))(hs:MH k):PE X (.Subscript o k pos) (tM X.K E ca (Im m mk)):=by
 refine PE.weak (Tr (zo0 hu) ho hk hs) λσ H Q h=>?_
 obtain⟨F,τ,R,S,q⟩:=h;refine⟨F,τ,R,S,?_⟩;unfold Im at q;cases hm:m τ with
 |none=>rw[hm]at q;exact q.elim
 |some r =>
  rw[hm]at q;cases r with
  |x c=>exact q.elim
  |v t b =>
   cases t with
   |obj kd l =>
    cases kd with
    |sdc ks =>
     simp only at q;intro F1 H1 x B e1 g1;obtain⟨r1,hB⟩:=LG g1;subst hB;obtain⟨a,xs,rfl,_,⟨hl1,hF⟩,el,cc⟩:=r1.obj_inv;refine⟨F1,τ,R,S.ext e1,?_⟩;cases hk2:mk τ with
     |none=>rw[hk2]at q;exact q.elim
     |some r2 =>
      rw[hk2]at q;cases r2 with
      |x c=>exact q.elim
      |v t2 b2 =>
       cases t2 with
       |str y =>
        simp only at q;intro F2 H2 z B2 e2 g2;have hz:=GD g2;subst hz;have e2':Ext F1 H1 F2 H2 R0:=e2.mono λ_ z=>z.elim
        cases hj:Bm ks y with
        |none=>simp only[hj]at q<;>exact q.elim
        |some j =>
         simp only[hj]at q;cases hu2:l[j]? with
         |none=>simp only[hu2]at q<;>exact q.elim
         |some u =>
          simp only[hu2]at q
          by_cases hsh:u.sh=true
          .rw[if_pos hsh]at q;have hjl:=(ya6.mp hu2).1;have hx:xs[j]?=some xs[j]:=ya0 (by omega)
           have hc:=(cc j u _ hu2 hx).move (F':=F2) (H':=H2) hsh e2'.ff;exact⟨a,_,y,_,rfl,rfl,e2'.hh _ _ (e1.fh _ _ hF),Qm hj hx,q F2 H2 _ R0 (e1.trans0 e2') hc⟩
          .rw[if_neg hsh]at q;exact q.elim
       |_=>exact q.elim
    |_=>exact q.elim
   |_=>exact q.elim
def tKys(to:TE):TE:=λσ H Q=>to σ H λx H1=>∃a ks xs,x=.ref a/\ks.length=xs.length/\H1 a=some (.dK (CU ks xs))/\∀p,H1 p=none->Q (.ref p) (upd H1 p (.lst (ks.map V.str)))
theorem Vu:∀{ks:List Str} {xs:List V},ks.length=xs.length->(CU ks xs).length=ks.length
 |[],[],_=>rfl
 |[],_::_,h=>by simp at h
 |_::_,[],h=>by simp at h
 |k::ks,x::xs,h=>by
  show(CU ks xs).length+1=ks.length+1;rw[Vu (by simpa using h)]
theorem Vv:∀{ks:List Str} {xs:List V} {vs:List (Key×Value)},ks.length=xs.length->KV (CU ks xs) vs->vs.map (·.1)=ks.map Sum.inr
 |[],[],vs,_,r=>by
  have r':Paired _ [] vs:=(show Paired _ (CU [] []) vs from r);cases r'
  rfl
 |[],_::_,_,h,_=>by simp at h
 |_::_,[],_,h,_=>by simp at h
 |k::ks,x::xs,vs,h,r=>by
  have r':Paired (λ(p:Key×V) (q:Key×Value)=>p.1=q.1/\RelV p.2 q.2) ((Sum.inr k,x)::CU ks xs) vs:=r
  cases r' with
  |@cons _ q _ qs hd tl =>
   rw[yad,yad,<- hd.1,Vv (by simpa using h) tl]
theorem zmw(hc:X.calm=true)(hg:Gl X "list")(hm:X.mg "list"=none){to:TE}(ho:PE X o to)(hs:starEach [o] X.env=[(false,eval o X.env)]) :
  PE X (.Call (.Name "list" p) [o] [] p2) (tKys to):=by
 intro pins s σ H Q I h;refine yf1 (Fw I hg hm ycv ?_ (by decide) (by decide))
 refine ybz ?_ (by rw[hs];rfl) rfl
 rw[hs];show wpAny _ _ (spliced ((false,eval o X.env)::backTo p2 (starEach [] X.env))) _ _ s;refine Calls.spliced_cons (AZ (ho pins s σ H _ I h) λv s1 ⟨x,H1,I1,r1,q1⟩=>?_)
 obtain⟨a,ks,xs,rfl,el,hd,q⟩:=q1;cases r1;obtain⟨z,hsm,vs,rel,o',es,ep,ho',r⟩:=(show Ba X.prog X.w H1 s1.heap a (.dK (CU ks xs)) from I1.hok a _ hd);have hat:s1.heap.DictAt (Cr X.prog X.w) a vs ep:=⟨o',es,ho',r⟩;refine Calls.spliced_nil ?_;refine PySem.W.kdl_call (PySem.W.kdl_dict (knd:=Cr X.prog X.w) (d:=a) (kvs:=vs) (ep:=ep) hsm) (I1.ok.hd hc) hat (by rw[<- znp rel];exact z) λh' tk acc' c' hk hD hacc=>?_
 have hkeys:=Vv el rel;refine⟨.ref _,_,I1.laid (a:=s1.heap.objs.size) (o:=.lst (ks.map V.str)) (h':=h') (t':=tk) hk (yae _) ?_,rfl,q _ (I1.hok.fresh (yae _))⟩;refine⟨by rw[ya1,<- Vu el];exact z,acc'.toList,c',?_,by rw[hD]⟩
 have hlen:acc'.toList.length=ks.length:=by
  rw[ydy,hacc.1,<- ya1 (f:=λp:Key×Value=>p.1),hkeys,ya1]
 have key:∀(n:Nat) (k:Str) (v:Value),ks[n]?=some k->acc'.toList[n]?=some v->∃t,v=Value.str k t:=λn k v h1 h2=>by
  obtain⟨k',x',e1,e2⟩:=hacc.2 n v (by rw[<- ycx];exact h2)
  have e3:(vs.map (·.1))[n]?=some k':=by rw[ya3,e1];rfl
  rw[hkeys,ya3,h1]at e3;have e4:k'=Sum.inr k:=(yao e3).symm;subst e4
  rcases Ec (show F6 (Sum.inr k) v=true from e2) with ⟨i,t,e5,_⟩|⟨x,t,e5,e6⟩
  .cases e5
  .cases e5;exact⟨t,e6⟩
 clear hD hk hacc
 generalize acc'.toList=as at hlen key
 clear hd q hkeys
 have go:∀(ks:List Str) (as:List Value),as.length=ks.length->(∀(n:Nat) (k:Str) (v:Value),ks[n]?=some k->as[n]?=some v->∃t,v=Value.str k t)->Ab (ks.map V.str) as:=by
  intro ks
  induction ks with
  |nil =>
   intro as hl _;cases as with
   |nil=>exact .nil
   |cons _ _=>simp at hl
  |cons k ks ih =>
   intro as hl key;cases as with
   |nil=>simp at hl
   |cons v as=>exact .cons (key 0 k v rfl rfl) (ih as (by simpa using hl) λn k v h1 h2=>key (n+1) k v (by simpa using h1) (by simpa using h2))
 exact go ks as hlen key
def FW(m:AJ):AJ:=λτ=>match m τ with
 |some (.v (.obj (.sdc ks) _) _)=>some (.v (.own (ks.map T.str)) false)
 |_=>none
theorem zgi{K:k9}(ks:List Str):Ad K F (ks.map T.str) (ks.map V.str):=⟨by simp,λi t x h1 h2=>by
 rw[ya3]at h1 h2;cases h:ks[i]? with
 |none=>rw[h]at h1;cases h1
 |some k =>
  rw[h]at h1 h2;cases h1;cases h2;exact .str k⟩
theorem r_kys(hc:X.calm=true)(hg:Gl X "list")(hm:X.mg "list"=none)(ho:PE X o (tM X.K E ca m))(hs:starEach [o] X.env=[(false,eval o X.env)]):PE X (.Call (.Name "list" p) [o] [] p2) (tM X.K E ca (FW m)):=by
 refine PE.weak (zmw hc hg hm ho hs) λσ H Q h=>?_
 obtain⟨F,τ,R,S,q⟩:=h;refine⟨F,τ,R,S,?_⟩;unfold FW at q;cases hm2:m τ with
 |none=>rw[hm2]at q;exact q.elim
 |some r =>
  rw[hm2]at q;cases r with
  |x c=>exact q.elim
  |v t b =>
   cases t with
   |obj kd l =>
    cases kd with
    |sdc ks =>
     intro F1 H1 x B e1 g1;obtain⟨r1,hB⟩:=LG g1;subst hB;obtain⟨a,xs,rfl,_,⟨hl1,hF⟩,el,cc⟩:=r1.obj_inv;refine⟨a,ks,xs,rfl,hl1,e1.fh _ _ hF,λp hp=>?_⟩
     have gg:DG X.K F1 H1 (.own (ks.map T.str)) Q:=λF' H' z C e g=>q F' H' z C (e1.trans0 e) g
     exact gg.list e1.fh (zgi ks) hp
    |_=>exact q.elim
   |_=>exact q.elim
structure ICls(K:k9)(C:Addr):Prop where
 c:Cls K C
 a:PySem.W.findIn K (.ref C) "__class__"=some (some (.builtin "object.__class__"))
 n:PySem.W.specialIn K (.builtin "object.__class__") "__get__"=some (some (.builtin "getset_descriptor.__get__"))
 k:PySem.W.takesIn K (.builtin "object.__class__")=some true
 m:PySem.W.mroIn K C (.type "object")=some true
def Oo(tb:List (Addr×Bool)):Ob->Option T
 |.ins C _=>(tb.lookup C).map .bl
 |_=>none
def Jp:List String:=["NoneType","bool","int","str","list","tuple","dict"]
def Gi(tb:List (Addr×Bool)):T->Option T
 |.obj o _=>Oo tb o
 |t=>(Jq t).map λ_=>.bl false
theorem zi4{D:Addr}(hC:ICls X.K C)(hk:PySem.W.kitOne X.K (.ref C) (.ref D)=some b):C4 X (.builtin "isinstance") (λxs H Q=>∃a dx fs,xs=[.ref a,.ref D]/\H a=some (.ins C dx fs)/\Q (.bl b) H):=by
 intro pins s σ H xs us Q I r h;obtain⟨a,dx,fs,rfl,e,q⟩:=h;obtain⟨u,w',rfl,rx,ry⟩:=IJ r;cases ry;exact Om I rx (.ins e hC.c hC.a hC.n hC.k hC.m) hk λtk=>⟨.bl b,H,I.tok _,rfl,q⟩
theorem r_isC{D:Addr}{tb:List (Addr×Bool)}{c:Str}(hC:(∀C b,tb.lookup C=some b->ICls X.K C/\PySem.W.kitOne X.K (.ref C) (.ref D)=some b)/\(Jp.all λa=>PySem.W.kitOne X.K (.type a) (.ref D) == some false)=true)(hg:Gl X "isinstance")(hm:X.mg "isinstance"=none)(hgc:Gl X c)(hmc:X.mg c=some (.ref D))(hd:(c == ("__debug__":Str))=false)(ha:PE X e (tM X.K E ca m))(he:starEach [e,.Name c p2] X.env=(false,eval e X.env)::starEach [.Name c p2] X.env) :
  PE X (.Call (.Name "isinstance" p) [e,.Name c p2] [] pos) (tM X.K E ca (Bf (g1 (Gi tb)) (AB m AE))):=by
 have hR:C4 X (.builtin "isinstance") (λxs H Q=>(∃C b a dx fs,tb.lookup C=some b/\xs=[.ref a,.ref D]/\H a=some (.ins C dx fs)/\Q (.bl b) H)\/∃x a,xs=[x,.ref D]/\a∈Jp/\(TyOf X.K H x (.type a)\/a="dict"/\∃p ob kvs,x=.ref p/\H p=some (.frz ob (.dK kvs)))/\Q (.bl false) H):=λpins s σ H xs us Q I r h=>by
  rcases h with ⟨C,b,a,dx,fs,hl,h⟩|⟨x,a,rfl,hm,ty,q⟩
  .exact zi4 (hC.1 C b hl).1 (hC.1 C b hl).2 pins s σ H xs us Q I r ⟨a,dx,fs,h⟩
  .have hk:PySem.W.kitOne X.K (.type a) (.ref D)=some false:=eq_of_beq (yal.mp hC.2 a hm);obtain⟨u,w',rfl,rx,ry⟩:=IJ r;cases ry
   rcases ty with ty|⟨rfl,p,ob,kvs,rfl,hp⟩
   .exact Om I rx ty hk λtk=>⟨.bl false,H,I.tok _,rfl,q⟩
   .cases rx;exact WK I hp hk λtk=>⟨.bl false,H,I.tok _,rfl,q⟩
 refine PE.weak (KY hR hg hm PyProof.Rows.boot_isinstance (EC ha (EC (Ts (v:=.ref D) hgc hmc rfl hd) E6) he) (by decide) (by decide) he rfl) λσ H Q h=>?_
 refine(G5 (G6 h)).mono λx H1 h1=>?_
 obtain⟨F,ts,w,fh,rs,e,q⟩:=G4 h1;unfold g1 at e;split at e
 .obtain⟨x1,xs1,e1,r1,rs1⟩:=rs.inv;cases e1;unfold Gi at e;split at e
  .unfold Oo at e;split at e
   .obtain⟨b,hb,rfl⟩:=yah.mp e;obtain⟨a,xs,rfl,_,⟨dx,hF⟩,_,_⟩:=r1.obj_inv;exact .inl ⟨_,b,a,dx,_,hb,rfl,fh _ _ hF,q.bl fh⟩
   .cases e
  .obtain⟨a,ha,rfl⟩:=yah.mp e;obtain⟨ty,hm⟩:=Qs fh r1 ha;exact .inr ⟨_,a,rfl,hm,ty,q.bl fh⟩
 .cases e
end
end Pu
namespace Zx
open PySem PySem.Spec PyProof.Rows L2 Zw
variable {A:Around}
section
variable {E:Value->Shared->Prop}{M:Model}
end
variable {X:Cx}{E:L2.St->XK}{pos:Pos}{body:List Stmt}
section
variable {i1 i2:Nat}{x1 x2 n1 n2:Str}{np1 np2 hpos1 hpos2:Pos}{suite1 suite2:List Stmt}{b1 b2:Stmt}{tb th1 th2:TS}
end
end Zx
namespace Pu
open PySem PySem.Spec PyProof.Rows L2 Zw Zx
variable {X:Cx}{E:L2.St->XK}{ca:Str->Value}{mu:Bool}{pos:Pos}{u:AI}
section
variable {i1 i2:Nat}{x1 x2 n1 n2:Str}{np1 np2 hpos1 hpos2:Pos}{body suite1 suite2:List Stmt}{b1 b2:Stmt}{h1 h2:AI}{cs1 cs2:List (Str×Addr)}
end
variable {m:AJ}{e:Expr}{p2:Pos}
section
variable {p p3 p4:Pos}{c1 c2:Str}{t1 t2:List (Addr×Bool)}{kt:Nat}
end
end Pu
namespace Zx
open PySem PySem.Spec PyProof.Rows L2 Zw
variable {X:Cx}{E:L2.St->XK}
def tTry0(K:k9)(W:Addr)(E:L2.St->XK)(tb th:TS):TS:=λD σ H=>tb D σ H/\∀σ1 cls H1,E σ1 cls none H1->∃C,cls=.ref C/\PySem.W.subIn K (.ref C) (.ref W)=some true/\th D σ1 H1
variable {pos:Pos}{body:List Stmt}
section
variable {x:Str}{np hpos:Pos}{suite:List Stmt}{b₀:Stmt}{tb th:TS}
theorem zj5(T:ECls X.K X.mg x)(hst:X.stack=X.env::X.outer)(hf:X.env.frame=some X.env.locals)(hb:∀pins xe,BH (EZ X pins xe) E->BY (EZ X pins xe) body tb)(hh:∀a,BY (Hk X a) (b₀::suite) th)(hg:Gl X x)(hdb:(x == ("__debug__":Str))=false) :
  PS X (.Try body [.ExceptHandler (some (.Name x np)) none (b₀::suite) hpos] [] [] pos) (tTry0 X.K T.C E tb th):=by
 intro pins s σ H D I h;obtain⟨h1,h2⟩:=h
 refine wpAny_Try_except (yep (hb pins (λe s₁=>wpAny (model X.prog X.w) X.A (noteFrame e X.env) (λ_ s₂=>wpAny (model X.prog X.w) X.A (setFlight e none) (λ_ s₃=>wpAny (model X.prog X.w) X.A (handleBy e X.env [.ExceptHandler (some (.Name x np)) none (b₀::suite) hpos]) (SP X pins D) X.xe s₃) X.xe s₂) X.xe s₁)
  ?pass [] s σ H D (zo3 I) h1) (λf s1 q=>?_) (λe s1 q=>q))
 case pass =>
  intro pins1 σ1 H1 s1 e s' I1t hcx;have I1:Inv X pins σ1 H1 s1:=UG (ok:=I.ok) I1t;obtain⟨a,cls,H',B,rfl,os,bare,un,hok,kB,tB,fl0,he⟩:=hcx;obtain⟨C,rfl,hsub,kk⟩:=h2 σ1 cls H' he;have fl1:HB B (X.env::X.outer) a (.ref C) s'.heap:=hst▸fl0
  have sl:∀h',s'.heap.UpToSlots h'->∀b o,s1.heap.get? b=some o->H1 b=none->b∈BK X.stack->∃z,h'.get? b=some { o with slots:=z }:=λh' sm b o e n hb=>by
   obtain⟨_,o2,ho2,hd⟩:=I1.stack.mem hb;rw[e]at ho2;cases ho2;obtain⟨z2,e2⟩:=un.slot b o e n hb (by simp)
   obtain⟨z3,e3⟩:=sm b { o with slots:=z2 } e2 hd
   exact⟨z3,e3⟩
  have inv5:∀h',B.StaysIn h'->s'.heap.UpToSlots h'->Inv X pins σ1 H' { s' with heap:=h' }:=λh' st sm =>
   I1.call' (s':={ s' with heap:=h' }) (ch:=[]) os ⟨λb o e n hb _=>st b o (kB b o e n hb),λb o e n hb _=>sl h' sm b o e n hb,un.free,λb o e _=>by
    by_cases hb:b∈BK X.stack
    .obtain⟨z,q⟩:=sl h' sm b o e (I1.stkFree b hb) hb;exact⟨_,q⟩
    .obtain⟨o',q⟩:=tB b o e hb;exact⟨o',st b o' q⟩,un.tups,un.frzs,un.tbls⟩ (hok.kept st) bare (λ_ z=>nomatch z)
  refine N6 (hst▸I.ok.frames) rfl hf fl1 λh4 held4 sm4=>?_
  refine O9 held4 λh5 fl5 sm5=>?_
  have I5:=inv5 h5 fl5.1 (sm4.trans sm5);obtain⟨oe,he5,hc5⟩:=fl5.there;obtain⟨bm,N,nm,qn,bs,hd,sn,sub,ab,col,dd,k0,k1,k2,k3,k5,mN,hC,hNs,hni,TL⟩:=X9 I5.kIn T.k.q;refine wpAny_handleBy_cons (codeAny_handlers_test (HZ (X:=Hk X a) (WQ I5) hg T.m ?_ hdb)) (by intro q;cases q)
  refine exm hC he5 hc5 (TL.hasType yd1.hasBase) (PySem.W.looks_subIn I5.kIn hsub) ?_;refine codeAny_handlers_suite (zok fl5 λh6 fl6 sm6=>?_)
  refine yep (hh a pins _ σ1 H' D (WQ (inv5 h6 fl6.1 ((sm4.trans sm5).trans sm6))) kk) (λf s8 q8=>?_) (λ_ _ z=>False.elim z)
  cases f with
  |next =>
   obtain⟨σ8,H8,I8,d8⟩:=q8;exact⟨σ8,H8,K3 I.ok I8,d8⟩
  |brk =>
   obtain⟨σ8,H8,I8,d8⟩:=q8;exact⟨σ8,H8,K3 I.ok I8,d8⟩
  |cont =>
   obtain⟨σ8,H8,I8,d8⟩:=q8;exact⟨σ8,H8,K3 I.ok I8,d8⟩
  |ret u =>
   obtain⟨v,σ8,H8,I8,r8,d8⟩:=q8;exact⟨v,σ8,H8,K3 I.ok I8,r8,d8⟩
 have back:∀{xe0:Value->Shared->Prop} {σ':L2.St} {H':Hp},Inv (EZ X pins xe0) [] σ' H' s1->Inv X pins σ' H' s1:=λJ=>UG (ok:=I.ok) J
 cases f with
 |next =>
  obtain⟨σ',H',J,d⟩:=q;exact yer ⟨σ',H',back J,d⟩
 |brk =>
  obtain⟨σ',H',J,d⟩:=q;exact⟨σ',H',back J,d⟩
 |cont =>
  obtain⟨σ',H',J,d⟩:=q;exact⟨σ',H',back J,d⟩
 |ret u =>
  obtain⟨v,σ',H',J,r,d⟩:=q;exact⟨v,σ',H',back J,r,d⟩
end
end Zx
namespace Pu
open PySem PySem.Spec PyProof.Rows L2 Zw Zx
variable {X:Cx}{E:L2.St->XK}{ca:Str->Value}
def HR(cs:List (Str×Addr))(u h:AI):AI:=λτ=>match u τ with
 |some (.xc c τ')=>(match cs.lookup c with
  |some _=>(match h τ' with
   |some (.nx τ2)=>some (.nx τ2)
   |some (.rt t)=>some (.rt t)
   |_=>none)
  |none=>none)
 |r=>r
variable {mu:Bool}{x:Str}{pos:Pos}{u:AI}
section
variable {np hpos:Pos}{body suite:List Stmt}{b₀:Stmt}{h:AI}{cs:List (Str×Addr)}
theorem zlr(T:ECls X.K X.mg x)(hcs:∀c C,cs.lookup c=some C->ca c=.ref C/\PySem.W.subIn X.K (.ref C) (.ref T.C)=some true)(hst:X.stack=X.env::X.outer)(hf:X.env.frame=some X.env.locals)
  (hb:∀(E':L2.St->XK) pins xe,BH (EZ X pins xe) E'->BY (EZ X pins xe) body (tS X.K E' ca mu u)) (hh:∀a,BY (Hk X a) (b₀::suite) (tS X.K Y9 ca mu h)) (hg:Gl X x) (hdb:(x == ("__debug__":Str))=false) :
  PS X (.Try body [.ExceptHandler (some (.Name x np)) none (b₀::suite) hpos] [] [] pos) (tS X.K E ca mu (HR cs u h)):=by
 intro pins s σ H D I hq;obtain⟨F,τ,R,S,q⟩:=hq;let E':L2.St->XK:=λσ1 cls _ H1=>∃c τ' F' R',u τ=some (.xc c τ')/\cls=ca c/\Stp F H (tot R) F' H1 (tot R')/\StR X.K F' H1 σ1 τ' R'
 refine zj5 (E:=E') (tb:=tS X.K E' ca mu u) (th:=tS X.K Y9 ca mu h) T hst hf (λpins xe hp=>hb E' pins xe hp) hh hg hdb pins s σ H D I ⟨⟨F,τ,R,S,?_⟩,?_⟩
 .unfold HR at q;cases hu:u τ with
  |none=>rw[hu]at q;exact q
  |some o =>
   cases o with
   |xc c τ'=>exact λF' H' σ' R' st S'=>⟨c,τ',F',R',hu,rfl,st,S'⟩
   |_=>rw[hu]at q;exact q
 .intro σ1 cls H1 ⟨c,τ',F',R',hu,hcl,st,S'⟩;unfold HR at q;simp only[hu]at q;cases hl:cs.lookup c with
  |none=>simp only[hl]at q<;>exact q.elim
  |some C =>
   simp only[hl]at q;obtain⟨h1,h2⟩:=hcs c C hl;refine⟨C,hcl.trans h1,h2,F',τ',R',S',?_⟩;cases hh:h τ' with
   |none=>simp only[hh]at q<;>exact q.elim
   |some o =>
    simp only[hh]at q;cases o with
    |nx τ2=>exact λF4 H4 σ4 R4 st4 S4=>q F4 H4 σ4 R4 (st.trans st4) S4
    |rt t=>exact λF4 H4 x B st4 r4=>q F4 H4 x B (st.trans st4) r4
    |bk _=>exact q.elim
    |ct _=>exact q.elim
    |xc _ _=>exact q.elim
end
variable {m mk ma:AJ}{o e a:Expr}{apos cpos p2:Pos}
section
variable {k:Expr}{p:Pos}
end
variable {pos':Pos}
section
variable {k:Expr}
theorem znf:J2 X "str.endswith" (λx vs H Q=>∃x1 y:Str,x=.str x1/\vs=[.str y]/\Q (.bl (Txt.endswith x1 y)) H):=by
 intro pins s σ H x vs v us Q I rx rv h;obtain⟨x1,y,rfl,rfl,q⟩:=h;obtain⟨t,rfl⟩:=(show ∃t,v=Value.str x1 t from rx);obtain⟨u,rfl,ru⟩:=rv.one;obtain⟨u1,rfl⟩:=(show ∃t,u=Value.str y t from ru);exact SC.endswith ⟨.bl _,H,I,rfl,q⟩
noncomputable def HY(m mk:AJ):AJ:=λτ=>match m τ with
 |some (.v (.str x) _)=>(match mk τ with
  |some (.v (.str y) _)=>some (.v (.bl (Txt.endswith x y)) false)
  |_=>none)
 |_=>none
theorem r_enw(ho:PE X o (tM X.K E ca m))(hk:PE X k (tM X.K E ca mk))(hbase:attributeBase o "endswith" X.env (eval o X.env)=eval o X.env)(hs:starEach [k] X.env=[(false,eval k X.env)])(hline:(apos.endLine == cpos.line)=true) :
  PE X (.Call (.Attribute o "endswith" apos) [k] [] cpos) (tM X.K E ca (HY m mk)):=by
 refine PE.weak (Ig PySem.F.plainAttrs_str PySem.F.slot_str_endswith PySem.F.type_str_endswith znf ho (EC hk E6 hs) hbase (by rw[hs];rfl) hline hs rfl) λσ H Q h=>?_
 obtain⟨F,τ,R,S,q⟩:=h;refine⟨F,τ,R,S,?_⟩;unfold HY at q;cases hm:m τ with
 |none=>rw[hm]at q;exact q.elim
 |some r =>
  rw[hm]at q;cases r with
  |x c=>exact q.elim
  |v t b =>
   cases t with
   |str x =>
    simp only at q;intro F1 H1 x' B e1 g1;have hx:=GD g1;subst hx;have e1':Ext F H F1 H1 R0:=e1.mono λ_ z=>z.elim
    refine⟨rfl,F1,τ,R,S.ext e1',?_⟩;cases hk2:mk τ with
    |none=>rw[hk2]at q;exact q.elim
    |some r2 =>
     rw[hk2]at q;cases r2 with
     |x c=>exact q.elim
     |v t2 b2 =>
      cases t2 with
      |str y =>
       simp only at q;intro F2 H2 z B2 e2 g2;have hz:=GD g2;subst hz;have e2':Ext F1 H1 F2 H2 R0:=e2.mono λ_ z=>z.elim
       exact⟨x,y,rfl,rfl,q F2 H2 _ R0 (e1'.trans0 e2') (.bl _)⟩
      |_=>exact q.elim
   |_=>exact q.elim
end
abbrev WT(ms:BI):BI:=DB ms
variable {ms:BI}{elts:List Expr}{kk:Nat}{tpos:Pos}
theorem r_enX{p:Pos}(hg:Gl X "enumerate")(hm:X.mg "enumerate"=none)(ha:PA X [a] (Bs X.K E ca ms))(hs:starEach [a] X.env=[(false,eval a X.env)]):PI X (.Tuple elts kk tpos) (.Call (.Name "enumerate" p) [a] [] pos) (tI X.K E ca (WT ms)):=T6 hg hm ha hs
def clsO(C N:Addr)(o:Obj):Prop:=∃nm q bs hdct sn sub ab col dd k0 k1 k2 k3 k5 newId,o=excClassObj nm q C N bs [.type "object"] hdct sn sub ab col dd k0 k1 k2 k3 k5 newId
noncomputable def keyO(e:DictEntry):Bool:=match e.key with
 |.str n _=>!(n == ("__eq__":Str)) && !(n == ("__ne__":Str))
 |_=>false
def nsO(o:Obj):Bool:=match o.data with
 |.dict es _=>es.toList.all keyO
 |_=>false
structure TiOk(K:k9)(C:Addr):Prop where
 i:ICls K C
 k:(HJ.all λc=>PySem.W.kitOne K (.ref C) (.type c) == some false)=true
 o:∃(oC oN:Obj) (N:Addr),K.lookup C=some oC/\clsO C N oC/\K.lookup N=some oN/\nsO oN=true
end Pu
noncomputable section
namespace Pu
open PySem PySem.Spec PyProof.Rows L2 Zw Zx
variable {X:Cx}{E:L2.St->XK}{ca:Str->Value}
structure Fn where
 lv:Nat
 ps:List Str
 g:List T->Option Ru
structure Gx where
 co:List (Str×T)
 cl:List (Str×Addr×List Str)
 mt:List (Str×Addr×List Str×Fn)
 nw:List (Str×Fn×List (Nat×List T))
 nr:Bool
 tx:Bool
 df:Bool
 sf:Option (Addr×List Str)
 xs:List (Str×List (Str×Addr))
 sb:List (Str×List (Addr×Bool))
 sv:List (Str×List (Addr×Bool))
 no:Bool
 fo:List Str
 ci:List (Str×List (Addr×Bool))
 x2:List (Str×Str×List (Str×Addr))
 gt:List Str
 wd:List (Str×Fn)
 pn:List Str
 ti:List Addr
 dn:List (Str×Fn×List T)
set_option genInjectivity false in
structure Gm where
 N:List Str
 nm:List (Str×NameKind)
 ce:List Str
 lv:Nat
 fns:List (Str×Fn)
 bl:List Str
 ex:List Str
 ow:List Str
 pk:List Str
 mu:Bool
 mus:List (Str×Fn)
 mv:List Str
 dc:List Str
 ox:Gx
variable {Γ:Gm}
noncomputable def C7(x:Str):Bool:=!(x == ("__debug__":Str)) && !(x == ("__classdict__":Str)) && !(x == ("__name__":Str))
def M9(nm:List (Str×NameKind))(x:Str):Bool:=nm.lookup x == some .local || nm.lookup x == some .cell || nm.lookup x == some .free
def CB(nm:List (Str×NameKind))(x:Str):Bool:=nm.lookup x == some .globalImplicit
noncomputable def DY(N:List Str)(x:Str):Option Nat:=N.findIdx? (· == x)
def Gm.var(Γ:Gm)(x:Str):Option Nat:=if C7 x && M9 Γ.nm x then DY Γ.N x else none
def Gm.loc(Γ:Gm)(x:Str):Bool:=C7 x && (Γ.nm.lookup x == some .local || Γ.ce.contains x)
def Dq:Expr->Bool
 |.Starred ..=>false
 |_=>true
def FR:Expr->Bool
 |.IfExp ..=>false
 |.NamedExpr ..=>false
 |_=>true
noncomputable def nmOf:Expr->Option (Str×Pos)
 |.Name x p=>some (x,p)
 |_=>none
def Me:List Expr->List Str
 |[]=>[]
 |e::es=>(match nmOf e with
  |some (x,_)=>x::Me es
  |none=>Me es)
def DI:Expr->List Str
 |.Name x _=>[x]
 |.Tuple es _ _=>Me es
 |_=>[]
def zo2:Expr->Bool
 |.Tuple ..=>true
 |_=>false
def Iw:Expr->Bool
 |.Slice ..=>true
 |_=>false
def DO(nm:List (Str×NameKind)):List Str:=nm.filterMap λ(y,k)=>if k == .free then some y else none
def Pp(nm:List (Str×NameKind)):List Str:=nm.filterMap λ(y,k)=>if k == .cell then some y else none
noncomputable def Ic(inner outer:List (Str×NameKind)):List (Str×NameKind):=inner.map λ(n,k)=>if (k == .free && outer.lookup n == some .cell) then (n,.cell) else (n,k)
def JH(N:List Str):List Str->Option (List Nat)
 |[]=>some []
 |y::r=>(match DY N y with
  |some i=>(match JH N r with
   |some l=>some (i::l)
   |none=>none)
  |none=>none)
def JL(Γ:Gm)(scope:Scope)(N':List Str):Bool :=
 (scope.kind == .function) && scope.names.all (λx=>!(x.2 == .local) || scope.names.lookup x.1 == some .local) &&
 scope.names.all (λx=>!(x.2 == .free) || (scope.names.lookup x.1 == some .free && (Γ.nm.lookup x.1 == some .cell || Γ.nm.lookup x.1 == some .free) && !(scope.names.contains (x.1,NameKind.cell)))) &&
 decide N'.Nodup && (Pp scope.names).all (λy=>(Ic scope.names Γ.nm).lookup y == some .cell)
def Gm.blk(Γ:Gm)(scope:Scope)(N':List Str):Gm:={ Γ with N:=N',nm:=Ic scope.names Γ.nm,ce:=(Pp scope.names).filter λy=>scope.names.lookup y == some .cell,ow:=[],ox:={ Γ.ox with df:=false,nr:=true } }
def N7:Expr->Bool
 |.Set ..=>false
 |_=>true
def Eu:Expr->Bool
 |.ListComp ..=>true
 |.SetComp ..=>true
 |.DictComp ..=>true
 |_=>false
noncomputable def WM:Expr->Bool
 |.Attribute ..=>true
 |_=>false
def gtN(Γ:Gm):Expr->Bool
 |.Name x _=>Γ.ox.gt.contains x
 |_=>false
def Fp:Expr->Bool
 |.Call _ es _ _=>!es.isEmpty
 |_=>true
variable {o:Expr}{f:Str}{env:Env}
theorem JM(h:Fp o=true):attributeBase o f env (eval o env)=eval o env:=by
 cases o with
 |Call g es ks c =>
  cases es with
  |nil=>cases h
  |cons e es=>cases g<;>rfl
 |_=>rfl
variable {pos:Pos}{es:List Expr}
theorem zew{ap:Pos}(h:Fp o=true)(hf:((backTo pos (starEach es env)).all λx=>!x.1)=true)(hn:es.length<30)(hl:(ap.endLine == pos.line)=true):∃pl:Sem Bool,eval (.Call (.Attribute o f ap) es [] pos) env=(do
   let ov <- eval o env
   standAt ap.atName
   let (f,first) <- holding [ov] (getMethod ov f pl)
   callWith pos f first (backTo pos (starEach es env)) (backToKw pos (keywordEach [] env))):=by
 refine⟨do let b <- importBound o env;pure (b.getD true),?_⟩
 have e:methodCallForm (es.length+([]:List Keyword).length) (backTo pos (starEach es env)) (backToKw pos (keywordEach [] env))=true:=by
  unfold methodCallForm;rw[hf];show(true && true && decide (es.length+0+0<30))=true;rw[yf6 (by omega)];rfl
 rw[arm_eval_Call,JM h];unfold methodCall calleeOf methodCallPos;rw[e,hl]
 rfl
structure GxOk(G:Gx)(lv:Nat)(P:Program)(w:World)(K:k9)(mg:Str->Option Value)(base:Heap)(ca:Str->Value):Prop where
 co:∀x t,G.co.lookup x=some t->∃u v,mg x=some u/\RelV v u/\∀F:Hp,Rp K F F t v R0
 cl:∀c∈G.cl,Cls K c.2.1/\∀f∈c.2.2,CO K c.2.1 f
 mt:∀c∈G.mt,c.2.2.2.lv<=lv/\Nonempty (MetX P w K mg base c.2.1 c.1 c.2.2.2.lv c.2.2.2.ps (BA K ca c.2.2.2.g))
 nw:∀x F ds,G.nw.lookup x=some (F,ds)->F.lv+1<=lv/\∃(C:Addr) (D:NewX P w K mg base x C F.lv F.ps (Fh K ca C F.g)),∀k dts,ds.lookup k=some dts->∃dvs us,Dg K D.fd F.ps us/\Ab dvs us/\∀H:Hp,Ad K H dts dvs
 sf:∀C fs,G.sf=some (C,fs)->Cls K C/\∀f∈fs,CO K C f
 xs:∀W cs,G.xs.lookup W=some cs->∃T:ECls K mg W,∀c C,cs.lookup c=some C->ca c=.ref C/\PySem.W.subIn K (.ref C) (.ref T.C)=some true
 sb:∀D tb,G.sb.lookup D=some tb->∃A:Addr,mg D=some (.ref A)/\∀C b,tb.lookup C=some b->ExcK K C/\PySem.W.kitOne K (.ref C) (.ref A)=some b
 sv:∀D tb,G.sv.lookup D=some tb->mg D=none/\∃t,bootBuiltins D=some (.type t)/\∀C b,tb.lookup C=some b->ExcK K C/\PySem.W.kitOne K (.ref C) (.type t)=some b
 ci:∀x tb,G.ci.lookup x=some tb->∃D:Addr,mg x=some (.ref D)/\(∀C b,tb.lookup C=some b->ICls K C/\PySem.W.kitOne K (.ref C) (.ref D)=some b)/\(Jp.all λa=>PySem.W.kitOne K (.type a) (.ref D) == some false)=true
 x2:∀W1 W2 cs,(W1,W2,cs)∈G.x2->∃(T1:ECls K mg W1) (T2:ECls K mg W2),∀c C,cs.lookup c=some C->ca c=.ref C/\PySem.W.subIn K (.ref C) (.ref T1.C)=some false/\PySem.W.subIn K (.ref C) (.ref T2.C)=some true
 wd:∀x F,G.wd.lookup x=some F->F.lv<=lv/\∃p,F.ps=[p]/\Nonempty (DefS P w K mg base F.lv x p (BA K ca F.g))
 ti:∀C∈G.ti,TiOk K C
 dn:∀x y,G.dn.lookup x=some y->y.1.lv<=lv/\∃(D:DefX P w K mg base y.1.lv x y.1.ps (BA K ca y.1.g)) (dvs:List V),DefsX K D.fd y.1.ps dvs/\∀H:Hp,Ad K H y.2 dvs
structure CxOk(Γ:Gm)(X:Cx)(E:L2.St->XK)(ca:Str->Value):Prop where
 N:X.N=Γ.N
 nd:Γ.N.Nodup
 nm:X.env.scope.names=Γ.nm
 kd:X.env.scope.kind=.function
 calm:X.calm=true
 room:Room Γ.lv X.A
 ce:∀x∈Γ.ce,X.fn x=true/\Γ.nm.lookup x=some .cell
 bl:∀b∈Γ.bl,X.mg b=none
 ps:BH X E
 po:Γ.ox.nr=false->PassesOwn (model X.prog X.w) X.A X.env X.xe
 md:Γ.ox.nr=false->Q5 X E
 fs:∀f F,Γ.fns.lookup f=some F->F.lv<=Γ.lv/\Nonempty (DefX X.prog X.w X.K X.mg X.base F.lv f F.ps (BA X.K ca F.g))
 ex:∀c∈Γ.ex,∃T:ECls X.K X.mg c,ca c=.ref T.C
 ms:∀f F,Γ.mus.lookup f=some F->F.lv<=Γ.lv/\Nonempty (DefX X.prog X.w X.K X.mg X.base F.lv f F.ps (IU X.K ca F.g))
 gx:GxOk Γ.ox Γ.lv X.prog X.w X.K X.mg X.base ca
 tr:Γ.ox.df=true->X.stack=X.env::X.outer/\X.env.frame=some X.env.locals
 fr:HA X
variable {N:List Str}{x:Str}{i:Nat}
theorem Fy(h:DY N x=some i):N[i]?=some x:=by
 unfold DY at h;obtain⟨h1,h2,_⟩:=ybj.mp h;rw[ya0 h1];exact congrArg some (eq_of_beq h2)
theorem Cy(h:C7 x=true):(x == ("__debug__":Str))=false/\(x == ("__classdict__":Str))=false/\x≠"__name__":=by
 unfold C7 at h
 simp only[ya7,ybs]at h;exact⟨h.1.1,h.1.2,λz=>by
  have:=h.2;rw[z]at this;simp at this⟩
theorem Qk{sc:Scope}(h:M9 sc.names x=true):D0 sc x:=by
 unfold M9 at h;simp only[yc7,yfb]at h
 rcases h with (h|h)|h
 .exact .inl h
 .exact .inr (.inl h)
 .exact .inr (.inr h)
variable {e:Expr}
theorem CW(h:Dq e=true):starEach (e::es) env=(false,eval e env)::starEach es env:=by
 cases e<;>first|rfl|cases h
theorem FL:∀{es:List Expr} {env:Env} {pos:Pos},(∀e∈es,Dq e=true)->(backTo pos (starEach es env)).any (·.1)=false
 |[],env,pos,_=>rfl
 |e::es,env,pos,h=>by
  rw[CW (h e (ya5 ..))];have ih:=FL (es:=es) (env:=env) (pos:=pos) λx hx=>h x (ya4 _ hx)
  show(false || (backTo pos (starEach es env)).any (·.1))=false
  rw[ih]
  rfl
variable {y:Str}{scope:Scope}{tg:Expr}{N':List Str}
section
theorem CxOk.var(C:CxOk Γ X E ca){x:Str}{i:Nat}{pos:Pos}(h:Γ.var x=some i):X.N[i]?=some x/\D0 X.env.scope x/\(x == ("__debug__":Str))=false/\(x == ("__classdict__":Str))=false:=by
 unfold Gm.var at h;split at h
 .rename_i hp;rw[ya7]at hp;obtain⟨p1,p2,p3⟩:=Cy hp.1;exact⟨by rw[C.N];exact Fy h,Qk (by rw[C.nm];exact hp.2),p1,p2⟩
 .cases h
theorem CxOk.gl(C:CxOk Γ X E ca)(h:CB Γ.nm x=true):Gl X x:=by
 unfold CB at h;show X.env.scope.names.lookup x=some .globalImplicit;rw[C.nm];exact eq_of_beq h
theorem CxOk.loc(C:CxOk Γ X E ca){x:Str}{i:Nat}(h:Γ.loc x=true)(hi:DY Γ.N x=some i):X.N[i]?=some x/\GU X.env.scope x/\(X.fn x=true\/X.env.scope.names.lookup x=some .local):=by
 unfold Gm.loc at h;simp only[ya7,yc7,yfb]at h;refine⟨by rw[C.N];exact Fy hi,?_⟩
 rcases h.2 with h|h
 .exact⟨.inl (by rw[C.nm];exact h),.inr (by rw[C.nm];exact h)⟩
 .obtain⟨c1,c2⟩:=C.ce x (yb8.mp h);exact⟨.inr (by rw[C.nm];exact c2),.inl c1⟩
theorem CxOk.nodup(C:CxOk Γ X E ca):X.N.Nodup:=by rw[C.N];exact C.nd
theorem Vl(C:CxOk Γ X E ca)(h1:Γ.loc x=true)(h2:DY Γ.N x=some i):PG X (.Name x pos) (Dx X.K (AD i)):=by
 obtain⟨g1,g2,g3⟩:=C.loc h1 h2;exact g_nm C.nodup g1 g2 g3
theorem YO{N:List Str}:∀{ys:List Str} {caps:List Nat},JH N ys=some caps->ys.length=caps.length/\∀(k j:Nat),caps[k]?=some j->∃y,ys[k]?=some y/\N[j]?=some y
 |[],caps,h=>by cases h;exact⟨rfl,λk j e=>by simp at e⟩
 |y::r,caps,h=>by
  unfold JH at h;split at h
  .rename_i i hi;split at h
   .rename_i l hl;cases h;obtain⟨h1,h2⟩:=YO hl;refine⟨by simp[h1],λk j e=>?_⟩
    cases k with
    |zero=>simp at e;subst e;exact⟨y,rfl,Fy hi⟩
    |succ k=>exact h2 k j (by simpa using e)
   .cases h
  .cases h
theorem zfl{nm:List (Str×NameKind)}(h:y∈DO nm):(y,NameKind.free)∈nm:=by
 unfold DO at h;obtain⟨⟨z,k⟩,hz,e⟩:=ycd.mp h;simp only at e;split at e
 .rename_i hk;cases e;rw[<- eq_of_beq hk];exact hz
 .cases e
theorem YW(C:CxOk Γ X E ca){caps:List Nat}(h:JL Γ scope (DI tg++DO scope.names)=true)(hc:JH Γ.N (DO scope.names)=some caps):BlkOk X scope (DI tg++DO scope.names) (DI tg).length caps:=by
 unfold JL at h;simp only[ya7]at h;obtain⟨⟨⟨⟨h1,h2⟩,h3⟩,h4⟩,h5⟩:=h;obtain⟨l1,l2⟩:=YO hc
 have free:∀y∈scope.names,y.2=.free->scope.names.lookup y.1=some .free/\(Γ.nm.lookup y.1=some .cell\/Γ.nm.lookup y.1=some .free)/\(y.1,NameKind.cell)∉scope.names:=λy hy hf=>by
  have q:=yal.mp h3 y hy;simp only[hf,yff,Bool.not_true,ye9,ya7,yfb,yc7,ybs]at q;refine⟨q.1.1,q.1.2,λz=>?_⟩
  have:=yb8.mpr z;rw[this]at q;exact Bool.noConfusion q.2
 refine⟨eq_of_beq h1,λy hy hl=>?_,by simp[l1],λk j e=>?_,λy hy hf=>?_⟩
 .have q:=yal.mp h2 y hy;simp only[hl,yff,Bool.not_true,ye9,yfb]at q;exact q
 .obtain⟨y,e1,e2⟩:=l2 k j e;have fm:=zfl (yab e1);obtain⟨f1,_,f3⟩:=free _ fm rfl;refine⟨y,by rw[C.N];exact e2,?_,f1,f3⟩
  rw[yb2 (by omega)]
  simpa using e1
 .obtain⟨f1,f2,_⟩:=free y hy hf;refine⟨f1,?_⟩;rw[C.nm];exact f2
theorem zgk(hk:env.scope.kind=.function):(relabel scope env).names=Ic scope.names env.scope.names:=by
 unfold relabel Ic;simp only;refine ybk λx hx=>?_
 obtain⟨n,k⟩:=x;have e:(env.scope.kind == ScopeKind.function)=true:=by rw[hk];rfl
 simp only[e,yea]
 rfl
theorem YY(C:CxOk Γ X E ca)(h:JL Γ scope N'=true)(cl:List (Str×Addr))(A:Addr)(s₀:Shared)(H₀:Hp)(ex:List Addr)(xb:Value->Shared->Prop){E':L2.St->XK}(hp:BH (Aw X scope cl N' A s₀ H₀ ex xb) E'):CxOk (Γ.blk scope N') (Aw X scope cl N' A s₀ H₀ ex xb) E' ca:=by
 unfold JL at h;simp only[ya7]at h;obtain⟨⟨⟨⟨h1,h2⟩,h3⟩,h4⟩,h5⟩:=h;refine⟨rfl,yfh h4,?_,?_,C.calm,C.room,λx hx=>?_,C.bl,hp,λz=>(by cases z),λz=>(by cases z),C.fs,C.ex,C.ms,⟨C.gx.co,C.gx.cl,C.gx.mt,C.gx.nw,C.gx.sf,C.gx.xs,C.gx.sb,C.gx.sv,C.gx.ci,C.gx.x2,C.gx.wd,C.gx.ti,C.gx.dn⟩,λz=>(by cases z),C.fr⟩
 .show(relabel scope X.env).names=Ic scope.names Γ.nm;rw[zgk C.kd,C.nm]
 .show scope.kind=.function;exact eq_of_beq h1
 .have hx':x∈(Pp scope.names).filter λy=>scope.names.lookup y == some .cell:=hx
  rw[ych]at hx';refine⟨yf6 (eq_of_beq hx'.2),?_⟩;exact eq_of_beq (yal.mp h5 x hx'.1)
end
theorem PB(h:N7 e=true)(x:Value):foldedSetIterable e env x=pure x:=by
 cases e<;>first|rfl|cases h
theorem Ti{k:Expr}(h:Iw k=false):MH k:=λo i=>by
 cases k<;>first|rfl|cases h
variable {b:Bool}
theorem DV(h:(!b)=true):b=false:=by cases b<;>first|rfl|cases h
def gd{α:Type}:(b:Bool)->(b=true->Option α)->Option α
 |true,k=>k rfl
 |false,_=>none
def oe{α β:Type}:(o:Option α)->((a:α)->o=some a->β)->β->β
 |some a,k,_=>k a rfl
 |none,_,d=>d
abbrev ob{α β:Type}(o:Option α)(k:(a:α)->o=some a->Option β):Option β:=oe o k none
structure ER(Γ:Gm)(e:Expr) where
 m:AJ
 ok:∀{X:Cx} {E:L2.St->XK} {ca:Str->Value},CxOk Γ X E ca->PE X e (tM X.K E ca m)/\(FR e=true->PT X e (BN X.K E ca m))
structure AR(Γ:Gm)(es:List Expr) where
 m:BI
 ok:∀{X:Cx} {E:L2.St->XK} {ca:Str->Value},CxOk Γ X E ca->PA X es (Bs X.K E ca m)
 st:∀e∈es,Dq e=true
 nl:es=[]->m=AE
structure OR(Γ:Gm)(es:List Expr) where
 m:BI
 ok:∀{X:Cx} {E:L2.St->XK} {ca:Str->Value},CxOk Γ X E ca->PA X es (IQ X.K E ca m)
structure BR(Γ:Gm)(op:BoolOp)(es:List Expr) where
 m:AJ
 ok:∀{X:Cx} {E:L2.St->XK} {ca:Str->Value} {pos:Pos},CxOk Γ X E ca->PE X (.BoolOp op es pos) (tM X.K E ca m)/\PW X (.BoolOp op es pos) (BN X.K E ca m)
structure PR(Γ:Gm)(o:Option Expr) where
 m:Option (AJ)
 ok:∀{X:Cx} {E:L2.St->XK} {ca:Str->Value},CxOk Γ X E ca->PO X o (G3 X.K m)
structure LR(Γ:Gm)(elt tg iter:Expr)(ifs:List Expr)(scope:Scope) where
 m:AJ
 ok:∀{X:Cx} {E:L2.St->XK} {ca:Str->Value},CxOk Γ X E ca->∃caps mi b mt me,m=Ar (DI tg).length caps mi b mt me/\BlkOk X scope (DI tg++DO scope.names) (DI tg).length caps/\PI X tg iter (tI X.K E ca mi) /\
   (∀ cl A s₀ H₀ ex xb E', BH (Aw X scope cl (DI tg ++ DO scope.names) A s₀ H₀ ex xb) E' -> PG (Aw X scope cl (DI tg ++ DO scope.names) A s₀ H₀ ex xb) tg (Dx X.K b) /\ GS (Aw X scope cl (DI tg ++ DO scope.names) A s₀ H₀ ex xb) ifs (BN X.K E' ca mt) /\
    PE (Aw X scope cl (DI tg++DO scope.names) A s₀ H₀ ex xb) elt (tM X.K E' ca me))/\∀x,foldedSetIterable iter X.env x=pure x
structure IR(Γ:Gm)(tg e:Expr) where
 m:BI
 ok:∀{X:Cx} {E:L2.St->XK} {ca:Str->Value},CxOk Γ X E ca->PI X tg e (tI X.K E ca m)
 ns:N7 e=true
structure GR(Γ:Gm)(tg:Expr) where
 m:T->AN->Option AN
 ok:∀{X:Cx} {E:L2.St->XK} {ca:Str->Value},CxOk Γ X E ca->PG X tg (Dx X.K m)
structure GsR(Γ:Gm)(es:List Expr) where
 m:List T->AN->Option AN
 ok:∀{X:Cx} {E:L2.St->XK} {ca:Str->Value},CxOk Γ X E ca->De X es (G7 X.K m)/\(assignEach es X.env).length=es.length/\(assignEach es X.env).findIdx? (·.1)=none
structure SR(Γ:Gm)(s:Stmt) where
 m:AI
 ok:∀{X:Cx} {E:L2.St->XK} {ca:Str->Value},CxOk Γ X E ca->PS X s (tS X.K E ca Γ.mu m)
structure QR(Γ:Gm)(ss:List Stmt) where
 m:AI
 ok:∀{X:Cx} {E:L2.St->XK} {ca:Str->Value},CxOk Γ X E ca->BY X ss (tS X.K E ca Γ.mu m)
structure Dc where
 e:(Γ:Gm)->(e:Expr)->Option (ER Γ e)
 a:(Γ:Gm)->(es:List Expr)->Option (AR Γ es)
 o:(Γ:Gm)->(es:List Expr)->Option (OR Γ es)
 b:(Γ:Gm)->(op:BoolOp)->(es:List Expr)->Option (BR Γ op es)
 s:(Γ:Gm)->(s:Stmt)->Option (SR Γ s)
 q:(Γ:Gm)->(ss:List Stmt)->Option (QR Γ ss)
theorem ER.t(r:ER Γ e)(h:FR e=true)(C:CxOk Γ X E ca):PT X e (BN X.K E ca r.m):=(r.ok C).2 h
def Md:Expr->Prop
 |.UnaryOp ..=>False
 |.BoolOp ..=>False
 |.IfExp ..=>False
 |.Compare ..=>False
 |_=>True
theorem zic(h:Md e)(whole:Sem Value):isTrue e env whole=(do let v <- whole;standAt e.pos;holding [v] (truthy v)):=by
 cases e<;>first|rfl|exact False.elim h
def vl{Γ:Gm}{e:Expr}(m:AJ)(h:∀{X:Cx} {E:L2.St->XK} {ca:Str->Value},CxOk Γ X E ca->PE X e (tM X.K E ca m))(t:Md e:=by trivial):Option (ER Γ e):=some ⟨m,λC=>⟨h C,λ_=>TZ (h C) (zic t)⟩⟩
structure OG(op:Operator) where
 g:T->T->Option T
 ok:∀{X:Cx},Ak X (binaryOp op) (Bt X.K g)
def opF:(op:Operator)->Option (OG op)
 |.Add=>some ⟨BL,zjs⟩
 |.Sub=>some ⟨HP,zjn⟩
 |.Mult=>some ⟨Be,zjp⟩
 |.Mod=>some ⟨BO,zjq⟩
 |.FloorDiv=>some ⟨CN,zh3⟩
 |.Pow=>some ⟨Fo,zjo⟩
 |_=>none
structure CG(op:CmpOp) where
 g:T->T->Option T
 ok:∀{Γ:Gm} {X:Cx} {E:L2.St->XK} {ca:Str->Value},CxOk Γ X E ca->Ak X (compareOp op) (Bt X.K g)
def Xz:(op:CmpOp)->Option (CG op)
 |.Eq=>some ⟨Bn,λC=>zn9 C.room.units⟩
 |.NotEq=>some ⟨By,λC=>zn6 C.room.units⟩
 |.Lt=>some ⟨CI λi j=>decide (i<j),λ_=>K1 op_lt⟩
 |.LtE=>some ⟨CI λi j=>decide (i<=j),λ_=>K1 UA⟩
 |.Gt=>some ⟨CI λi j=>decide (j<i),λ_=>K1 op_gt⟩
 |.GtE=>some ⟨CI λi j=>decide (j<=i),λ_=>K1 op_ge⟩
 |.Is=>some ⟨Cc false,λ_=>zn7⟩
 |.IsNot=>some ⟨Cc true,λ_=>zes⟩
 |.In=>some ⟨CY,λC=>zn8 C.room.units⟩
 |.NotIn=>some ⟨Gb,λC=>zer C.room.units⟩
def YM:(op:CmpOp)->Option (CG op)
 |.LtE=>some ⟨EI,λ_=>zjr⟩
 |op=>Xz op
def eCst(Γ:Gm)(c:Const)(k:Nat)(pos:Pos):Option (ER Γ (.Constant c k pos)):=match c with
 |.int i=>vl (mC (.int i)) λ_=>Ie zmx λ_ _=>.int i
 |.bool b=>vl (mC (.bl b)) λ_=>Ie pe_bl λ_ _=>.bl b
 |.none=>vl (mC .non) λ_=>Ie Tq λ_ _=>.non
 |.str x=>vl (mC (.str x)) λ_=>Ie zms λ_ _=>.str x
 |_=>none
theorem CxOk.v(C:CxOk Γ X E ca)(h:Γ.var x=some i):PE X (.Name x pos) (tM X.K E ca (AA i)) :=
 let ⟨h1,h2,h3,h4⟩:=C.var (pos:=pos) h
 TY h1 h2 h3 h4
def eNam(Γ:Gm)(x:Str)(pos:Pos):Option (ER Γ (.Name x pos)):=oe (Γ.var x) (λi hi=>vl (AA i) λC=>C.v hi) (gd (C7 x && CB Γ.nm x) λhp=>ob (Γ.ox.co.lookup x) λt ht=>vl (mC t) λC=>by
 rw[ya7]at hp;obtain⟨u,v,k1,k2,k3⟩:=C.gx.co x t ht;exact r_con (C.gl hp.2) k1 k2 (Cy hp.1).1 k3)
def Xj{Γ:Gm}{e:Expr}(t:Md e)(a:Option (ER Γ e))(b:Option (ER Γ e)):Option (ER Γ e):=a.bind λa=>match b with
 |some b=>vl (Cb a.m b.m) (λC=>NT (a.ok C).1 (b.ok C).1) t
 |none=>some a
def Pc{Γ:Gm}{o:Expr}{f:Str}{pos:Pos}(r:ER Γ o)(hp:Fp o=true):(L:List (Str×Addr×List Str))->(∀c∈L,c∈Γ.ox.cl)->Option (ER Γ (.Attribute o f pos))
 |[],_=>none
 |c::L,hL=>oe (c.2.2.findIdx? (· == f)) (λj hj=>Xj trivial (vl (B7 c.2.1 c.2.2 j r.m) λC=>by
   obtain⟨h1,h2⟩:=C.gx.cl _ (hL _ (ya5 ..))
   have hf:f∈c.2.2:=by
    obtain⟨q1,q2,_⟩:=ybj.mp hj;rw[<- eq_of_beq q2];exact yau q1
   exact r_fld h1 (h2 f hf) hj (r.ok C).1 (JM hp)) (Pc r hp L λc h=>hL c (ya4 _ h))) (Pc r hp L λc h=>hL c (ya4 _ h))
theorem zk4{ap:Pos}{g:Addr×List Str×Fn}(r:ER Γ o)(a:AR Γ es)(hpo:Fp o=true)(hln:(ap.endLine == pos.line)=true)(hlen:es.length<30)(hm:(f,g)∈Γ.ox.mt)(hnf:g.2.1.contains f=false)(C:CxOk Γ X E ca) :
  PE X (.Call (.Attribute o f ap) es [] pos) (tM X.K E ca (Bl g.1 g.2.1 g.2.2.g r.m a.m)):=by
 obtain⟨hlv,⟨D⟩⟩:=C.gx.mt _ hm;have ho:=(r.ok C).1;have ha:=a.ok C;have hst:=a.st;have hnil:=a.nl;generalize a.m=ms at ha hnil
 clear a
 obtain⟨pl,ht⟩:=zew (f:=f) (ap:=ap) (pos:=pos) (es:=es) (env:=X.env) hpo (by
  have:=FL (env:=X.env) (pos:=pos) hst;rw[yal];intro z hz;rw[List.any_eq_false]at this
  simpa using this z hz) hlen hln
 cases es with
 |cons e es=>exact zm6 D hnf C.room C.ps ho ha hlv (CW (hst e (ya5 ..))) (FL λx hx=>hst x (ya4 e hx)) ht
 |nil =>
  refine PE.weak (pmx0 D C.room C.ps ho hlv ht) λσ H Q h=>?_
  obtain⟨F,τ,R,S,q⟩:=RH hnf h;refine⟨F,τ,R,S,?_⟩;cases hm:r.m τ with
  |none=>rw[hm]at q;exact q
  |some r =>
   rw[hm]at q;cases r with
   |x c=>exact q
   |v t b =>
    intro F1 H1 x B e1 g1;obtain⟨a,dx,fs',h1,h2,h3,h4⟩:=q F1 H1 x B e1 g1;refine⟨a,dx,fs',h1,h2,h3,?_⟩;rw[hnil rfl]at h4;exact G4 h4
def Pb{Γ:Gm}{o:Expr}{f:Str}{ap pos:Pos}{es:List Expr}(r:ER Γ o)(a:AR Γ es)(hpo:Fp o=true)(hln:(ap.endLine == pos.line)=true)(hlen:es.length<30):(L:List (Str×Addr×List Str×Fn))->(∀c∈L,c∈Γ.ox.mt)->Option (ER Γ (.Call (.Attribute o f ap) es [] pos))
 |[],_=>none
 |c::L,hL=>if h:c.1=f/\c.2.2.1.contains f=false then Xj trivial (vl (Bl c.2.1 c.2.2.1 c.2.2.2.g r.m a.m) λC=>zk4 r a hpo hln hlen (g:=c.2) (h.1▸hL c (ya5 ..)) h.2 C) (Pb r a hpo hln hlen L λc h=>hL c (ya4 _ h)) else Pb r a hpo hln hlen L λc h=>hL c (ya4 _ h)
def eAtt(D:Dc)(Γ:Gm)(o:Expr)(f:Str)(ap:Pos)(es:List Expr)(ks:List Keyword)(c:Pos):Option (ER Γ (.Call (.Attribute o f ap) es ks c)):=match ks with
 |[]=>gd (Fp o && (ap.endLine == c.line) && decide (es.length<30)) λhc=>(D.e Γ o).bind λr=>(D.a Γ es).bind λa =>
  have hc:(Fp o=true/\(ap.endLine == c.line)=true)/\es.length<30:=by
   rw[ya7,ya7,yfc]at hc;exact hc
  if hf:f="endswith" then (match es,a with
   |[k],a=>(D.e Γ k).bind λmk=>vl (HY r.m mk.m) λC=>by
    subst hf;exact r_enw (r.ok C).1 (mk.ok C).1 (JM hc.1.1) (CW (es:=[]) (a.st k (ya5 ..))) hc.1.2
   |_,_=>none) else
  if hf:f="index" then (match es,a with
   |[k],a=>(D.e Γ k).bind λmk=>vl (Gg r.m mk.m) λC=>by
    subst hf;exact ziu (r.ok C).1 (mk.ok C).1 (JM hc.1.1) (CW (es:=[]) (a.st k (ya5 ..))) hc.1.2
   |_,_=>none) else
  if hf:f="join" then (match es,a with
   |[k],a=>(D.e Γ k).bind λmk=>vl (Gf r.m mk.m) λC=>by
    subst hf;exact zm7 (r.ok C).1 (mk.ok C).1 (JM hc.1.1) (CW (es:=[]) (a.st k (ya5 ..))) hc.1.2
   |_,_=>none) else
  Pb r a hc.1.1 hc.1.2 hc.2 Γ.ox.mt λ_ h=>h
 |_=>none
def eCmp(D:Dc)(Γ:Gm)(a:Expr)(ops:List CmpOp)(bs:List Expr)(pos:Pos):Option (ER Γ (.Compare a ops bs pos)):=match ops,bs with
 |[op],[b]=>gd (!(behindInMarks op b)) λhm=>(Xz op).bind λg=>(D.e Γ a).bind λra=>(D.e Γ b).bind λrb=>some ⟨Bf (g2 g.g) (AB ra.m (AB rb.m AE)),λC =>
  have hm:=DV hm
  ⟨r_cmp (g.ok C) (ra.ok C).1 (rb.ok C).1 hm,λ_=>zm3 (g.ok C) (ra.ok C).1 (rb.ok C).1 hm⟩⟩
 |[op,op'],[b,c]=>gd (!(lastMarks [op,op'] [b,c])) λhm=>(YM op).bind λg=>(YM op').bind λg'=>(D.e Γ a).bind λra=>(D.e Γ b).bind λrb=>(D.e Γ c).bind λrc=>some ⟨Eb g.g g'.g ra.m rb.m rc.m,λC =>
  have hm:=DV hm
  ⟨r_chn (g.ok C) (g'.ok C) (ra.ok C).1 (rb.ok C).1 (rc.ok C).1 hm,λ_=>zm4 (g.ok C) (g'.ok C) (ra.ok C).1 (rb.ok C).1 (rc.ok C).1 hm⟩⟩
 |_,_=>none
def eUn(D:Dc)(Γ:Gm)(op:UnaryOp)(a:Expr)(pos:Pos):Option (ER Γ (.UnaryOp op a pos)):=match op with
 |.USub=>(D.e Γ a).bind λr=>some ⟨Bf (g1 Er) (AB r.m AE),λC =>
  have hp:=r_un (pos:=pos) zib (r.ok C).1
  ⟨hp,λ_=>TZ hp λ_=>rfl⟩⟩
 |.Not=>gd (FR a) λh=>(D.e Γ a).bind λr=>some ⟨Ay r.m,λC=>⟨r_not (r.ok C).1,λ_=>zm2 (r.t h C)⟩⟩
 |_=>none
def dP(D:Dc)(Γ:Gm):(o:Option Expr)->Option (PR Γ o)
 |none=>some ⟨none,λ_=>r_po0⟩
 |some e=>(D.e Γ e).bind λr=>some ⟨some r.m,λC=>r_po1 (r.ok C).1⟩
def eIx(D:Dc)(Γ:Gm)(a k:Expr)(pos:Pos):Option (ER Γ (.Subscript a k pos)):=gd (!(Iw k)) λhs=>(D.e Γ a).bind λr=>(D.e Γ k).bind λrk =>
 if WM a || gtN Γ a then vl (Im r.m rk.m) λC=>r_gt (by have:=C.room.units;omega) (r.ok C).1 (rk.ok C).1 (Ti (DV hs)) else
 vl (AY r.m rk.m) λC=>r_ix (r.ok C).1 (rk.ok C).1 (Ti (DV hs))
def eSub(D:Dc)(Γ:Gm)(a k:Expr)(pos:Pos):Option (ER Γ (.Subscript a k pos)):=match k with
 |.Slice lo hi st p=>(match st with
  |none=>(D.e Γ a).bind λr=>(dP D Γ lo).bind λrl=>(dP D Γ hi).bind λrh=>if Γ.ox.tx then vl (Cb (Dt r.m rl.m rh.m) (Ds r.m rl.m rh.m)) λC=>NT (T3 (r.ok C).1 (rl.ok C) (rh.ok C)) (zgo (r.ok C).1 (rl.ok C) (rh.ok C)) else vl (Dt r.m rl.m rh.m) λC=>T3 (r.ok C).1 (rl.ok C) (rh.ok C)
  |_=>none)
 |k=>eIx D Γ a k pos
theorem Ia(h:Dq e=true):starEach [e] env=[(false,eval e env)]:=CW (es:=[]) h
section
variable {p:Pos}
theorem bF(a:AR Γ (e::es))(hp:C7 f=true)(hg:CB Γ.nm f=true)(hb:Γ.bl.contains f=true)(C:CxOk Γ X E ca){id:String}{g:List T->Option T}(hc:C4 X (.builtin id) (EA X.K g))(hv:bootBuiltins f=some (.builtin id)):PE X (.Call (.Name f p) (e::es) [] pos) (tM X.K E ca (Bf g a.m)) :=
 zmb hc (C.gl hg) (C.bl f (yb8.mp hb)) hv (a.ok C) (Cy hp).2.2 (Cy hp).1 (CW (a.st e (ya5 ..))) (FL λx hx=>a.st x (ya4 e hx))
theorem Y3(a:AR Γ (e::es))(hp:C7 f=true)(hg:CB Γ.nm f=true)(hb:Γ.bl.contains f=true)(C:CxOk Γ X E ca){id:String}{g:List T->Option T}(hc:C4 X (.type id) (EA X.K g))(hv:bootBuiltins f=some (.type id)):PE X (.Call (.Name f p) (e::es) [] pos) (tM X.K E ca (Bf g a.m)) :=
 T8 hc (C.gl hg) (C.bl f (yb8.mp hb)) hv (a.ok C) (Cy hp).2.2 (Cy hp).1 (CW (a.st e (ya5 ..))) (FL λx hx=>a.st x (ya4 e hx))
def LY(a:AR Γ (e::es))(hp:C7 f=true)(hg:CB Γ.nm f=true)(hb:Γ.bl.contains f=true):Option (ER Γ (.Call (.Name f p) (e::es) [] pos)) :=
 if hf:f="len" then vl (Bf (g1 B0) a.m) λC=>by subst hf;exact bF a hp hg hb C zfz PySem.boot_len else
 if hf:f="list" then vl (Bf (g1 CK) a.m) λC=>by subst hf;exact Y3 a hp hg hb C YT ycv else
 if hf:f="abs" then vl (Bf (g1 Gq) a.m) λC=>by subst hf;exact bF a hp hg hb C zg3 PyProof.Rows.boot_abs else
 if hf:f="int" then vl (Bf (g1 Iz) a.m) λC=>by subst hf;exact Y3 a hp hg hb C zg1 PyProof.Rows.boot_int else
 if hf:f="all" then vl (Bf (g1 DE) a.m) λC=>by subst hf;exact bF a hp hg hb C (zg2 C.calm) PyProof.Rows.boot_all else
 none
end
structure TyR(c:Str) where
 t:String
 ok:bootBuiltins c=some (.type t)
def tyF(c:Str):Option (TyR c) :=
 if h:c="int" then some ⟨"int",by subst h;exact PyProof.Rows.boot_int⟩ else if h:c="bool" then some ⟨"bool",by subst h;exact PyProof.Rows.boot_bool⟩ else if h:c="str" then some ⟨"str",by subst h;exact PyProof.Rows.boot_str⟩ else
 if h:c="list" then some ⟨"list",by subst h;exact ycv⟩ else if h:c="tuple" then some ⟨"tuple",by subst h;exact PyProof.Rows.boot_tuple⟩ else none
def eIs(D:Dc)(Γ:Gm)(p:Pos)(e:Expr)(es:List Expr)(pos:Pos)(hg:CB Γ.nm "isinstance"=true)(hb:Γ.bl.contains "isinstance"=true):Option (ER Γ (.Call (.Name "isinstance" p) (e::es) [] pos)):=match es with
 |[.Name c p2]=>gd (CB Γ.nm c && C7 c && Dq e) λhc=>(D.e Γ e).bind λr =>
  have hc:(CB Γ.nm c=true/\C7 c=true)/\Dq e=true:=by
   rw[ya7,ya7]at hc;exact hc
  if hm:Γ.bl.contains c=true then (tyF c).bind λt=>vl (Bf (g1 (Ci t.t)) (AB r.m AE)) λC =>
   r_isT t.ok (C.gl hg) (C.bl _ (yb8.mp hb)) (C.gl hc.1.1) (C.bl _ (yb8.mp hm)) (Cy hc.1.2).2.2 (Cy hc.1.2).1 (r.ok C).1 (CW hc.2)
  else ob (Γ.ox.ci.lookup c) λtb ht=>vl (Bf (g1 (Gi tb)) (AB r.m AE)) λC=>by
   obtain⟨_,k1,k2⟩:=C.gx.ci c tb ht;exact r_isC k2 (C.gl hg) (C.bl _ (yb8.mp hb)) (C.gl hc.1.1) k1 (Cy hc.1.2).1 (r.ok C).1 (CW hc.2)
 |_=>none
def eSet(D:Dc)(Γ:Gm)(p:Pos)(e:Expr)(pos:Pos)(hg:CB Γ.nm "len"=true)(hb:Γ.bl.contains "len"=true):Option (ER Γ (.Call (.Name "len" p) [e] [] pos)):=match e with
 |.Call (.Name x p2) [a] [] p3=>if h:x="set" then gd (CB Γ.nm "set" && Γ.bl.contains "set" && Dq a) λhc=>(D.e Γ a).bind λr=>vl (Bf (g1 IL) (AB r.m AE)) λC=>by
   rw[ya7,ya7]at hc;subst h;exact r_unq C.calm (C.gl hg) (C.bl _ (yb8.mp hb)) (C.gl hc.1.1) (C.bl _ (yb8.mp hc.1.2)) (r.ok C).1 (Ia hc.2)
  else none
 |_=>none
def eKys(D:Dc)(Γ:Gm)(p:Pos)(e:Expr)(pos:Pos)(hp:C7 "list"=true)(hg:CB Γ.nm "list"=true)(hb:Γ.bl.contains "list"=true):Option (ER Γ (.Call (.Name "list" p) [e] [] pos)):=if h:WM e=true then (D.e Γ e).bind λr=>vl (Cb (Bf (g1 CK) (AB r.m AE)) (FW r.m)) λC=>by
  have hns:Dq e=true:=by cases e<;>first|rfl|cases h
  have hst:=λenv=>Ia (env:=env) hns
  have b:=yb8.mp hb;exact NT (T8 YT (C.gl hg) (C.bl _ b) ycv (T7 (r.ok C).1 T4 (hst _)) (Cy hp).2.2 (Cy hp).1 (hst _) rfl) (r_kys C.calm (C.gl hg) (C.bl _ b) (r.ok C).1 (hst _))
 else none
def Xi(Γ:Gm)(f:Str)(p:Pos)(e:Expr)(es:List Expr)(pos:Pos)(a:AR Γ (e::es))(hp:C7 f=true)(hg:CB Γ.nm f=true):Option (ER Γ (.Call (.Name f p) (e::es) [] pos)) :=
 ob (Γ.fns.lookup f) λF hF=>vl (AS F.g a.m) λC=>by
  obtain⟨hl,⟨D⟩⟩:=C.fs f F hF;exact zma D C.room C.ps (a.ok C) hl (C.gl hg) (Cy hp).1 (CW (a.st e (ya5 ..))) (FL λx hx=>a.st x (ya4 e hx))
def eFn(Γ:Gm)(f:Str)(p:Pos)(e:Expr)(es:List Expr)(pos:Pos)(a:AR Γ (e::es))(hp:C7 f=true)(hg:CB Γ.nm f=true):Option (ER Γ (.Call (.Name f p) (e::es) [] pos)) :=
 oe (Γ.ox.nw.lookup f) (λF hF=>ob (F.2.lookup (e::es).length) λdts hd=>vl (Fv F.1.g dts a.m) λC=>by
   obtain⟨hl,CC,D,hD⟩:=C.gx.nw f F.1 F.2 hF;obtain⟨dvs,us,k1,k2,k3⟩:=hD _ _ hd;exact r_new D k1 k2 k3 C.room C.ps (a.ok C) hl (C.gl hg) (Cy hp).1 (CW (a.st e (ya5 ..))) (FL λx hx=>a.st x (ya4 e hx))) <|
 oe (Γ.ox.dn.lookup f) (λy hy=>if es.length+1+y.2.length=y.1.ps.length then vl (AS (gD y.2 y.1.g) a.m) λC=>by
   obtain⟨hl,D,dvs,k1,k2⟩:=C.gx.dn f y hy;exact ziw D k1 k2 C.room C.ps (a.ok C) hl (C.gl hg) (Cy hp).1 (CW (a.st e (ya5 ..))) (FL λx hx=>a.st x (ya4 e hx))
  else Xi Γ f p e es pos a hp hg) <|
 Xi Γ f p e es pos a hp hg
def eCal(D:Dc)(Γ:Gm)(f:Str)(p:Pos)(es:List Expr)(ks:List Keyword)(pos:Pos):Option (ER Γ (.Call (.Name f p) es ks pos)):=match es,ks with
 |e::es,[]=>gd (C7 f && CB Γ.nm f) λhc =>
  have hc:C7 f=true/\CB Γ.nm f=true:=by
   rw[ya7]at hc;exact hc
  if hb:Γ.bl.contains f=true then
   (if hf : f = "isinstance" then (match f, hf, hc, hb with
    |_,rfl,hc,hb=>eIs D Γ p e es pos hc.2 hb) else
   match es with
   |[] =>
    (if hf : f = "len" then (match f, hf, hc, hb with
     |_,rfl,hc,hb=>(eSet D Γ p e pos hc.2 hb).orElse λ_=>(D.a Γ [e]).bind λa=>LY a hc.1 hc.2 hb) else
    if hf:f="list" then (match f,hf,hc,hb with
     |_,rfl,hc,hb=>(eKys D Γ p e pos hc.1 hc.2 hb).orElse λ_=>(D.a Γ [e]).bind λa=>LY a hc.1 hc.2 hb) else
    (D.a Γ [e]).bind λa=>LY a hc.1 hc.2 hb)
   |_=>(D.a Γ _).bind λa=>LY a hc.1 hc.2 hb)
  else (D.a Γ (e::es)).bind λa=>eFn Γ f p e es pos a hc.1 hc.2
 |_,_=>none
def Xu(Γ:Gm):(es:List Expr)->Option (GsR Γ es)
 |[]=>some ⟨Aq,λ_=>⟨g_nil,rfl,rfl⟩⟩
 |e::es=>(match e with
  |.Name x p=>gd (Γ.loc x) λhl=>ob (DY Γ.N x) λi hi=>(Xu Γ es).bind λr=>some ⟨AQ (AD i) r.m,λ{X} {E} {ca} C=>by
   obtain⟨q1,q2,q3⟩:=r.ok C;refine⟨zo8 (Vl C hl hi) q1 rfl,?_,?_⟩
   .show(assignEach es X.env).length+1=es.length+1;rw[q2]
   .show List.findIdx? (·.1) ((false,assign (.Name x p) X.env)::assignEach es X.env)=none
    rw[ye7,q3]
    rfl⟩
  |_=>none)
def dG(Γ:Gm):(tg:Expr)->Option (GR Γ tg)
 |.Name x _=>gd (Γ.loc x) λhl=>ob (DY Γ.N x) λi hi=>some ⟨AD i,λC=>Vl C hl hi⟩
 |.Tuple es _ _=>(Xu Γ es).bind λr=>some ⟨Ap es.length r.m,λC=>g_tup C.calm (r.ok C).1 (r.ok C).2.1 (r.ok C).2.2⟩
 |_=>none
def iV(D:Dc)(Γ:Gm)(tg e:Expr):Option (IR Γ tg e):=gd (N7 e) λh=>(D.e Γ e).bind λr=>if Γ.ox.tx then some ⟨Al r.m,λC=>zm8 (r.ok C).1,h⟩ else some ⟨Hb r.m,λC=>T5 (r.ok C).1,h⟩
theorem Ew(C:CxOk Γ X E ca)(h:(CB Γ.nm f && Γ.bl.contains f)=true):Gl X f/\X.mg f=none:=by
 rw[ya7]at h;exact⟨C.gl h.1,C.bl f (yb8.mp h.2)⟩
def iRg(D:Dc)(Γ:Gm)(tg a:Expr)(p c:Pos):Option (IR Γ tg (.Call (.Name "range" p) [a] [] c)):=gd (CB Γ.nm "range" && Γ.bl.contains "range") λh=>(D.a Γ [a]).bind λr=>some ⟨CM r.m,λC=>zgp (Ew C h).1 (Ew C h).2 (r.ok C) (CW (r.st a (ya5 ..))),rfl⟩
def iEn(D:Dc)(Γ:Gm)(tg a:Expr)(p c:Pos):Option (IR Γ tg (.Call (.Name "enumerate" p) [a] [] c)):=match tg with
 |.Tuple ..=>gd (CB Γ.nm "enumerate" && Γ.bl.contains "enumerate") λh=>(D.a Γ [a]).bind λr=>if Γ.ox.tx then some ⟨WT r.m,λC=>r_enX (Ew C h).1 (Ew C h).2 (r.ok C) (CW (r.st a (ya5 ..))),rfl⟩ else
  some ⟨DB r.m,λC=>T6 (Ew C h).1 (Ew C h).2 (r.ok C) (CW (r.st a (ya5 ..))),rfl⟩
 |_=>none
def iZp(D:Dc)(Γ:Gm)(tg a b:Expr)(p c:Pos):Option (IR Γ tg (.Call (.Name "zip" p) [a,b] [] c)):=match tg with
 |.Tuple ..=>gd (CB Γ.nm "zip" && Γ.bl.contains "zip") λh=>(D.a Γ [a,b]).bind λr=>some ⟨GA r.m,λC =>
   have s2:=λenv=>Ia (env:=env) (r.st b (ya4 _ (ya5 ..)))
   r_zip (Ew C h).1 (Ew C h).2 (r.ok C) (by rw[CW (r.st a (ya5 ..)),s2]) (s2 _),rfl⟩
 |_=>none
def iE1(D:Dc)(Γ:Gm)(tg a:Expr)(p c:Pos)(k:Keyword):Option (IR Γ tg (.Call (.Name "enumerate" p) [a] [k] c)):=match tg,k with
 |.Tuple ..,⟨some y,.Constant (.int i) ko vp,kp⟩=>if hy:y="start"/\i=1 then gd (CB Γ.nm "enumerate" && Γ.bl.contains "enumerate") λh=>(D.a Γ [a]).bind λr=>some ⟨GB r.m,λC=>by
   obtain⟨rfl,rfl⟩:=hy;exact r_en1 (Ew C h).1 (Ew C h).2 (r.ok C) (CW (r.st a (ya5 ..))),rfl⟩ else none
 |_,_=>none
def dI(D:Dc)(Γ:Gm)(tg e:Expr):Option (IR Γ tg e):=match e with
 |.Call (.Name f p) es ks c=>(match es,ks with
  |[a],[]=>if h:f="range" then (match f,h with|_,rfl=>iRg D Γ tg a p c) else
   if h:f="enumerate" then (match f,h with|_,rfl=>iEn D Γ tg a p c) else
   iV D Γ tg _
  |[a,b],[]=>if h:f="zip" then (match f,h with|_,rfl=>iZp D Γ tg a b p c) else iV D Γ tg _
  |[a],[k]=>if h:f="enumerate" then (match f,h with|_,rfl=>iE1 D Γ tg a p c k) else none
  |_,_=>iV D Γ tg _)
 |e=>iV D Γ tg e
def dC(D:Dc)(Γ:Gm)(elt tg iter:Expr)(ifs:List Expr)(scope:Scope):Option (LR Γ elt tg iter ifs scope) :=
 gd (JL Γ scope (DI tg++DO scope.names)) λhb=>ob (JH Γ.N (DO scope.names)) λcaps hc=>(dI D Γ tg iter).bind λri=>(dG (Γ.blk scope (DI tg++DO scope.names)) tg).bind λrg=>(D.e (Γ.blk scope (DI tg++DO scope.names)) elt).bind λre=>match ifs with
  |[]=>some ⟨Ar (DI tg).length caps ri.m rg.m (mC (.bl true)) re.m,λ{X} {E} {ca} C=>⟨caps,ri.m,rg.m,_,re.m,rfl,YW C hb hc,ri.ok C,λcl A s₀ H₀ ex xb E' hp =>
    have C':=YY C hb cl A s₀ H₀ ex xb (E':=E') hp
    ⟨rg.ok C',λpins s σ H Q I q=>zj1 pins s σ H Q I (Mj (K:=X.K) (E:=E') (ca:=ca) q),(re.ok C').1⟩,PB ri.ns⟩⟩
  |[c]=>gd (FR c) λhk=>(D.e (Γ.blk scope (DI tg++DO scope.names)) c).bind λrt=>some ⟨Ar (DI tg).length caps ri.m rg.m rt.m re.m,λ{X} {E} {ca} C=>⟨caps,ri.m,rg.m,rt.m,re.m,rfl,YW C hb hc,ri.ok C,λcl A s₀ H₀ ex xb E' hp =>
    have C':=YY C hb cl A s₀ H₀ ex xb (E':=E') hp
    ⟨rg.ok C',zj0 (rt.t hk C'),(re.ok C').1⟩,PB ri.ns⟩⟩
  |_=>none
def eLC(D:Dc)(Γ:Gm)(elt:Expr)(gens:List Comprehension)(scope:Scope)(pos:Pos):Option (ER Γ (.ListComp elt gens scope pos)):=match gens with
 |[⟨tg,iter,ifs,0⟩]=>(dC D Γ elt tg iter ifs scope).bind λr=>vl r.m λC=>by
  obtain⟨caps,mi,b,mt,me,h,B,hi,hg,hs⟩:=r.ok C;rw[h];exact r_lcV B (cq:=λX=>X.calm=true) (λ_ _ _ _ _ _ _ _ _=>C.calm) (Tn hi) C.ps C.fr (λcl A s H ex xb E' hp=>(hg cl A s H ex xb E' hp).1) (λcl A s H ex xb E' hp=>(hg cl A s H ex xb E' hp).2.1) (λcl A s H ex xb E' hp=>(hg cl A s H ex xb E' hp).2.2) hs
 |_=>none
def eIf(D:Dc)(Γ:Gm)(c a b:Expr)(pos:Pos):Option (ER Γ (.IfExp c a b pos)):=gd (FR c) λh=>(D.e Γ c).bind λrc=>(D.e Γ a).bind λra=>(D.e Γ b).bind λrb=>some ⟨DX rc.m ra.m rb.m,λC=>⟨r_ife (rc.t h C) (ra.ok C).1 (rb.ok C).1,λz=>by cases z⟩⟩
def dEs(D:Dc)(Γ:Gm):(e:Expr)->Option (ER Γ e)
 |.Constant c k pos=>eCst Γ c k pos
 |.Name x pos=>eNam Γ x pos
 |.Attribute o f pos=>gd (Fp o) λh=>(D.e Γ o).bind λr=>Pc r h Γ.ox.cl λ_ h=>h
 |.Call f es ks c=>(match f with
  |.Attribute o f ap=>eAtt D Γ o f ap es ks c
  |.Name f p=>eCal D Γ f p es ks c
  |_=>none)
 |.Compare a ops bs pos=>eCmp D Γ a ops bs pos
 |.BinOp a op b pos=>(opF op).bind λg=>(D.e Γ a).bind λra=>(D.e Γ b).bind λrb=>vl (Bf (g2 g.g) (AB ra.m (AB rb.m AE))) λC=>r_bin g.ok (ra.ok C).1 (rb.ok C).1
 |.UnaryOp op a pos=>eUn D Γ op a pos
 |.BoolOp op vs pos=>(D.b Γ op vs).bind λr=>some ⟨r.m,λC=>⟨(r.ok C).1,λ_=>(r.ok C).2.pt⟩⟩
 |.IfExp c a b pos=>eIf D Γ c a b pos
 |.List es pos=>(D.o Γ es).bind λr=>vl (BJ r.m) λC=>r_lst (r.ok C)
 |.Tuple es k pos=>(D.a Γ es).bind λr=>vl (B5 r.m) λC=>r_tup (r.ok C)
 |.Subscript a k pos=>eSub D Γ a k pos
 |.ListComp elt gens scope pos=>eLC D Γ elt gens scope pos
 |_=>none
def dAs(D:Dc)(Γ:Gm):(es:List Expr)->Option (AR Γ es)
 |[]=>some ⟨AE,λ_=>T4,λ_ h=>(by cases h),λ_=>rfl⟩
 |e::es=>gd (Dq e) λh=>(D.e Γ e).bind λr=>(D.a Γ es).bind λa=>some ⟨AB r.m a.m,λC=>T7 (r.ok C).1 (a.ok C) (CW h),λx hx=>(ya9.mp hx).elim (λz=>z▸h) (a.st x),λz=>by cases z⟩
def dOs(D:Dc)(Γ:Gm):(es:List Expr)->Option (OR Γ es)
 |[]=>some ⟨AE,λ_=>zm5⟩
 |e::es=>gd (Dq e) λh=>(D.e Γ e).bind λr=>(D.o Γ es).bind λa=>some ⟨BC r.m a.m,λC=>ziv (r.ok C).1 (a.ok C) (CW h)⟩
def dBs(D:Dc)(Γ:Gm)(op:BoolOp):(es:List Expr)->Option (BR Γ op es)
 |[]=>none
 |[a]=>gd (FR a) λh=>(D.e Γ a).bind λr=>some ⟨r.m,λC=>⟨r_one (r.ok C).1,by
   cases op with
   |And=>exact zit (r.t h C)
   |Or=>exact zis (r.t h C)⟩⟩
 |a::b::es=>gd (FR a) λh=>(D.e Γ a).bind λr=>(D.b Γ op (b::es)).bind λrb=>match op,rb with
  |.And,rb=>some ⟨CP r.m rb.m,λC=>⟨r_and (r.ok C).1 (rb.ok C).1,zm1 (r.t h C) (rb.ok C).2⟩⟩
  |.Or,rb=>some ⟨Bu r.m rb.m,λC=>⟨r_or (r.ok C).1 (rb.ok C).1,r_wor (r.t h C) (rb.ok C).2⟩⟩
noncomputable def pkB:List Str:=["len","isinstance","all","any","abs","min","max","int"]
def isLC:Expr->Bool
 |.ListComp ..=>true
 |_=>false
def Bp:Nat->List Str->Expr->List Str
 |0,_,_=>[]
 |n+1,pk,e =>
  let peek:=λ(x:Expr)=>match x with
   |.Name _ _=>[]
   |x=>Bp n pk x
  match e with
  |.Name x _=>[x]
  |.BinOp a _ b _=>Bp n pk a++Bp n pk b
  |.UnaryOp _ a _=>Bp n pk a
  |.BoolOp _ vs _=>vs.flatMap (Bp n pk)
  |.Compare a _ bs _=>peek a++bs.flatMap peek
  |.IfExp c a b _=>Bp n pk c++Bp n pk a++Bp n pk b
  |.Call (.Name f _) args [] _=>if pkB.contains f || pk.contains f then args.flatMap peek else args.flatMap (Bp n pk)
  |.Call (.Attribute _ _ _) args [] _=>args.flatMap λa=>if isLC a then Bp n pk a else []
  |.Subscript a k _=>(match k with
   |.Slice lo hi _ _=>Bp n pk a++(match lo with|some e=>Bp n pk e|none=>[])++(match hi with|some e=>Bp n pk e|none=>[])
   |_=>peek a++Bp n pk k)
  |.List es _=>es.flatMap (Bp n pk)
  |.Tuple es _ _=>es.flatMap (Bp n pk)
  |.ListComp _ [⟨_,iter,_,_⟩] scope _=>Bp n pk iter++DO scope.names
  |_=>[]
def useS(pk:List Str):Stmt->List Str
 |.Expr (.Call (.Attribute (.Name _ _) _ _) [e] [] _) _=>Bp 40 pk e
 |.Expr e _=>Bp 40 pk e
 |.Return (some (.Name _ _)) _=>[]
 |.Return (some e) _=>Bp 40 pk e
 |.Assign [.Subscript (.Subscript _ k _) j _] e _=>Bp 40 pk k++Bp 40 pk j++Bp 40 pk e
 |.Assign [.Subscript _ k _] e _=>Bp 40 pk k++Bp 40 pk e
 |.Assign [_] e _=>Bp 40 pk e
 |.If c _ _ _=>Bp 40 pk c
 |.For _ it _ _ _=>Bp 40 pk it
 |.While c _ _ _=>Bp 40 pk c
 |_=>[]
def frzs(Γ:Gm)(s:Stmt):List Nat:=((useS Γ.pk s).filter (Γ.ow.contains ·)).eraseDups.filterMap (DY Γ.N)
def Oy(l:List Nat)(m:AI):AI:=l.foldr (λi m=>AF (Dk i) m) m
def Jw(Γ:Gm)(x:Str)(px:Pos):Expr->Bool
 |.ListComp _ _ scope p=>Γ.nm.lookup x == some .local && px.line == p.line && !(scope.names.any λ(n,k)=>n == x && (k == .local || k == .cell))
 |_=>false
def RQ(Γ:Gm)(x:Str):Bool:=Γ.nm.lookup x == some .cell
def HU(Γ:Gm)(x:Str)(i:Nat)(m:AJ):AI:=if Γ.ow.contains x then CJ i m else AU m (AD i)
def Bz(c:Str)(ms:BI):AI:=λτ=>match ms τ with
 |some (.v ts _)=>if ts.length<=BP then some (.xc c τ) else none
 |some (.x c)=>some (.xc c τ)
 |none=>none
def KZ(Γ:Gm)(x y:Str)(px py:Pos)(a b:Expr):Bool :=
 Γ.nm.lookup x == some .local && Γ.nm.lookup y == some .local && px.line == py.line && !(x == y) && Dq a && Dq b && !(foldedForSure 8 a && foldedForSure 8 b) && !(constantsAlone 8 a && constantsAlone 8 b) && C7 x && C7 y
variable {mu:Bool}{elt a:Expr}{p2 cpos:Pos}{ms:BI}
section
theorem My{rest:List Stmt}{w:AI}(h:BY X rest (tS X.K E ca mu w)):∀l:List Nat,BY X rest (tS X.K E ca mu (Oy l w))
 |[]=>h
 |i::r=>s_frz (My h r)
theorem IS{t:Option Expr}{l:Nat}(h:Eu e=false):swapsWith e t l env=pure false:=by
 cases e<;>first|rfl|cases h
theorem YV(h:env.scope.kind=.function):env.blockKind=.function:=by
 unfold Env.blockKind;rw[h]
 rfl
theorem zgb(C:CxOk Γ X E ca){gens:List Comprehension}{p px:Pos}{l:Nat}(h:Jw Γ x px (.ListComp elt gens scope p)=true):swapsWith (.ListComp elt gens scope p) (some (.Name x px)) l X.env=pure true:=by
 have e:swapsWith (.ListComp elt gens scope p) (some (.Name x px)) l X.env=pure (X.env.blockKind == .function && X.env.kindOf x == some .local && px.line == p.line && !(scope.names.any λ(n,k)=>n == x && (k == .local || k == .cell))):=rfl
 rw[e];unfold Jw at h
 simp only[ya7]at h;have k:X.env.kindOf x=some .local:=by
  show X.env.scope.names.lookup x=some .local;rw[C.nm];exact eq_of_beq h.1.1
 rw[YV C.kd,k,h.1.2,h.2]
 rfl
theorem zih(C:CxOk Γ X E ca){px:Pos}{l:Nat}(h:RQ Γ x=true):swapsWith e (some (.Name x px)) l X.env=pure false:=by
 have k:X.env.kindOf x=some .cell:=by
  show X.env.scope.names.lookup x=some .cell;rw[C.nm];exact eq_of_beq h
 have c:(some NameKind.cell == some NameKind.local)=false:=rfl;cases e<;>first|rfl|(unfold swapsWith;simp only[k,c,Bool.and_false,ye1])
theorem zdn(C:CxOk Γ X E ca){px py pt:Pos}{kt k2:Nat}{b:Expr}(h:KZ Γ x y px py a b=true):swappedStores [.Tuple [.Name x px,.Name y py] kt pt] (.Tuple [a,b] k2 p2) X.env=pure (some [x,y]):=by
 unfold KZ at h;simp only[ya7,ybs,yfb]at h;obtain⟨⟨⟨⟨⟨⟨⟨⟨⟨h1,h2⟩,h3⟩,h4⟩,h5⟩,h6⟩,h7⟩,h8⟩,_⟩,_⟩:=h
 have kx:X.env.kindOf x=some .local:=by
  show X.env.scope.names.lookup x=some .local;rw[C.nm];exact h1
 have ky:X.env.kindOf y=some .local:=by
  show X.env.scope.names.lookup y=some .local;rw[C.nm];exact h2
 have ed:([x,y]:List Str).eraseDups=[x,y]:=by
  have:(y == x)=false:=by
   rw[yfq]at h4 ⊢;exact ybc h4
  simp[List.eraseDups_cons,this,h4]
 have f1:(if (X.env.kindOf x == some NameKind.local && px.line == px.line)=true then some x else none)=some x:=by rw[kx,yff,yff];rfl
 have f2:(if (X.env.kindOf y == some NameKind.local && py.line == px.line)=true then some y else none)=some y:=by rw[ky,yff,<- h3,yff];rfl
 unfold swappedStores;dsimp only[List.length,List.any,List.all,List.filterMap,List.head?,Option.map,Option.getD,Expr.pos];simp only[f1,f2,ed];refine(if_neg ?_).trans ((if_neg ?_).trans ((if_neg ?_).trans ((if_neg ?_).trans (if_neg ?_))))
 .rw[YV C.kd]
  decide
 .intro z;rw[yd0,yc7]at z
  rcases z with z|z
  .cases a<;>first|(cases h5;done)|(cases z;done)
  .cases b<;>first|(cases h6;done)|(cases z;done)
 .show ¬ ((2 != 2 || 2 != 2)=true)
  decide
 .rw[yea,h7];exact ybf
 .rw[yea,h8];exact ybf
theorem Mr{t:Expr}{l:Nat}(h:Eu e=false):swapsWithSole [t] e l env=pure false:=IS h
theorem RT{k:Expr}(h:Iw k=false)(v:Value):assign (.Subscript o k pos) env v=(do
   let ov <- holding [v] (eval o env);let iv <- holding [v,ov] (eval k env)
   standAt pos
   holding [v,ov,iv] (setItem ov iv v)
   release [v,ov,iv] []):=by
 cases k<;>first|rfl|cases h
theorem s_rse{c:Str}{p:Pos}(C:CxOk Γ X E ca)(hnr:Γ.ox.nr=false)(hc:c∈Γ.ex)(hg:CB Γ.nm c=true)(hp:C7 c=true)(ha:PA X (e::es) (Bs X.K E ca ms))(hs:∀x∈e::es,Dq x=true) :
  PS X (.Raise (some (.Call (.Name c p) (e::es) [] cpos)) none pos) (tS X.K E ca mu (Bz c ms)):=by
 obtain⟨T,hT⟩:=C.ex c hc;obtain⟨p1,p2,p3⟩:=Cy hp;refine PS.weak (zgu T C.calm (C.md hnr) ha (C.gl hg) p1 (CW (hs e (ya5 ..))) (FL hs)) λD σ H h=>?_
 obtain⟨F,τ,R,S,q⟩:=h;refine⟨F,τ,R,S,?_⟩;unfold Bz at q;cases hm:ms τ with
 |none=>simp only[hm]at q<;>exact q.elim
 |some r =>
  simp only[hm]at q;cases r with
  |x c=>exact λF' H' e=>q F' H' σ R e.stp0 (S.ext e)
  |v ts b =>
   intro F' H' xs e1 rs
   by_cases hz:ts.length<=BP
   .simp only[hz,yf3]at q;refine⟨by rw[<- rs.1,<- EH];exact hz,?_⟩
    have:=q F' H' σ R e1.stp0 (S.ext e1);rw[hT]at this;exact this
   .simp only[hz,yf4]at q<;>exact q.elim
end
variable {m:AJ}
theorem Y5{px:Pos}(hl:Γ.loc x=true)(hi:DY Γ.N x=some i)(C:CxOk Γ X E ca)(he:PE X e (tM X.K E ca m))(sw:∀l,swapsWith e (some (.Name x px)) l X.env=pure false) :
  PS X (.Assign [.Name x px] e pos) (tS X.K E ca mu (HU Γ x i m)):=by
 obtain⟨g1,g2,g3⟩:=C.loc hl hi;unfold HU;split
 .exact zlv C.nodup g1 g2 he (sw _) g3
 .exact Rx C.nodup g1 g2 he (sw _) g3
def aLC(D:Dc)(Γ:Gm)(x:Str)(i:Nat)(px pos:Pos)(hi:DY Γ.N x=some i):(e:Expr)->Option (SR Γ (.Assign [.Name x px] e pos))
 |.ListComp elt gens scope p=>gd (Jw Γ x px (.ListComp elt gens scope p)) λhw=>(match gens,hw with
  |[⟨tg,iter,ifs,0⟩],hw=>(dC D Γ elt tg iter ifs scope).bind λr=>some ⟨HU Γ x i r.m,λ{X} {E} {ca} C=>by
   have lx:X.env.scope.names.lookup x=some .local:=by
    unfold Jw at hw;simp only[ya7]at hw;rw[C.nm];exact eq_of_beq hw.1.1
   have hN:X.N[i]?=some x:=by rw[C.N];exact Fy hi
   obtain⟨caps,mi,b,mt,me,h,B,hi',hg,hs⟩:=r.ok C;rw[h];have main:=r_lcS (pos2:=pos) B C.calm hi' C.ps C.fr (λcl A s H ex xb E' hp=>(hg cl A s H ex xb E' hp).1) (λcl A s H ex xb E' hp=>(hg cl A s H ex xb E' hp).2.1) (λcl A s H ex xb E' hp=>(hg cl A s H ex xb E' hp).2.2) hs C.nodup hN lx (zgb C hw)
   unfold HU;split
   .exact PS.weak main λD σ H h=>RC h
   .exact PS.weak main λD σ H h=>Mg (g:=JC i) (λ_ _ _ _ z=>Wc z) h⟩
  |_,_=>none)
 |_=>none
def aNm(D:Dc)(Γ:Gm)(x:Str)(px:Pos)(e:Expr)(pos:Pos):Option (SR Γ (.Assign [.Name x px] e pos)):=gd (Γ.loc x) λhl=>ob (DY Γ.N x) λi hi =>
 if hc:Eu e=false then (D.e Γ e).bind λr=>some ⟨HU Γ x i r.m,λC=>Y5 hl hi C (r.ok C).1 λ_=>IS hc⟩
 else if hn:RQ Γ x=true then (D.e Γ e).bind λr=>some ⟨HU Γ x i r.m,λC=>Y5 hl hi C (r.ok C).1 λ_=>zih C hn⟩
 else aLC D Γ x i px pos hi e
def aPar(D:Dc)(Γ:Gm)(x y:Str)(px py:Pos)(kt:Nat)(pt:Pos)(a b:Expr)(k2:Nat)(p2 pos:Pos):Option (SR Γ (.Assign [.Tuple [.Name x px,.Name y py] kt pt] (.Tuple [a,b] k2 p2) pos)):=gd (KZ Γ x y px py a b) λhp=>ob (DY Γ.N x) λi h1=>ob (DY Γ.N y) λj h2=>(D.a Γ [a,b]).bind λr=>some ⟨IZ i j r.m,λ{X} {E} {ca} C=>by
 have hp':=hp;unfold KZ at hp';simp only[ya7,ybs,yfb]at hp';obtain⟨⟨⟨⟨⟨⟨⟨⟨⟨g1,g2⟩,g3⟩,g4⟩,_⟩,_⟩,_⟩,_⟩,_⟩,_⟩:=hp';have e1:X.N[i]?=some x:=by rw[C.N];exact Fy h1
 have e2:X.N[j]?=some y:=by rw[C.N];exact Fy h2
 have hij:i≠j:=λz=>by
  subst z;rw[e1]at e2;cases e2;simp at g4
 exact s_par C.calm C.nodup e1 e2 hij (by rw[C.nm];exact g1) (by rw[C.nm];exact g2) (r.ok C) (zdn C hp) rfl⟩
def aTup(D:Dc)(Γ:Gm)(ts:List Expr)(kt:Nat)(pt:Pos)(e:Expr)(pos:Pos):Option (SR Γ (.Assign [.Tuple ts kt pt] e pos)):=gd (!(zo2 e || Eu e)) λhc=>(dG Γ (.Tuple ts kt pt)).bind λrg=>(D.e Γ e).bind λr=>some ⟨AU r.m rg.m,λC=>by
 have hc':=DV hc;rw[ybx]at hc';refine zls (r.ok C).1 (rg.ok C) (Mr hc'.2) ?_ rfl;have ht:=hc'.1;cases e<;>first|rfl|cases ht⟩
def aTp(D:Dc)(Γ:Gm)(ts:List Expr)(kt:Nat)(pt:Pos)(e:Expr)(pos:Pos):Option (SR Γ (.Assign [.Tuple ts kt pt] e pos)) :=
 match ts,e with
 |[.Name x px,.Name y py],.Tuple [a,b] k2 p2=>aPar D Γ x y px py kt pt a b k2 p2 pos
 |ts,e =>
 aTup D Γ ts kt pt e pos
def aSto(D:Dc)(Γ:Gm)(x:Str)(p1:Pos)(j:Expr)(p3:Pos)(e:Expr)(pos:Pos):Option (SR Γ (.Assign [.Subscript (.Name x p1) j p3] e pos)):=gd (!(Iw j || Eu e)) λhc=>ob (Γ.var x) λi hi=>(D.e Γ j).bind λrk=>(D.e Γ e).bind λr=>some ⟨IY i rk.m r.m,λC=>by
 have hc':=DV hc;rw[ybx]at hc';obtain⟨v1,v2,v3,v4⟩:=C.var (pos:=p1) hi;refine s_sto v1 v2 v3 v4 (r.ok C).1 (rk.ok C).1 (Mr hc'.2) ?_ (RT hc'.1);cases e<;>rfl⟩
variable {j:Nat}
theorem Oi{fs:List Str}(h:fs.findIdx? (· == f)=some j):f∈fs/\fs[j]?=some f:=by
 obtain⟨q1,q2,_⟩:=ybj.mp h;have e:fs[j]?=some f:=by rw[ya0 q1];exact congrArg some (eq_of_beq q2)
 exact⟨yab e,e⟩
def aDpf(D:Dc)(Γ:Gm)(x f:Str)(p1 p2:Pos)(j:Expr)(p3:Pos)(e:Expr)(pos:Pos):Option (SR Γ (.Assign [.Subscript (.Attribute (.Name x p1) f p2) j p3] e pos)):=gd (!(Iw j || Eu e)) λhc=>ob Γ.ox.sf λc hs=>ob (Γ.var x) λi hi=>ob (c.2.findIdx? (· == f)) λjj hj=>(D.e Γ j).bind λrk=>(D.e Γ e).bind λr=>some ⟨Ib c.1 c.2 jj i rk.m r.m,λC=>by
 have hc':=DV hc;rw[ybx]at hc';obtain⟨v1,v2,v3,v4⟩:=C.var (pos:=p1) hi;obtain⟨k1,k2⟩:=C.gx.sf c.1 c.2 hs;refine s_dpf (by have:=C.room.units;omega) k1 (k2 f (Oi hj).1) hj v1 v2 v3 v4 (r.ok C).1 (rk.ok C).1 (Mr hc'.2) ?_ (RT hc'.1)
 cases e<;>rfl⟩
variable {p1:Pos}
theorem X4{c:Addr×List Str}{jj:Nat}(hs:Γ.ox.sf=some c)(hi:Γ.var x=some i)(hj:c.2.findIdx? (· == f)=some jj)(hc:(!((c.2.take jj).contains f || !(decide (jj<900)) || Eu e))=true)(C:CxOk Γ X E ca)(he:PE X e (tM X.K E ca m)) :
  PS X (.Assign [.Attribute (.Name x p1) f p2] e pos) (tS X.K E ca Γ.mu (Dl c.1 c.2 jj i m)):=by
 have hc':=DV hc;rw[ybx,ybx,Bool.not_eq_false',yfc]at hc';obtain⟨⟨c1,c2⟩,c3⟩:=hc';obtain⟨v1,v2,v3,v4⟩:=C.var (pos:=p1) hi;obtain⟨k1,k2⟩:=C.gx.sf c.1 c.2 hs;exact zlw k1 (k2 f (Oi hj).1) (Oi hj).2 c1 c2 v1 v2 v3 v4 he (IS c3)
def aFl(D:Dc)(Γ:Gm)(x f:Str)(p1 p2:Pos)(e:Expr)(pos:Pos):Option (SR Γ (.Assign [.Attribute (.Name x p1) f p2] e pos)):=ob Γ.ox.sf λc hs=>ob (Γ.var x) λi hi=>ob (c.2.findIdx? (· == f)) λjj hj=>gd (!((c.2.take jj).contains f || !(decide (jj<900)) || Eu e)) λhc=>match e,hc with
 |.Dict [] [] p,hc=>some ⟨Dl c.1 c.2 jj i Kv,λC=>X4 hs hi hj hc C zm9⟩
 |e,hc=>(D.e Γ e).bind λr=>some ⟨Dl c.1 c.2 jj i r.m,λC=>X4 hs hi hj hc C (r.ok C).1⟩
def aSub(D:Dc)(Γ:Gm)(a j:Expr)(p3:Pos)(e:Expr)(pos:Pos):Option (SR Γ (.Assign [.Subscript a j p3] e pos)):=match a with
 |.Name x p1=>aSto D Γ x p1 j p3 e pos
 |.Attribute (.Name x p1) f p2=>aDpf D Γ x f p1 p2 j p3 e pos
 |_=>none
def dAsg(D:Dc)(Γ:Gm)(ts:List Expr)(e:Expr)(pos:Pos):Option (SR Γ (.Assign ts e pos)):=match ts with
 |[t]=>(match t with
  |.Name x px=>aNm D Γ x px e pos
  |.Tuple ts kt pt=>aTp D Γ ts kt pt e pos
  |.Subscript a j p3=>aSub D Γ a j p3 e pos
  |.Attribute o f p2=>(match o with
   |.Name x p1=>aFl D Γ x f p1 p2 e pos
   |_=>none)
  |_=>none)
 |_=>none
def xApp(D:Dc)(Γ:Gm)(x:Str)(p:Pos)(f:Str)(apos:Pos)(a:Expr)(cpos pos:Pos):Option (SR Γ (.Expr (.Call (.Attribute (.Name x p) f apos) [a] [] cpos) pos)):=gd (Dq a) λh1=>gd (apos.endLine == cpos.line) λh2=>ob (Γ.var x) λi hi=>(D.e Γ a).bind λr =>
 if hf:f="append" then some ⟨C6 i r.m,λC=>by
  subst hf;obtain⟨v1,v2,v3,v4⟩:=C.var (pos:=p) hi;exact s_app v1 v2 v3 v4 (r.ok C).1 (Ia h1) h2⟩ else
 if hf:f="extend" then some ⟨En i r.m,λC=>by
  subst hf;obtain⟨v1,v2,v3,v4⟩:=C.var (pos:=p) hi;exact s_ext v1 v2 v3 v4 (r.ok C).1 (Ia h1) h2⟩ else
 none
def xExp(D:Dc)(Γ:Gm)(e:Expr)(pos:Pos):Option (SR Γ (.Expr e pos)):=gd (!(Eu e)) λhc=>(D.e Γ e).bind λr=>some ⟨Fk r.m,λC=>s_exp (r.ok C).1 (IS (DV hc))⟩
def dX(D:Dc)(Γ:Gm)(e:Expr)(pos:Pos):Option (SR Γ (.Expr e pos)):=match e with
 |.Call (.Attribute (.Name x p) f apos) [a] [] cpos=>xApp D Γ x p f apos a cpos pos
 |e=>xExp D Γ e pos
def xRet(D:Dc)(Γ:Gm)(o:Option Expr)(pos:Pos):Option (SR Γ (.Return o pos)):=gd (!Γ.mu) λhmu=>match o with
 |none=>some ⟨NK,λC=>by rw[DV hmu];exact zlt⟩
 |some e=>(D.e Γ e).bind λr=>some ⟨AX r.m,λC=>by rw[DV hmu];exact Ry (r.ok C).1⟩
def xRse(D:Dc)(Γ:Gm)(a b:Option Expr)(pos:Pos):Option (SR Γ (.Raise a b pos)):=match a,b with
 |some (.Call (.Name c p) (e::es) [] cp),none=>gd (!(Γ.ox.nr)) λh1=>gd (Γ.ex.contains c) λh2=>gd (CB Γ.nm c) λh3=>gd (C7 c) λh4=>(D.a Γ (e::es)).bind λr=>some ⟨Bz c r.m,λC=>s_rse C (DV h1) (yb8.mp h2) h3 h4 (r.ok C) r.st⟩
 |_,_=>none
def xFor(D:Dc)(Γ:Gm)(tg it:Expr)(body els:List Stmt)(pos:Pos):Option (SR Γ (.For tg it body els pos)):=match els with
 |[]=>gd (!(Γ.ox.nr)) λh=>(dI D Γ tg it).bind λri=>(dG Γ tg).bind λrg=>(D.q Γ body).bind λr=>some ⟨B3 ri.m rg.m r.m,λC=>s_for (C.po (DV h)) C.calm (ri.ok C) (rg.ok C) (r.ok C) (PB ri.ns)⟩
 |_=>none
def xWh(D:Dc)(Γ:Gm)(c:Expr)(body els:List Stmt)(pos:Pos):Option (SR Γ (.While c body els pos)):=match els with
 |[]=>gd (!(Γ.ox.nr)) λh=>gd (FR c) λhk=>(D.e Γ c).bind λrc=>(D.q Γ body).bind λr=>some ⟨Em rc.m r.m,λC=>s_wh (C.po (DV h)) (rc.t hk C) (r.ok C)⟩
 |_=>none
structure CxS(Γ:Gm)(X:Cx)(ca:Str->Value):Prop where
 N:X.N=Γ.N
 nd:Γ.N.Nodup
 nm:X.env.scope.names=Γ.nm
 rm:Room Γ.lv (UE X.A)
 bl:∀b∈Γ.bl,X.mg b=none
 gx:GxOk Γ.ox Γ.lv X.prog X.w X.K X.mg X.base ca
theorem CxS.var{Γ:Gm}{X:Cx}{ca:Str->Value}(C:CxS Γ X ca){x:Str}{i:Nat}(h:Γ.var x=some i):X.N[i]?=some x/\D0 X.env.scope x/\(x == ("__debug__":Str))=false/\(x == ("__classdict__":Str))=false:=by
 unfold Gm.var at h;split at h
 .rename_i hp;rw[ya7]at hp;obtain⟨p1,p2,p3⟩:=Cy hp.1;exact⟨by rw[C.N];exact Fy h,Qk (by rw[C.nm];exact hp.2),p1,p2⟩
 .cases h
theorem CxS.gl(C:CxS Γ X ca)(h:CB Γ.nm x=true):Gl X x:=by
 unfold CB at h;show X.env.scope.names.lookup x=some .globalImplicit;rw[C.nm];exact eq_of_beq h
structure XE(Γ:Gm)(e:Expr) where
 m:AJ
 ok:∀{X:Cx} {E:L2.St->XK} {ca:Str->Value},CxS Γ X ca->PE X e (tM X.K E ca m)
structure XQ(Γ:Gm)(ss:List Stmt) where
 m:AI
 ok:∀{X:Cx} {E:L2.St->XK} {ca:Str->Value},CxS Γ X ca->BY X ss (tS X.K E ca false m)
def xE(Γ:Gm):(e:Expr)->Option (XE Γ e)
 |.Name x p=>ob (Γ.var x) λi hi=>some ⟨AA i,λC=>by
  obtain⟨h1,h2,h3,h4⟩:=C.var hi;exact TY h1 h2 h3 h4⟩
 |.Constant c k p=>(match c with
  |.none=>some ⟨mC .non,λ_=>Ie Tq λ_ _=>.non⟩
  |_=>none)
 |_=>none
def xS(Γ:Gm):(ss:List Stmt)->Option (XQ Γ ss)
 |[]=>some ⟨Ae,λ_=>SG⟩
 |s::r=>(match s with
  |.Return (some e) p=>(match r with
   |[]=>(xE Γ e).bind λq=>some ⟨AX q.m,λC=>Mx (Ry (q.ok C))⟩
   |_=>none)
  |.Assign [.Name x q] e p=>gd (Γ.loc x) λh1=>gd (Γ.nm.lookup x == some .local) λh2=>gd (!(Eu e)) λh3=>ob (DY Γ.N x) λi hi=>(xE Γ e).bind λre=>(xS Γ r).bind λrs=>some ⟨AF (AU re.m (AD i)) rs.m,λ{X} {E} {ca} C=>by
   have hl:X.env.scope.names.lookup x=some .local:=by rw[C.nm];exact eq_of_beq h2
   exact Mz (Rx (by rw[C.N];exact C.nd) (by rw[C.N];exact Fy hi) (.inl hl) (re.ok C) (IS (DV h3)) (.inr hl)) (rs.ok C)⟩
  |_=>none)
variable {pins:List (Addr×Obj)}
theorem zob{E':L2.St->XK}{xe:Value->Shared->Prop}(C:CxOk Γ X E ca)(hp:BH (EZ X pins xe) E'):CxOk { Γ with ox:={ Γ.ox with nr:=true } } (EZ X pins xe) E' ca :=
 ⟨C.N,C.nd,C.nm,C.kd,C.calm,C.room,C.ce,C.bl,hp,λz=>(by cases z),λz=>(by cases z),C.fs,C.ex,C.ms,⟨C.gx.co,C.gx.cl,C.gx.mt,C.gx.nw,C.gx.sf,C.gx.xs,C.gx.sb,C.gx.sv,C.gx.ci,C.gx.x2,C.gx.wd,C.gx.ti,C.gx.dn⟩,C.tr,C.fr⟩
def xTr0(D:Dc)(Γ:Gm)(body:List Stmt)(W:Str)(np:Pos)(b0:Stmt)(suite:List Stmt)(hpos pos:Pos):Option (SR Γ (.Try body [.ExceptHandler (some (.Name W np)) none (b0::suite) hpos] [] [] pos)):=gd (Γ.ox.df && !(Γ.ox.nr) && !(Γ.mu) && CB Γ.nm W && C7 W) λhc=>ob (Γ.ox.xs.lookup W) λcs h2=>(D.q { Γ with ox:={ Γ.ox with nr:=true } } body).bind λu=>(xS Γ (b0::suite)).bind λh=>some ⟨HR cs u.m h.m,λ{X} {E} {ca} C=>by
 simp only[ya7,ybs]at hc;obtain⟨⟨⟨⟨c1,c2⟩,c3⟩,c5⟩,c6⟩:=hc;obtain⟨T,hT⟩:=C.gx.xs W cs h2;obtain⟨t1,t2⟩:=C.tr c1;have g:∀(E':L2.St->XK) pins xe,BH (EZ X pins xe) E'->BY (EZ X pins xe) body (tS X.K E' ca Γ.mu u.m):=λE' pins xe hp=>u.ok (zob C hp)
 generalize u.m=um at g ⊢;rw[c3]at g ⊢;exact zlr T hT t1 t2 g (λa=>h.ok ⟨C.N,C.nd,C.nm,⟨rfl,C.room.dp,C.room.un⟩,C.bl,C.gx⟩) (C.gl c5) (Cy c6).1⟩
def xTry(D:Dc)(Γ:Gm)(body:List Stmt)(hs:List ExceptHandler)(els BE:List Stmt)(pos:Pos):Option (SR Γ (.Try body hs els BE pos)):=match hs,els,BE with
 |[.ExceptHandler (some (.Name W np)) none (b0::suite) hpos],[],[]=>xTr0 D Γ body W np b0 suite hpos pos
 |_,_,_=>none
def dSt(D:Dc)(Γ:Gm):(s:Stmt)->Option (SR Γ s)
 |.Pass _=>some ⟨Ae,λ_=>zlu⟩
 |.Return o pos=>xRet D Γ o pos
 |.Expr e pos=>dX D Γ e pos
 |.Assign ts e pos=>dAsg D Γ ts e pos
 |.If c a b pos=>gd (FR c) λh=>(D.e Γ c).bind λrc=>(D.q Γ a).bind λra=>(D.q Γ b).bind λrb=>some ⟨Af rc.m ra.m rb.m,λC=>s_if (rc.t h C) (ra.ok C) (rb.ok C)⟩
 |.For tg it body els pos=>xFor D Γ tg it body els pos
 |.While c body els pos=>xWh D Γ c body els pos
 |.Raise a b pos=>xRse D Γ a b pos
 |.Try body hs els BE pos=>xTry D Γ body hs els BE pos
 |_=>none
def dSq(D:Dc)(Γ:Gm):(ss:List Stmt)->Option (QR Γ ss)
 |[]=>some ⟨Ae,λ_=>SG⟩
 |[s]=>(match D.s Γ s with
  |some r=>some ⟨Oy (frzs Γ s) r.m,λC=>My (Mx (r.ok C)) _⟩
  |none=>if Γ.ox.no then some ⟨HS,λ_=>Mx SF⟩ else none)
 |s::s2::r=>(D.q Γ (s2::r)).bind λrs=>match D.s Γ s with
  |some q=>some ⟨Oy (frzs Γ s) (AF q.m rs.m),λC=>My (Mz (q.ok C) (rs.ok C)) _⟩
  |none=>if Γ.ox.no then some ⟨AF HS rs.m,λC=>Mz SF (rs.ok C)⟩ else none
def Gn:Nat->Dc
 |0=>⟨λ_ _=>none,λ_ _=>none,λ_ _=>none,λ_ _ _=>none,λ_ _=>none,λ_ _=>none⟩
 |n+1=>⟨dEs (Gn n),dAs (Gn n),dOs (Gn n),dBs (Gn n),dSt (Gn n),dSq (Gn n)⟩
def L0(n:Nat)(Γ:Gm)(ss:List Stmt):Option (AI):=((Gn n).q Γ ss).map QR.m
structure GoodS(ca:Str->Value)(n:Nat):Prop where
 ss:∀{Γ:Gm} {X:Cx} {E:L2.St->XK} {st:List Stmt} {m:AI},CxOk Γ X E ca->L0 n Γ st=some m->BY X st (tS X.K E ca Γ.mu m)
theorem WV(ca:Str->Value)(n:Nat):GoodS ca n:=⟨λC h=>by
 obtain⟨r,_,rfl⟩:=yah.mp h;exact r.ok C⟩
end Pu
end
namespace Pu
open PySem PySem.Spec PyProof.Rows L2 Zw Zx
variable {ca:Str->Value}{Γ:Gm}
noncomputable def NQ(n:Nat)(u:AI)(ts:List T):Option Ru:=match u (ts.map some++List.replicate (n - ts.length) none) with
 |some (.rt t)=>some (.ok t)
 |some (.nx _)=>some (.ok .non)
 |some (.xc c _)=>some (.exc c)
 |_=>none
def Ac(k n:Nat)(u:AI)(ts:List T):Option Ru:=if ts.length=k then NQ n u ts else none
variable {F H F' H':Hp}{R:Nat->Rg}
theorem Mp{O':Rg}(hR:∀i a,¬ R i a)(s:Stp F H (tot R) F' H' O'):Ext F H F' H' O' where
 hh:=λb u e=>s.kp b u (λ⟨i,z⟩=>hR i b z) e
 ff:=s.ff
 fh:=s.fh
 nb:=λb z=>(s.nw b z).elim (λ⟨i,w⟩=>absurd w (hR i b)) id
 nf:=λb u e=>(s.nf b u e).elim .inl λz=>z.elim (λ⟨i,w⟩=>absurd w (hR i b)) .inr
variable {N:List Str}{ts:List T}
theorem zgd{K:k9}{vs:List V}(fh:A7 F H)(r:Ad K F ts vs):StR K F H (start N vs) (ts.map some++List.replicate (N.length - ts.length) none) (λ_=>R0):=by
 have hl:=r.1;refine⟨fh,by simp[L2.start,hl],λi t e=>?_,λ_ _ z=>z.elim,λ_ _ _ _ z=>z.elim⟩
 unfold L2.start
 by_cases hi:i<ts.length
 .rw[yaz (by simpa using hi),ya3]at e
  obtain⟨t',e1,e2⟩:=yah.mp e;cases e2;have hv:i<vs.length:=by omega
  refine⟨vs[i],?_,(r.2 i t vs[i] e1 (ya0 hv)).any⟩;rw[yaz (by simpa using hv),ya3,ya0 hv]
  rfl
 .rw[yb2 (by simp;omega)]at e
  obtain⟨h1,h2⟩:=ya6.mp e;simp at h2
variable {ps:List Str}{Q:VK}{u:AI}
theorem zlz{K:k9}{vs:List V}{E:XK}(h:BA K ca (Ac ps.length N.length u) vs H Q E):tS K (λ_=>E) ca false u { nx:=λ_ H'=>Q .non H',rt:=Q } (start N vs) H:=by
 obtain⟨F',ts,fh,r,q⟩:=h;refine⟨F',_,_,zgd fh r,?_⟩;unfold Ac at q
 by_cases hl:ts.length=ps.length
 .simp only[hl,yf3]at q;unfold NQ at q;cases ho:u (ts.map some++List.replicate (N.length - ts.length) none) with
  |none=>simp only[ho]at q<;>exact q.elim
  |some o =>
   simp only[ho]at q;cases o with
   |nx τ=>exact λF1 H1 σ1 R1 s1 S1=>q F1 H1 .non R0 ((Mp (λ_ _ z=>z) s1).mono λ_ z=>z.elim) .non
   |rt t=>exact λF1 H1 x B s1 r1=>q F1 H1 x B (Mp (λ_ _ z=>z) s1) r1
   |bk τ=>exact q.elim
   |ct τ=>exact q.elim
   |xc c τ=>exact λF1 H1 σ1 R1 s1 S1=>q F1 H1 ((Mp (λ_ _ z=>z) s1).mono λ_ z=>z.elim)
 .simp only[hl,yf4]at q<;>exact q.elim
variable {P:Program}{w:World}{mg:Str->Option Value}{base:Heap}{x:Str}{fd:FuncData}{n:Nat}
theorem Ee{K:k9}{qual:Str}{st:Stmt}{f:Addr}{k:Nat}(F:FunD K x qual st f fd)(S:FnScope N ps (A2 st))(hΓ:Γ.N=N)(hnm:Γ.nm=(A2 st).names)(hce:∀x∈Γ.ce,Γ.nm.lookup x=some .cell)(hlv:Γ.lv=k)(hbl:∀b∈Γ.bl,mg b=none)(hfs:∀f F,Γ.fns.lookup f=some F->F.lv<=k/\Nonempty (DefX P w K mg base F.lv f F.ps (BA K ca F.g)))(hex:∀c∈Γ.ex,∃T:ECls K mg c,ca c=.ref T.C)(hms:∀f F,Γ.mus.lookup f=some F->F.lv<=k/\Nonempty (DefX P w K mg base F.lv f F.ps (IU K ca F.g)))(hmu:Γ.mu=false)(hgx:GxOk Γ.ox k P w K mg base ca)(hu:L0 n Γ (Ez st)=some u):FnOk P w K mg base (Bo P w) (k+1) f fd ps (BA K ca (Ac ps.length N.length u)):=by
 refine UD F S (λvs H Q E h=>?_) λcdv A outer s H vs Q E hr h=>?_
 .obtain⟨F',ts,_,r,q⟩:=h;unfold Ac at q
  by_cases hl:ts.length=ps.length
  .rw[<- r.1,hl]
  .simp only[hl,yf4]at q<;>exact q.elim
 .have C:CxOk Γ (FA (Bo P w) P w K mg base N qual (A2 st) f cdv A outer s H E) (λ_=>E) ca:=by
   refine⟨hΓ.symm,by rw[hΓ];exact S.nd,hnm.symm,S.kind,rfl,by rw[hlv];exact hr,λy hy=>⟨rfl,hce y hy⟩,hbl,Tv,λ_=>PassesOwn.leaving,λ_=>Vd,λf F e=>by rw[hlv];exact hfs f F e,hex,λf F e=>by rw[hlv];exact hms f F e,by rw[hlv];exact hgx,λ_=>⟨rfl,rfl⟩,⟨_,_,rfl,rfl⟩⟩
  have G:=(WV ca n).ss C hu;rw[hmu]at G;refine⟨_,G,?_⟩;exact zlz h
variable {A:Rg}
theorem zei{K:k9}{t0:T}{x0:V}{vs:List V}(fh:A7 F H)(r0:Rp K F H t0 x0 A)(r:Ad K F ts vs):StR K F H (start N (x0::vs)) ((t0::ts).map some++List.replicate (N.length - (t0::ts).length) none) (λi=>if i=0 then A else R0):=by
 have hl:=r.1;refine⟨fh,by simp[L2.start,hl],λi t e=>?_,λi a z=>?_,λi j a hij z1 z2=>?_⟩
 .unfold L2.start
  by_cases hi:i<(t0::ts).length
  .rw[yaz (by simpa using hi),ya3]at e
   obtain⟨t',e1,e2⟩:=yah.mp e;cases e2;cases i with
   |zero =>
    cases e1;exact⟨x0,by simp,r0⟩
   |succ i =>
    have hi':i<ts.length:=by simpa using hi
    have hv:i<vs.length:=by omega
    refine⟨vs[i],?_,(r.2 i t vs[i] (by simpa using e1) (ya0 hv)).any⟩
    rw[yaz (by simpa using hv),ya3,ycr,ya0 hv]
    rfl
  .rw[yb2 (by simp at hi ⊢;omega)]at e
   obtain⟨h1,h2⟩:=ya6.mp e;simp at h2
 .by_cases hi:i=0
  .subst hi;exact⟨t0,rfl⟩
  .simp only[hi,yf4]at z;exact z.elim
 .by_cases hi:i=0
  .have hj:¬ j=0:=λz=>hij (hi.trans z.symm)
   simp only[hj,yf4]at z2;exact z2
  .simp only[hi,yf4]at z1;exact z1
theorem zid:tot (λi=>if i=0 then A else R0)=A:=funext λa=>propext ⟨λ⟨i,z⟩=>by
 by_cases hi:i=0
 .simp only[hi,yf3]at z;exact z
 .simp only[hi,yf4]at z;exact z.elim,λz=>⟨0,by simpa using z⟩⟩
variable {α:Type}
theorem AK{P:α->Prop}:∀x∈([]:List α),P x:=λ_ h=>by cases h
theorem AH{P:α->Prop}{a:α}{l:List α}(h:P a)(r:∀x∈l,P x):∀x∈a::l,P x:=λx hx=>by
 obtain rfl|hx:=ya9.mp hx
 .exact h
 .exact r x hx
theorem IK{P:List Value->Prop}(h:P []):∀us:List Value,us.length=0->P us:=λus e=>by
 cases us with
 |nil=>exact h
 |cons a r=>cases e
theorem DS{P:List Value->Prop}{k:Nat}(h:∀a us,us.length=k->P (a::us)):∀us:List Value,us.length=k+1->P us:=λus e=>by
 cases us with
 |nil=>cases e
 |cons a r=>exact h a r (Nat.succ.inj e)
theorem G0{P:List Value->Prop}(h:∀a,P [a]):∀us:List Value,us.length=1->P us:=DS λa=>IK (h a)
theorem Jo{P:List Value->Prop}(h:∀a b,P [a,b]):∀us:List Value,us.length=2->P us:=DS λa=>DS λb=>IK (h a b)
theorem us3{P:List Value->Prop}(h:∀a b c,P [a,b,c]):∀us:List Value,us.length=3->P us:=DS λa=>DS λb=>DS λc=>IK (h a b c)
theorem Qq{P:List Value->Prop}(h:∀a b c d,P [a,b,c,d]):∀us:List Value,us.length=4->P us:=DS λa=>DS λb=>DS λc=>DS λd=>IK (h a b c d)
theorem Qp{P:List Value->Prop}(h:∀a b c d e,P [a,b,c,d,e]):∀us:List Value,us.length=5->P us:=DS λa=>DS λb=>DS λc=>DS λd=>DS λe=>IK (h a b c d e)
section
variable {K:k9}{k:Nat}
theorem Aj:∀f F,([]:List (Str×Fn)).lookup f=some F->F.lv<=k/\Nonempty (DefX P w K mg base F.lv f F.ps (BA K ca F.g)):=λ_ _ h=>by cases h
theorem zhs{F0:Fn}{l:List (Str×Fn)}(hk:F0.lv<=k)(D:DefX P w K mg base F0.lv x F0.ps (BA K ca F0.g))(r:∀f F,l.lookup f=some F->F.lv<=k/\Nonempty (DefX P w K mg base F.lv f F.ps (BA K ca F.g))) :
  ∀f F,((x,F0)::l).lookup f=some F->F.lv<=k/\Nonempty (DefX P w K mg base F.lv f F.ps (BA K ca F.g)):=λf F h=>by
 rw[yb5]at h;cases hf:f == x with
 |true =>
  rw[hf]at h;cases h;rw[eq_of_beq hf];exact⟨hk,⟨D⟩⟩
 |false=>rw[hf]at h;exact r f F h
theorem EF:∀f F,([]:List (Str×Fn)).lookup f=some F->F.lv<=k/\Nonempty (DefX P w K mg base F.lv f F.ps (IU K ca F.g)):=λ_ _ h=>by cases h
def KE(K:k9):Sp:=λvs H Q _=>∃(a:Addr) (ns:List Int),vs=[.ref a]/\A9 K H a (ns.map V.int)/\ns.length<=63/\∀H',Q (.bl true) H'
def Cn(ns:List Int):T:=.nd false .rl (ns.map T.int)
theorem TM{F:Hp}:∀ns:List Int,Ad K F (ns.map T.int) (ns.map V.int)
 |[]=>.nil
 |n::r=>.cons (H:=F) (.int n) (TM r)
theorem zno{R:List T->Option Ru}{f:Addr}(F:FnOk P w K mg base (Bo P w) k f fd ["_law_script"] (BA K ca R))(h:∀ns:List Int,ns.length<=63->R [Cn ns]=some (.ok (.bl true))):FnOk P w K mg base J5 k f fd ["_law_script"] (KE K):=by
 refine⟨λvs H Q E hs=>?_,λA outer s H args us vs Q E hr e0 hb hv hs=>?_⟩
 .obtain⟨a,ns,rfl,_⟩:=hs
  rfl
 .obtain⟨a,ns,rfl,hq,h63,q⟩:=hs;refine yf7 (F.run A outer s H args us _ Q E0 hr e0 hb hv ⟨H,[Cn ns],.refl _,.cons (H:=H) (Ad.of_node (k:=.rl) hq (TM ns)) .nil,?_⟩) λr s' hx=>?_
  .rw[h ns h63];intro F' H' z C e r;rw[r.bl_inv];exact q H'
  .cases r with
   |error v =>
    obtain⟨_,_,_,_,_,_,_,_,_,_,_,_,z⟩:=hx;exact z.elim
   |ok fl=>cases fl<;>exact hx
end
def FN(C:Addr)(fs:List Str)(k n:Nat)(u:AI)(p:Addr)(ts:List T):Option Ru:=if ts.length+1=k then (match u ((T.oob p C fs []::ts).map some++List.replicate (n - (ts.length+1)) none) with
 |some (.nx τ)=>(match FQ τ 0 C fs with
  |some (q,l)=>if q=p then some (.ok (.obj (.ins C fs) (BF l))) else none
  |none=>none)
 |some (.xc c _)=>some (.exc c)
 |_=>none) else none
open Classical in
def FO(C:Addr)(fs:List Str)(k n:Nat)(u:AI)(ts:List T):Option Ru:=if h:∃r,∀p,FN C fs k n u p ts=some r then some h.choose else none
variable {C:Addr}
theorem NP{fs:List Str}{k:Nat}{r:Ru}(h:∀p,FN C fs k n u p ts=some r):FO C fs k n u ts=some r:=by
 have hx:∃r,∀p,FN C fs k n u p ts=some r:=⟨r,h⟩;unfold FO;rw[dif_pos hx];have e:=(hx.choose_spec 0).symm.trans (h 0);exact e
theorem TF{fs:List Str}{k:Nat}{r:Ru}(h:FO C fs k n u ts=some r)(p:Addr):FN C fs k n u p ts=some r:=by
 unfold FO at h;split at h
 .rename_i hx;cases h;exact hx.choose_spec p
 .cases h
theorem Wx{K:k9}{qual:Str}{st:Stmt}{f:Addr}{k:Nat}{fs:List Str}(F:FunD K x qual st f fd)(S:FnScope N ps (A2 st))(hΓ:Γ.N=N)(hnm:Γ.nm=(A2 st).names)(hce:∀x∈Γ.ce,Γ.nm.lookup x=some .cell)(hlv:Γ.lv=k)(hbl:∀b∈Γ.bl,mg b=none)(hfs:∀f F,Γ.fns.lookup f=some F->F.lv<=k/\Nonempty (DefX P w K mg base F.lv f F.ps (BA K ca F.g)))(hex:∀c∈Γ.ex,∃T:ECls K mg c,ca c=.ref T.C)(hms:∀f F,Γ.mus.lookup f=some F->F.lv<=k/\Nonempty (DefX P w K mg base F.lv f F.ps (IU K ca F.g)))(hmu:Γ.mu=false)(hgx:GxOk Γ.ox k P w K mg base ca)(hu:L0 n Γ (Ez st)=some u):FnOk P w K mg base (Bo P w) (k+1) f fd ps (Fh K ca C (FO C fs ps.length N.length u)):=by
 refine UD F S (λvs H Q E h=>?_) λcdv A outer s H vs Q E hr h=>?_
 .obtain⟨F',p,dx,ts,vs',_,rfl,_,_,r,q⟩:=h;cases hg:FO C fs ps.length N.length u ts with
  |none=>rw[hg]at q;exact q.elim
  |some rr =>
   have h0:=TF hg 0;unfold FN at h0
   by_cases hl:ts.length+1=ps.length
   .rw[yaj,<- r.1,hl]
   .rw[if_neg hl]at h0;cases h0
 .have CC:CxOk Γ (FA (Bo P w) P w K mg base N qual (A2 st) f cdv A outer s H E) (λ_=>E) ca:=by
   refine⟨hΓ.symm,by rw[hΓ];exact S.nd,hnm.symm,S.kind,rfl,by rw[hlv];exact hr,λy hy=>⟨rfl,hce y hy⟩,hbl,Tv,λ_=>PassesOwn.leaving,λ_=>Vd,λf F e=>by rw[hlv];exact hfs f F e,hex,λf F e=>by rw[hlv];exact hms f F e,by rw[hlv];exact hgx,λ_=>⟨rfl,rfl⟩,⟨_,_,rfl,rfl⟩⟩
  have G:=(WV ca n).ss CC hu;rw[hmu]at G;refine⟨_,G,?_⟩;obtain⟨F',p,dx,ts,vs',fh,rfl,fp,hp,r,q⟩:=h;have r0:Rp K F' H (.oob p C fs []) (.ref p) (λa=>a=p\/∃j:Nat,R0 a):=.oob (xs:=[]) (λ_=>R0) fp (by rw[List.zip_nil_right];exact hp) rfl (λi t x h=>by simp at h) (λ_ _ _ _ z=>z.elim) (λ_ z=>z) (λ_ _ z=>z.elim)
  have hA:(λa=>a=p\/∃j:Nat,R0 a)=λa=>a=p:=funext λa=>propext ⟨λz=>z.elim id λ⟨_,w⟩=>w.elim,λz=>.inl z⟩
  refine⟨F',_,_,zei fh r0 r,?_⟩;unfold pS;rw[zid,hA];cases hg:FO C fs ps.length N.length u ts with
  |none=>rw[hg]at q;exact q.elim
  |some rr =>
   rw[hg]at q;have h0:=TF hg p;unfold FN at h0
   by_cases hl:ts.length+1=ps.length
   .rw[if_pos hl]at h0;have el:(T.oob p C fs []::ts).length=ts.length+1:=rfl;rw[el];cases ho:u ((T.oob p C fs []::ts).map some++List.replicate (N.length - (ts.length+1)) none) with
    |none=>rw[ho]at h0;cases h0
    |some o =>
     rw[ho]at h0;cases o with
     |nx τ =>
      simp only at h0;intro F1 H1 σ1 R1 s1 S1;cases hoo:FQ τ 0 C fs with
      |none=>rw[hoo]at h0;cases h0
      |some ql =>
       obtain⟨q0,l⟩:=ql;rw[hoo]at h0;simp only at h0
       by_cases hq:q0=p
       .rw[if_pos hq]at h0;subst hq;cases h0;have h00:=N1 hoo;have S2:=S1.frz h00;obtain⟨y,ey,ry⟩:=S1.rep 0 _ h00;obtain⟨dx2,xs2,Rr,rfl,hA2,fp2,hp2,ro,dp⟩:=ry.oob_inv;have n1:∀a,R1 0 a->F1 a=none:=λa z=>(S1.dom z).1
        have r2:=ry.share (H':=H1) (Ed (H:=H1) n1) λa u z q=>by rw[GG z];exact q
        simp only at q;refine q (frz F1 H1 (R1 0)) H1 ⟨s1.ff.trans (Ed n1),Hf S1.fh,s1.kp,λb z=>z.elim,λb u e=>?_⟩ r2
        by_cases hb:R1 0 b
        .exact(s1.nw b ⟨0,hb⟩).elim (λz=>.inr (.inl z)) λz=>.inr (.inr z)
        .rw[F8 hb]at e;exact s1.nf b u e
       .rw[if_neg hq]at h0;cases h0
     |rt t=>cases h0
     |bk τ=>cases h0
     |ct τ=>cases h0
     |xc c τ =>
      cases h0;simp only at q;exact λF1 H1 σ1 R1 s1 S1=>q F1 H1 (s1.mono λ_ z=>z.elim)
   .rw[if_neg hl]at h0;cases h0
theorem CF{κ:Type} [BEq κ]{P:κ->α->Prop}:∀y b,([]:List (κ×α)).lookup y=some b->P y b:=λ_ _ h=>by cases h
theorem CQ{κ:Type} [BEq κ] [LawfulBEq κ]{P:κ->α->Prop}{x:κ}{a:α}{l:List (κ×α)}(h:P x a)(r:∀y b,l.lookup y=some b->P y b):∀y b,((x,a)::l).lookup y=some b->P y b:=λy b e=>by
 rw[yb5]at e;cases hf:y == x with
 |true =>
  rw[hf]at e;cases e;rw[eq_of_beq hf];exact h
 |false=>rw[hf]at e;exact r y b e
theorem KS{K:k9}{F:Hp}:∀ys:List Str,Ad K F (ys.map T.str) (ys.map V.str)
 |[]=>.nil
 |y::r=>.cons (H:=F) (.str y) (KS r)
theorem K6{P:Str->Fn->List (Nat×List T)->Prop}:∀x F ds,([]:List (Str×Fn×List (Nat×List T))).lookup x=some (F,ds)->P x F ds:=λ_ _ _ h=>by cases h
theorem K7{P:Str->Fn->List (Nat×List T)->Prop}{l:List (Str×Fn×List (Nat×List T))}{x0:Str}{F0:Fn}{d0:List (Nat×List T)}(h:P x0 F0 d0)(r:∀x F ds,l.lookup x=some (F,ds)->P x F ds):∀x F ds,((x0,F0,d0)::l).lookup x=some (F,ds)->P x F ds:=λx F ds e=>by
 rw[yb5]at e;cases hf:x == x0 with
 |true =>
  rw[hf]at e;cases e;rw[eq_of_beq hf];exact h
 |false =>
  rw[hf]at e;exact r x F ds e
def Xh(K:k9)(C:Addr):=(PySem.W.excIn K C Qj "ValueError.__new__",PySem.W.subIn K (.ref C) (.ref C),(PySem.W.clsIn K C).isSome,PySem.W.typeIn K (.ref C),PySem.W.findIn K (.ref C) "__getattribute__",PySem.W.findIn K (.ref C) "__getattr__",PySem.W.findIn K (.ref C) "__class__",PySem.W.mroIn K C (.type "object"),PySem.W.mroIn K C (.type "BaseException"))
def JF{K:k9}{mg:Str->Option Value}{x:Str}(g:PySem.W.specialIn K (.builtin "object.__class__") "__get__"=some (some (.builtin "getset_descriptor.__get__"))/\PySem.W.takesIn K (.builtin "object.__class__")=some true)(C:Addr)(m:mg x=some (.ref C))(h:Xh K C=(true,some true,true,some (.type "type"),some (some (.builtin "BaseException.__getattribute__")),some none,some (some (.builtin "object.__class__")),some true,some true)):ECls K mg x:=⟨C,m,by
 unfold Xh at h;simp only[Prod.mk.injEq,yd5]at h;obtain⟨h1,h2,h3,h4,h5,h6,h7,h8,h9⟩:=h;exact⟨h1,h2,h3,h4,h5,h6,h7,h8,h9,g.1,g.2⟩⟩
theorem xs_of{K:k9}{W:Str}{cs:List (Str×Addr)}(T:ECls K mg W)(h:(cs.all λe=>(match ca e.1 with|.ref a=>a == e.2|_=>false) && PySem.W.subIn K (.ref e.2) (.ref T.C) == some true)=true):∃T:ECls K mg W,∀c C,cs.lookup c=some C->ca c=.ref C/\PySem.W.subIn K (.ref C) (.ref T.C)=some true:=⟨T,λc C hl=>by
 have h:=yal.mp h _ (ybu hl);rw[ya7]at h;refine⟨?_,eq_of_beq h.2⟩;have h:=h.1;cases e:ca c with
 |ref a =>
  simp only[e]at h;rw[eq_of_beq h]
 |_ =>
  simp only[e]at h;cases h⟩
theorem Ai{G:Gx}{lv:Nat}{K:k9}(co:∀x t,G.co.lookup x=some t->∃u v,mg x=some u/\RelV v u/\∀F:Hp,Rp K F F t v R0:=by exact CF)(cl:∀c∈G.cl,Cls K c.2.1/\∀f∈c.2.2,CO K c.2.1 f:=by exact AK)(mt:∀c∈G.mt,c.2.2.2.lv<=lv/\Nonempty (MetX P w K mg base c.2.1 c.1 c.2.2.2.lv c.2.2.2.ps (BA K ca c.2.2.2.g)):=by exact AK)(nw:∀x F ds,G.nw.lookup x=some (F,ds)->F.lv+1<=lv/\∃(C:Addr) (D:NewX P w K mg base x C F.lv F.ps (Fh K ca C F.g)),∀k dts,ds.lookup k=some dts->∃dvs us,Dg K D.fd F.ps us/\Ab dvs us/\∀H:Hp,Ad K H dts dvs:=by exact K6)(sf:∀C fs,G.sf=some (C,fs)->Cls K C/\∀f∈fs,CO K C f:=by exact(λ_ _ h=>by cases h))(xs:∀W cs,G.xs.lookup W=some cs->∃T:ECls K mg W,∀c C,cs.lookup c=some C->ca c=.ref C/\PySem.W.subIn K (.ref C) (.ref T.C)=some true:=by exact CF)(sb:∀D tb,G.sb.lookup D=some tb->∃A:Addr,mg D=some (.ref A)/\∀C b,tb.lookup C=some b->ExcK K C/\PySem.W.kitOne K (.ref C) (.ref A)=some b:=by exact CF)(sv:∀D tb,G.sv.lookup D=some tb->mg D=none/\∃t,bootBuiltins D=some (.type t)/\∀C b,tb.lookup C=some b->ExcK K C/\PySem.W.kitOne K (.ref C) (.type t)=some b:=by exact CF)(ci:∀x tb,G.ci.lookup x=some tb->∃D:Addr,mg x=some (.ref D)/\(∀C b,tb.lookup C=some b->ICls K C/\PySem.W.kitOne K (.ref C) (.ref D)=some b)/\(Jp.all λa=>PySem.W.kitOne K (.type a) (.ref D) == some false)=true:=by exact CF)(x2:∀W1 W2 cs,(W1,W2,cs)∈G.x2->∃(T1:ECls K mg W1) (T2:ECls K mg W2),∀c C,cs.lookup c=some C->ca c=.ref C/\PySem.W.subIn K (.ref C) (.ref T1.C)=some false/\PySem.W.subIn K (.ref C) (.ref T2.C)=some true:=by exact(λ_ _ _ h=>by cases h))(wd:∀x F,G.wd.lookup x=some F->F.lv<=lv/\∃p,F.ps=[p]/\Nonempty (DefS P w K mg base F.lv x p (BA K ca F.g)):=by exact CF)(ti:∀C∈G.ti,TiOk K C:=by exact AK)(dn:∀x y,G.dn.lookup x=some y->y.1.lv<=lv/\∃(D:DefX P w K mg base y.1.lv x y.1.ps (BA K ca y.1.g)) (dvs:List V),DefsX K D.fd y.1.ps dvs/\∀H:Hp,Ad K H y.2 dvs:=by exact CF):GxOk G lv P w K mg base ca:=⟨co,cl,mt,nw,sf,xs,sb,sv,ci,x2,wd,ti,dn⟩
theorem scM{sc:Scope}(h:(sc.kind=.function/\sc.isCoroutine=false/\sc.isGenerator=false)/\N.Nodup/\N.take ps.length=ps/\(∀x∈ps,sc.names.lookup x=some .local\/sc.names.lookup x=some .cell)/\∀y∈sc.names,y.2≠.free):FnScope N ps sc:=⟨h.1.1,h.1.2.1,h.1.2.2,h.2.1,h.2.2.1,h.2.2.2.1,h.2.2.2.2⟩
structure Qx(P:Program)(w:World)(K:k9)(mg:Str->Option Value)(base:Heap)(ca:Str->Value):Prop where
 m:∀(x:Str) (a:Addr),PySem.W.nsIn K mainGlobals x=some (some (.ref a))->mg x=some (.ref a)
structure Ck(Γ:Gm)(f:Fn)(st:Stmt)(u:AI):Prop where
 s:FnScope Γ.N f.ps (A2 st):=by exact scM (by decide +kernel)
 k:L0 200 Γ (Ez st)=some u:=by ext
theorem A4{K:k9}{k:Nat}{F0:Fn}{l:List (Str×Fn)}(D:DefX P w K mg base F0.lv x F0.ps (BA K ca F0.g))(r:∀f F,l.lookup f=some F->F.lv<=k/\Nonempty (DefX P w K mg base F.lv f F.ps (BA K ca F.g)))(hk:F0.lv<=k:=by decide) :
  ∀f F,((x,F0)::l).lookup f=some F->F.lv<=k/\Nonempty (DefX P w K mg base F.lv f F.ps (BA K ca F.g)):=zhs hk D r
def As{P:Program}{w:World}{K:k9}{mg:Str->Option Value}{base:Heap}{ca:Str->Value}(q:Qx P w K mg base ca){x:Str}{st:Stmt}{oc:Value}{od an:Option Addr}{osl:Array (Option Value)}{dV kV doc pm cdv ct:Value}{Γ:Gm}{f:Fn}{u:AI}(a:Addr){o:Obj}
  (S:Ck Γ f st u) (hbl:∀b∈Γ.bl,mg b=none) (hfs:∀g F,Γ.fns.lookup g=some F->F.lv<=Γ.lv/\Nonempty (DefX P w K mg base F.lv g F.ps (BA K ca F.g))) (hgx:GxOk Γ.ox Γ.lv P w K mg base ca) (hce:∀x∈Γ.ce,Γ.nm.lookup x=some .cell:=by exact AK) (hex:∀c∈Γ.ex,∃T:ECls K mg c,ca c=.ref T.C:=by exact AK)
  (hms:∀g F,Γ.mus.lookup g=some F->F.lv<=Γ.lv/\Nonempty (DefX P w K mg base F.lv g F.ps (IU K ca F.g)):=by exact EF) (ho:o=⟨oc,od,.func (PySem.W.fnOf x x (Hj st) (Ez st) (A2 st) dV kV doc pm an cdv ct),osl⟩:=by exact rfl) (l:K.lookup a=some o:=by ext) (c:PySem.W.codeIn K cdv x=true:=by ext) (k:PySem.W.keepIn K (.ref a)=true:=by ext) (m:PySem.W.nsIn K mainGlobals x=some (some (.ref a)):=by ext)
  (b:Dg K (PySem.W.fnOf x x (Hj st) (Ez st) (A2 st) dV kV doc pm an cdv ct) f.ps []:=by first|exact .all (G0 λ_=>rfl)|exact .all (Jo λ_ _=>rfl)|exact .all (us3 λ_ _ _=>rfl)|exact .all (Qq λ_ _ _ _=>rfl)|exact .all (Qp λ_ _ _ _ _=>rfl))
  (hnm:Γ.nm=(A2 st).names:=by rfl) (hlv:Γ.lv+1=f.lv:=by rfl) (hmu:Γ.mu=false:=by rfl) (hg:f.g=Ac f.ps.length Γ.N.length u:=by rfl):DefX P w K mg base f.lv x f.ps (BA K ca f.g) :=
 ⟨a,_,by rw[hg,<- hlv];exact Ee (EJ (l.trans (congrArg some ho)) c k) S.s rfl hnm hce rfl hbl hfs hex hms hmu hgx S.k,q.m x a m,k,b⟩
theorem at0{x:α}{l:List α}:A8 (x::l) (0:Int)=some x:=by
 have:A8 (x::l) ((0:Nat):Int)=some x:=CZ rfl;exact this
theorem GK{x y:α}{l:List α}:A8 (x::y::l) (1:Int)=some y:=by
 have:A8 (x::y::l) ((1:Nat):Int)=some y:=CZ rfl;exact this
theorem at2{x y z:α}{l:List α}:A8 (x::y::z::l) (2:Int)=some z:=by
 have:A8 (x::y::z::l) ((2:Nat):Int)=some z:=CZ rfl;exact this
abbrev fr(a b:Int):T:=.tup [.int a,.int b]
variable {body:AI}{mc me:AJ}{τ:AN}
section
variable {b:T->AN->Option AN}
theorem Du(I:Nat->AN->Prop)(h0:I 0 τ)(hs:∀i t τ,ts[i]?=some t->I i τ->∃τ1,b t τ=some τ1/\∃τ2,body τ1=some (.nx τ2)/\I (i+1) τ2):∃τ',B9 b body ts τ=some (.nx τ')/\I ts.length τ':=by
 have key:∀(l:List T) (k:Nat) (τ:AN),ts.drop k=l->k<=ts.length->I k τ->∃τ',B9 b body l τ=some (.nx τ')/\I ts.length τ':=by
  intro l
  induction l with
  |nil =>
   intro k τ hd hk hI
   have:k=ts.length:=by
    have:=congrArg List.length hd;simp at this
    omega
   subst this;exact⟨τ,rfl,hI⟩
  |cons t l ih =>
   intro k τ hd hk hI
   have hlt:k<ts.length:=by
    have:=congrArg List.length hd;simp at this
    omega
   rw[yco hlt]at hd;injection hd with h1 h2
   obtain⟨τ1,e1,τ2,e2,hI2⟩:=hs k t τ (by rw[ya0 hlt,h1]) hI
   obtain⟨τ',e3,h3⟩:=ih (k+1) τ2 h2 hlt hI2;exact⟨τ',by unfold B9;simp only[e1,e2];exact e3,h3⟩
 exact key ts 0 τ rfl (ybr _) h0
theorem Sx(I:AN->Prop)(μ:AN->Nat)(h0:I τ)(hs:∀τ,I τ->(∃bb,mc τ=some (.v (.bl true) bb)/\∃τ2,body τ=some (.nx τ2)/\I τ2/\μ τ2<μ τ)\/∃bb,mc τ=some (.v (.bl false) bb)) :
  ∃τ',Em mc body τ=some (.nx τ')/\I τ'/\∃bb,mc τ'=some (.v (.bl false) bb):=by
 have key:∀(n:Nat) (τ:AN),μ τ<n->I τ->∃τ',Cj mc body n τ=some (.nx τ')/\I τ'/\∃bb,mc τ'=some (.v (.bl false) bb):=by
  intro n
  induction n with
  |zero=>intro τ h;exact absurd h (Nat.not_lt_zero _)
  |succ n ih =>
   intro τ hn hI
   rcases hs τ hI with ⟨bb,e1,τ2,e2,hI2,hm⟩|⟨bb,e1⟩
   .obtain⟨τ',e3,h3⟩:=ih τ2 (by omega) hI2
    exact⟨τ',by unfold Cj;simp only[e1,e2];exact e3,h3⟩
   .exact⟨τ,by unfold Cj;simp only[e1],hI,bb,e1⟩
 obtain⟨τ',e,h⟩:=key (μ τ+1) τ (yca _) h0;exact⟨τ',zlx e,h⟩
theorem O8(I:Nat->AN->Prop)(f:Nat->T)(h0:I 0 τ)(hs:∀i t τ,ts[i]?=some t->I i τ->∃τ1,b t τ=some τ1/\me τ1=some (.v (f i) false)/\I (i+1) τ1) :
  BD b (mC (.bl true)) me ts τ=some ((List.range ts.length).map f):=by
 have key:∀(l:List T) (k:Nat) (τ:AN),ts.drop k=l->k<=ts.length->I k τ->BD b (mC (.bl true)) me l τ=some ((List.range' k l.length).map f):=by
  intro l
  induction l with
  |nil=>intro k τ _ _ _;rfl
  |cons t l ih =>
   intro k τ hd hk hI
   have hlt:k<ts.length:=by
    have:=congrArg List.length hd;simp at this
    omega
   rw[yco hlt]at hd;injection hd with h1 h2
   obtain⟨τ1,e1,e2,hI2⟩:=hs k t τ (by rw[ya0 hlt,h1]) hI
   have e3:=ih (k+1) τ1 h2 hlt hI2;unfold BD;simp only[e1,mC,e2,e3];simp[List.range'_succ]
 have:=key ts 0 τ rfl (ybr _) h0;rw[this,<- List.range_eq_range']
end
theorem FU{i j:Int}(h:ES j=true):CA i j=true:=by unfold CA;rw[h,yei,ydu]
theorem E9{i j:Int}(h:ES i=true):CA i j=true:=by unfold CA;rw[h,ydu,ydu]
theorem zk1{i j:Int}(h1:CD i=true)(h2:CD j=true):CA i j=true:=by unfold CA;rw[h1,h2];simp
theorem Ce{i:Int}(h1:-(2 ^ 64)<i)(h2:i<2 ^ 64):ES i=true:=@decide_eq_true _ (Classical.propDecidable _) ⟨h1,h2⟩
theorem Co{i:Int}(h1:-(10 ^ 70)<i)(h2:i<10 ^ 70):CD i=true:=@decide_eq_true _ (Classical.propDecidable _) ⟨h1,h2⟩
theorem fm{i j:Int}(h:0<j):i.fmod j=i % j:=Int.fmod_eq_emod_of_nonneg i (by omega)
theorem GJ{i j:Int}:Bn (.int i) (.int j)=some (.bl (i == j)):=by
 unfold Bn Ey DP Gk;simp only[T.data,T.pln,PyData.canLay0,PyData.depth,PyData.eqv];simp
theorem E8{i j:Int}:By (.int i) (.int j)=some (.bl (!(i == j))):=by
 unfold By Ey DP Gk;simp only[T.data,T.pln,PyData.canLay0,PyData.depth,PyData.eqv];simp
mutual
def DM:PyData->Bool
 |.bool _=>false
 |.dict _=>false
 |.list xs=>Fs xs
 |.tuple xs=>Fs xs
 |_=>true
def Fs:List PyData->Bool
 |[]=>true
 |x::xs=>DM x && Fs xs
end
mutual
theorem Xa:∀d d':PyData,DM d=true->DM d'=true->(PyData.eqv d d'=true ↔ d=d')
 |.none,d',_,h'=>by cases d'<;>simp[PyData.eqv,DM]at h' ⊢
 |.int i,d',_,h'=>by cases d'<;>simp[PyData.eqv,DM]at h' ⊢
 |.str x,d',_,h'=>by cases d'<;>simp[PyData.eqv,DM]at h' ⊢
 |.bool _,_,h,_=>by simp[DM]at h
 |.dict _,_,h,_=>by simp[DM]at h
 |.list xs,d',h,h'=>by
  cases d' with
  |list ys =>
   have:=P4 xs ys (by simpa[DM] using h) (by simpa[DM] using h')
   simp only[PyData.eqv];rw[this];simp
  |_=>simp[PyData.eqv,DM]at h' ⊢
 |.tuple xs,d',h,h'=>by
  cases d' with
  |tuple ys =>
   have:=P4 xs ys (by simpa[DM] using h) (by simpa[DM] using h')
   simp only[PyData.eqv];rw[this];simp
  |_=>simp[PyData.eqv,DM]at h' ⊢
theorem P4:∀xs ys:List PyData,Fs xs=true->Fs ys=true->(PyData.eqvAll xs ys=true ↔ xs=ys)
 |[],[],_,_=>by simp[PyData.eqvAll]
 |[],_::_,_,_=>by simp[PyData.eqvAll]
 |_::_,[],_,_=>by simp[PyData.eqvAll]
 |x::xs,y::ys,hx,hy=>by
  simp only[Fs,ya7]at hx hy;have h1:=Xa x y hx.1 hy.1;have h2:=P4 xs ys hx.2 hy.2;simp only[PyData.eqvAll,ya7,h1,h2,List.cons.injEq]
end
structure Fit(t:T)(n:Nat):Prop where
 fit:DP t=true
 nb:DM t.data=true
 dep:t.data.depth<=n
theorem Fit.int(i:Int)(n:Nat):Fit (.int i) n:=⟨rfl,rfl,by simp[T.data,PyData.depth]⟩
theorem X5:∀{l:List T} {n:Nat},(∀t∈l,Fit t n)->(EB l=true/\PyData.canLayAll0 (BQ l)=true)/\Fs (BQ l)=true/\PyData.depthAll (BQ l)<=n
 |[],n,_=>⟨⟨rfl,rfl⟩,rfl,ybr _⟩
 |t::r,n,h=>by
  obtain⟨h1,h2,h3⟩:=h t (ya5 ..);obtain⟨⟨g0,g1⟩,g2,g3⟩:=X5 (l:=r) (n:=n) λx hx=>h x (ya4 _ hx)
  unfold DP at h1;rw[ya7]at h1;refine⟨⟨by rw[EB,h1.1,g0];rfl,by rw[BQ,PyData.canLayAll0,h1.2,g1];rfl⟩,by rw[BQ,Fs,h2,g2];rfl,?_⟩
  rw[BQ,PyData.depthAll]
  omega
theorem Fit.nd{o:Bool}{k:Kd}{l:List T}{n:Nat}(h:∀t∈l,Fit t n):Fit (.nd o k l) (n+1):=by
 obtain⟨g1,g2,g3⟩:=X5 h;cases k<;>exact⟨by simpa[DP,T.data,T.pln,PyData.canLay0] using g1,by simpa[T.data,DM] using g2,by simpa[T.data,PyData.depth] using g3⟩
theorem Fit.tup{l:List T}{n:Nat}(h:∀t∈l,Fit t n):Fit (.tup l) (n+1):=Fit.nd h
theorem Fit.fr(a b:Int):Fit (Pu.fr a b) 1:=Fit.tup λt ht=>by
 simp only[ya9,yb7,yfe]at ht
 rcases ht with rfl|rfl<;>exact Fit.int _ _
open Classical in
theorem Xb{t u:T}{m:Nat}(h:Fit t n)(h':Fit u m)(hn:n<=60):Bn t u=some (.bl (decide (t.data=u.data)))/\By t u=some (.bl (!decide (t.data=u.data))):=by
 have ok:Ey t u=true:=by
  unfold Ey;rw[h.fit,h'.fit,yf6 (by have:=h.dep;omega)]
  rfl
 have e:Gk t u=decide (t.data=u.data):=by
  unfold Gk;rw[yc8,Xa _ _ h.nb h'.nb];simp
 unfold Bn By;rw[if_pos ok,if_pos ok,e];exact⟨rfl,rfl⟩
theorem P5{t u:T}(h:Fit t n)(hn:n<=60)(e:t.data=u.data)(h':Fit u n):Bn t u=some (.bl true)/\By t u=some (.bl false):=by
 have:=Xb h h' hn
 simpa[e] using this
theorem KG:∀ns:List Int,BF (ns.map T.int)=ns.map T.int
 |[]=>rfl
 |n::r=>by rw[yad,BF,KG r];rfl
theorem KH:∀ns:List Int,A3 (ns.map T.int)=true
 |[]=>rfl
 |n::r=>by rw[yad,A3,KH r];rfl
theorem Mv(ns:List Int):(Cn ns).share=Cn ns:=by unfold Cn;rw[T.share,KG]
theorem Mw(ns:List Int):(Cn ns).sh=true:=by unfold Cn;rw[T.sh,KH];rfl
theorem Hs{l:List α}{k:Int}{x:α}(h0:0<=k)(h:l[k.toNat]?=some x):A8 l k=some x:=by
 have:A8 l ((k.toNat:Nat):Int)=some x:=CZ h
 rwa[Int.toNat_of_nonneg h0]at this
theorem JG{β:Type}(f:α->β)(l:List α)(lo hi:Option Int):CH (l.map f) lo hi=(CH l lo hi).map f:=by
 unfold CH;simp[List.map_drop,List.map_take]
theorem zks(l:List α)(lo hi:Option Int):(CH l lo hi).length<=l.length:=by
 unfold CH;simp only[ybi,List.length_drop]
 omega
end Pu
namespace Zm
end Zm
namespace Db
open PySem
end Db
namespace Pu
open PySem PySem.Spec PyProof.Rows L2 Zw Zx
def mT(n:Nat)(g:Nat->T):List T:=(List.range n).map g
theorem nl0:((0:Nat):Int)=0:=rfl
theorem nl1:((1:Nat):Int)=1:=rfl
theorem nl2:((2:Nat):Int)=2:=rfl
theorem nl3:((3:Nat):Int)=3:=rfl
theorem nl4:((4:Nat):Int)=4:=rfl
theorem nl5:((5:Nat):Int)=5:=rfl
theorem nl6:((6:Nat):Int)=6:=rfl
theorem nl7:((7:Nat):Int)=7:=rfl
theorem nl8:((8:Nat):Int)=8:=rfl
theorem nl9:((9:Nat):Int)=9:=rfl
theorem znk{k:Nat}(h:k<=100000):(k<=BP)=True:=eq_true (by unfold BP;omega)
theorem znj{k:Nat}(h:k<100000):(k<BP)=True:=eq_true (by unfold BP;omega)
variable {n i:Nat}{l:List T}{α:Type}{body:AI}{me:AJ}{τ:AN}
section
variable {g h:Nat->T}
theorem Ca:(mT n g).length=n:=by simp[mT]
theorem Ge(hi:i<n):(mT n g)[i]?=some (g i):=by simp[mT,hi]
theorem Ft{t:T}(e:(mT n g)[i]?=some t):i<n/\t=g i:=by
 have hi:i<n:=by
  rcases yek i n with q|q
  .exact q
  .rw[yai (by rw[Ca];exact q)]at e
   cases e
 rw[Ge hi]at e;exact⟨hi,by injection e with e;exact e.symm⟩
theorem Fu(hl:l.length=n)(h:∀i,i<n->l[i]?=some (g i)):l=mT n g:=by
 refine ybq λi=>?_
 rcases yek i n with q|q
 .rw[h i q,Ge q]
 .rw[yai (by omega),yai (by rw[Ca];exact q)]
theorem Vf(e:∀i,i<n->g i=h i):mT n g=mT n h:=Fu Ca λi hi=>by rw[Ge hi,e i hi]
theorem FV{k:Nat}(h1:k<n):A8 (mT n g) (k:Int)=some (g k):=CZ (Ge h1)
theorem znh{t:T}(ht:t∈mT n g):∃i,i<n/\t=g i:=by
 obtain⟨i,hi,e⟩:=yag.mp ht;exact⟨i,ybb.mp hi,e.symm⟩
theorem zek:BF (mT n g)=mT n λi=>(g i).share:=by
 rw[Cw];unfold mT;rw[yaq]
 rfl
theorem Ra(e:∀i,(g i).sh=true):A3 (mT n g)=true:=by
 rw[DK,yal];intro t ht;obtain⟨i,-,rfl⟩:=znh ht;exact e i
theorem zim(xs:Nat->Int):A3 (mT n λi=>.int (xs i))=true:=Ra λ_=>rfl
theorem Vg:mT n g++[g n]=mT (n+1) g:=by
 unfold mT;rw[List.range_succ,yar]
 rfl
theorem Ve(t:α->T)(xs:Nat->α)(r:α):mT n (λj=>t (xs j))++[t r]=mT (n+1) λj=>t (if j=n then r else xs j):=by
 rw[<- Vg,if_pos rfl,Vf (g:=λj=>t (if j=n then r else xs j)) (h:=λj=>t (xs j)) λj hj=>by rw[if_neg (by omega)]]
theorem Xd:∀(l:List T) (k i:Nat) (t:T),l[i]?=some t->(CV k l)[i]?=some (.tup [.int ((k+i:Nat):Int),t])
 |[],_,_,_,e=>by simp at e
 |x::r,k,0,t,e=>by
  simp at e;subst e
  rfl
 |x::r,k,i+1,t,e=>by
  rw[CV,ycr];have:=Xd r (k+1) i t (by simpa using e)
  rw[this,show k+1+i=k+(i+1) by omega]
theorem Xc:∀(l:List T) (k:Nat),(CV k l).length=l.length
 |[],_=>rfl
 |x::r,k=>by rw[CV,yaj,yaj,Xc r]
theorem zkr:CV 0 (mT n g)=mT n λi=>.tup [.int (i:Int),g i]:=by
 refine Fu (by rw[Xc,Ca]) λi hi=>?_
 rw[Xd _ _ _ _ (Ge hi),ycy]
theorem zgm(lo:Int):DT lo n=mT n λi=>.int (lo+(i:Int)):=rfl
theorem Dm:DT 0 n=mT n λi=>.int (i:Int):=by
 rw[zgm];refine Vf λi _=>?_
 rw[Int.zero_add]
theorem mT_of(l:List T)(d:T):l=mT l.length λi=>l.getD i d:=Fu rfl λi hi=>by
 rw[ya2,ya0 hi];rfl
variable {b:T->AN->Option AN}
theorem Oz(I:Nat->AN->Prop)(h0:I 0 τ)(hs:∀i τ,i<n->I i τ->∃τ1,b (g i) τ=some τ1/\∃τ2,body τ1=some (.nx τ2)/\I (i+1) τ2):∃τ',B9 b body (mT n g) τ=some (.nx τ')/\I n τ':=by
 have:=Du (ts:=mT n g) I h0 λi t τ e hI=>by
  obtain⟨hi,rfl⟩:=Ft e;exact hs i τ hi hI
 rwa[Ca]at this
theorem EY{f:Nat->T}{x:Option T}{cs:AN}(hs:∀i,i<n->me (some (g i)::cs)=some (.v (f i) false)):BD (AD 0) (mC (.bl true)) me (mT n g) (x::cs)=some (mT n f):=by
 have:=O8 (b:=AD 0) (me:=me) (ts:=mT n g) (τ:=x::cs) (λ_ τ=>∃y,τ=y::cs) f ⟨x,rfl⟩ λi t τ e hI=>by
  obtain⟨hi,rfl⟩:=Ft e;obtain⟨y,rfl⟩:=hI;exact⟨some (g i)::cs,by simp[AD],hs i hi,_,rfl⟩
 rw[this,Ca]
 rfl
end
theorem JK(p:Nat->Bool):EK (mT n λi=>.bl (p i))=some ((List.range n).map p):=by
 unfold mT;generalize List.range n=l
 induction l with
 |nil=>rfl
 |cons x r ih=>simp only[yad,EK,ih]
theorem EV(h:n<=100000):Cq (n:Int)=true:=@decide_eq_true _ (Classical.propDecidable _) ⟨by omega,by omega⟩
theorem HQ:∀ys:List Str,EN (ys.map T.str)=some ys
 |[]=>rfl
 |y::r=>by
  show(match EN (r.map T.str) with|some l=>some (y::l)|none=>none)=_
  rw[HQ r]
theorem A6:∀ys:List Str,BF (ys.map T.str)=ys.map T.str
 |[]=>rfl
 |y::r=>by
  show T.str y::BF (r.map T.str)=_;rw[A6 r]
  rfl
theorem AW:∀ys:List Str,A3 (ys.map T.str)=true
 |[]=>rfl
 |y::r=>by
  show(true && A3 (r.map T.str))=true;rw[AW r]
  rfl
def Bw(ys:List Str):Prop:=∀y∈ys,PyData.strOk y=true
theorem Th:∀ys:List Str,EB (ys.map T.str)=true
 |[]=>rfl
 |y::r=>by
  show(true && EB (r.map T.str))=true;rw[Th r]
  rfl
theorem Vt:∀{ys:List Str},Bw ys->PyData.canLayAll0 (BQ (ys.map T.str))=true/\PyData.depthAll (BQ (ys.map T.str))=0
 |[],_=>⟨rfl,rfl⟩
 |y::r,h=>by
  obtain⟨h1,h2⟩:=Vt (ys:=r) λx hx=>h x (ya4 _ hx)
  have h3:=h y (ya5 ..);rw[yad,BQ,PyData.canLayAll0,PyData.depthAll,h1,h2,T.data,PyData.canLay0,h3,PyData.depth];exact⟨rfl,rfl⟩
variable {x y:Str}
theorem F9(hx:PyData.strOk x=true)(hy:PyData.strOk y=true):Bn (.str x) (.str y)=some (.bl (decide (x=y))):=by
 have e:(x == y)=decide (x=y):=by rw[yc8,yfb,yfc]
 unfold Bn Ey DP Gk;simp only[T.data,T.pln,PyData.canLay0,PyData.depth,PyData.eqv,hx,hy,e];simp
theorem Fit.str{x:Str}(h:PyData.strOk x=true)(n:Nat):Fit (.str x) n:=⟨by unfold DP;rw[T.pln,T.data,PyData.canLay0,h];rfl,rfl,by simp[T.data,PyData.depth]⟩
theorem Y7(x:Str):∀ys:List Str,((BQ (ys.map T.str)).any λy=>PyData.eqv y (.str x))=decide (x∈ys)
 |[]=>by simp[BQ]
 |y::r=>by
  have e:(y == x)=decide (x=y):=by rw[yc8,yfb,yfc];exact eq_comm
  rw[yad,BQ,ydj,Y7 x r,T.data,PyData.eqv,e,yc8,yc7,yfc,yfc,yfc,ya9]
theorem JA{ys:List Str}{o:Bool}{k:Kd}(h:Bw ys)(hx:PyData.strOk x=true):CY (.str x) (.nd o k (ys.map T.str))=some (.bl (decide (x∈ys))):=by
 have ok:Fz (.str x) (ys.map T.str)=true:=by
  obtain⟨h1,h2⟩:=Vt h;unfold Fz DP;rw[Th,h1,h2,T.pln,T.data,PyData.canLay0,hx,PyData.depth]
  rfl
 unfold CY;simp only;rw[if_pos ok];unfold Hc;rw[T.data,Y7]
end Pu
namespace Tx
open PySem PySem.NumText
abbrev cs(x:Str):List Nat:=x.cps.toList
theorem cs_app(x y:Str):cs (x++y)=cs x++cs y:=Array.toList_append
theorem cs_ext{x y:Str}(h:cs x=cs y):x=y:=by
 cases x;cases y;exact congrArg Str.mk (Array.toList_inj.mp h)
theorem cs_len(x:Str):x.length=(cs x).length:=rfl
def joinL(c:Nat):List (List Nat)->List Nat
 |[]=>[]
 |[x]=>x
 |x::r=>x++c::joinL c r
theorem cs_join(c:Nat):∀l:List Str,cs (Str.join ⟨#[c]⟩ l)=joinL c (l.map cs)
 |[]=>rfl
 |[x]=>rfl
 |x::y::r=>by
  show cs (x++⟨#[c]⟩++Str.join ⟨#[c]⟩ (y::r))=cs x++c::joinL c ((y::r).map cs);rw[cs_app,cs_app,cs_join c (y::r),ybp]
  rfl
theorem Xv{c:Nat}:∀{a b u v:List Nat},a++c::u=b++c::v->c∉a->c∉b->a=b/\u=v
 |[],[],u,v,h,_,_=>⟨rfl,(ydk h).2⟩
 |[],y::b,u,v,h,_,hb=>absurd (by rw[(ydk h).1];exact ya5 ..) hb
 |x::a,[],u,v,h,ha,_=>absurd (by rw[<- (ydk h).1];exact ya5 ..) ha
 |x::a,y::b,u,v,h,ha,hb=>by
  obtain⟨e1,e2⟩:=ydk h;obtain⟨e3,e4⟩:=Xv e2 (λz=>ha (ya4 _ z)) (λz=>hb (ya4 _ z))
  exact⟨by rw[e1,e3],e4⟩
theorem joinL_inj{c:Nat}:∀{l m:List (List Nat)},l≠[]->m≠[]->(∀p∈l,c∉p)->(∀p∈m,c∉p)->joinL c l=joinL c m->l=m
 |[],_,h,_,_,_,_=>absurd rfl h
 |_,[],_,h,_,_,_=>absurd rfl h
 |[a],[b],_,_,_,_,e=>by rw[show a=b from e]
 |[a],b::b2::r,_,_,ha,_,e=>absurd (by rw[show a=b++c::joinL c (b2::r) from e];simp) (ha a (ya5 ..))
 |a::a2::r,[b],_,_,_,hb,e=>absurd (by rw[<- show a++c::joinL c (a2::r)=b from e];simp) (hb b (ya5 ..))
 |a::a2::r,b::b2::q,_,_,ha,hb,e=>by
  obtain⟨e1,e2⟩:=Xv (show a++c::joinL c (a2::r)=b++c::joinL c (b2::q) from e) (ha a (ya5 ..)) (hb b (ya5 ..));rw[e1,joinL_inj (yem _ _) (yem _ _) (λp hp=>ha p (ya4 _ hp)) (λp hp=>hb p (ya4 _ hp)) e2]
theorem map_cs_inj:∀{l m:List Str},l.map cs=m.map cs->l=m
 |[],[],_=>rfl
 |[],_::_,h=>by cases h
 |_::_,[],h=>by cases h
 |a::l,b::m,h=>by
  obtain⟨e1,e2⟩:=ydk h;rw[cs_ext e1,map_cs_inj e2]
section
variable {x y:Str}{c:Nat}(hA:∀k,(cs x)[k]?=some c->StrLaws.At x y x.length k)
include hA
end
theorem cs_mk(l:List Nat):cs ⟨l.toArray⟩=l:=rfl
theorem sl_to{x:Str}{a:Nat}(h:a<=(cs x).length):cs (Txt.slice x none (some (a:Int)))=(cs x).take a:=by
 have e:Txt.slice x none (some (a:Int))=StrLaws.sliceText x none (some (a:Int)):=rfl;rw[e,StrLaws.sliceText_to ⟨ye4 a,Int.ofNat_le.mpr h⟩,cs_mk,List.drop_zero,Int.sub_zero,ybt]
end Tx
namespace Hd
open PySem PySem.W PySem.Calls PyProof.Rows
def JB(st:SharedT->Thread->Option (SharedT×Thread))(ok:Thread->Bool):Nat->SharedT->Thread->Option SharedT
 |0=>λ_ _=>none
 |n+1=>λs t=>bif through t then some s else bif ok t then (st s t).elim none λx=>JB st ok n x.1 x.2 else none
theorem zkk{tb:String->Option Builtin}{p:Program}{w:World}{m:Nat}{ann:Option Value}(n:Nat):∀(s:SharedT) (t:Thread) (r:SharedT),
  JB (stepT (denote tb) p w) (stepOk m ann) n s t=some r->topRun tb p w m ann n s.abs t=some r.abs:=by
 induction n with
 |zero=>intro s t r h;exact nomatch h
 |succ n ih =>
  intro s t r h;rw[JB]at h;dsimp only at h;rw[topRun];cases a:through t with
  |true=>rw[a]at h;cases h;rfl
  |false =>
   rw[a]at h;cases b:stepOk m ann t with
   |false=>rw[b]at h;exact nomatch h
   |true =>
    rw[b]at h;cases c:stepT (denote tb) p w s t with
    |none=>rw[c]at h;exact nomatch h
    |some x=>rw[c]at h;rw[stepT_spec (s':=x.1) (t':=x.2) c];exact ih _ _ _ h
noncomputable def KJ(p q:Program)(loose:List Str)(Xt:Shared->Bool){α:Type}(Yf:Shared->α)(h:Heap)(s:Shared) :=
 ((staticsOk (importedModules p.main.body) h s.heap && namesBound p s.heap && gensDone s && laidKept h s.heap),openSeen q loose (importedModules p.main.body) Xt true s,Yf s)
theorem zk8{p q:Program}{loose:List Str}{Xt:Shared->Bool}{α:Type}{Yf:Shared->α}{Ya:World->α}{N M m:Nat}{ann:Option Value}{bt:Params->BT}{lf:Params->Life}{st:World->SharedT->Thread->Option (SharedT×Thread)}{ok:Thread->Bool}(hst:∀w,stepT (denote treeTable) p w=st w)(hok:stepOk m ann=ok)
  (e:opening p=plainProg p.main.scope.names) (hN:Nat.ble 600 N=true) (f:∀s,fenceModules? p s=some s) (hM:Nat.ble M N=true)
  (hb:∀P,absHeap (bt P) m (lf P)=boot_heap P) (hs:∀P,(boot_heap P).isNs mainGlobals=true) (hz:∀P,(boot_heap P).objs.size=m) (ha:∀P,(boot_heap P).nsMap mainGlobals "__annotations__"=ann)
  (h:∀(w:World) (os:OsState),(JB (st w) ok M ⟨bt w.params,m,lf w.params,Array.mk [],boot_drawn,boot_toks,os⟩ (topStub p)).map (λs=>KJ p q loose Xt Yf (boot_heap w.params) s.abs)=some (true,openGood q loose,Ya w)) :
  LeftO p q loose Xt Yf Ya N true:=λw=>by
 obtain⟨⟨h0,g0,d0,k0,os⟩,hs0,hv⟩:=yah.mp (boot_open e hN f w);simp only[Prod.mk.injEq]at hv;obtain⟨rfl,rfl,rfl,rfl⟩:=hv;obtain⟨T,hT,hx⟩:=yah.mp (h w os);rw[<- hst,<- hok]at hT;have r:=topRun_mono (N - M) _ _ _ _ (zkk _ _ _ _ hT);rw[Nat.add_sub_cancel' (Nat.le_of_ble_eq_true hM)]at r;have hx1:=congrArg Prod.fst hx;have hx2:=congrArg Prod.snd hx;simp only[KJ]at hx1 hx2;simp only[SharedT.abs,hb]at r hx1 hx2
 have k:topFrom treeTable p w N ⟨boot_heap w.params,Array.mk [],boot_drawn,boot_toks,os⟩=some T.abs:=by
  simp only[topFrom,hs,hz,ha,r];simp only[ydm,SharedT.abs];rw[hx1]
  rfl
 show((fencedOpening treeTable p w N).bind (topFrom treeTable p w N)).map _=_;rw[hs0];show(topFrom treeTable p w N _).map _=_;rw[k];exact congrArg some hx2
def en(P:Params)(x:String)(k:Nat)(v:Value):DictEntry:=⟨PyData.keyHash P (Str.ofString x),.str (Str.ofString x) k,v⟩
def bt(P:Params):BT:=((boot_heap P).objs.toList.foldl (λ(x:BT×Nat) o=>(x.1.ins x.2 o,x.2+1)) (BT.nil,0)).1
theorem bt_ok(P:Params):absHeap (bt P) 11 (boot_heap P).life=boot_heap P:=by ext
theorem zoj(P:Params):(boot_heap P).nsMap mainGlobals "__annotations__"=some (.ref 6):=by ext
theorem ns_ok(P:Params):(boot_heap P).isNs mainGlobals=true:=by ext
theorem sz_ok(P:Params):(boot_heap P).objs.size=11:=by ext
abbrev go(p:Program)(M:Nat)(w:World)(os:OsState):Option SharedT :=
 JB (Fast.tw10156331382660048174 (Fast.tw11892475500146522536 Fast.tw14364793385576792824) p w) (Fast.tw6613529449190102663 11 (some (.ref 6))) M ⟨bt w.params,11,(boot_heap w.params).life,Array.mk [],boot_drawn,boot_toks,os⟩ (topStub p)
abbrev xt(r:RowW)(q:Program)(s:Shared):Bool:=xlAt q [] s && recOk r.records s
theorem zk9{p q:Program}{r:RowW}{loose:List Str}{α:Type}{Yf:Shared->α}{Ya:World->α}(N M:Nat)
  (e:opening p=plainProg p.main.scope.names) (hN:Nat.ble 600 N=true) (f:∀s,fenceModules? p s=some s) (hM:Nat.ble M N=true)
  (h:∀(w:World) (os:OsState),(go p M w os).map (λs=>KJ p q loose (xt r q) Yf (boot_heap w.params) s.abs)=some (true,openGood q loose,Ya w)):LeftO p q loose (xt r q) Yf Ya N true :=
 zk8 (st:=λw=>Fast.tw10156331382660048174 (Fast.tw11892475500146522536 Fast.tw14364793385576792824) p w) (ok:=Fast.tw6613529449190102663 11 (some (.ref 6)))
  (λw=>by rw[Fast.te10156331382660048174,Fast.te11892475500146522536,Fast.te14364793385576792824]) (by rw[Fast.te6613529449190102663]) e hN f hM bt_ok ns_ok sz_ok zoj h
theorem zir{l:OpenLaw}(h:Fast.tw9446332074065402090 l=true):l.wellSaid=true:=(congrFun Fast.te9446332074065402090 l).trans h
end Hd
set_option maxHeartbeats 4200000
namespace Zl
open PySem L2 Zw Zx Pu
variable {x y z:Str}{n a i:Nat}{c u P:Int}{l:List T}{ys ws wd ns nms:List Str}{rs:List (Str×List T)}{α:Type}{f g:AI}{τ:AN}{vs:List Int}{s s':Str×List Int}{al:Bool}{xs:Nat->Int}{L:List (Str×List Int)}{S:List (List (Nat×Nat))}{Ls:List (List (Str×List Int))}
noncomputable section
local macro_rules
  |`(tactic| simp![$as,*])=>`(tactic| simp only[Ac,NQ,AF,AU,CJ,Dk,Af,AX,NK,Fk,Ae,B3,C6,En,IY,IZ,Bz,FP,AA,mC,AE,AB,BC,Bf,m1,m2,AS,DX,Ay,CP,Bu,AY,Dt,Ea,BJ,B5,Ar,BE,g1,g2,AD,Aq,AQ,Ap,blk,Hm,Hb,CM,DB,GB,gD,GA,Ld,Gp,Lc,Iy,BL,HP,Be,BO,CN,Fo,CI,Er,Cc,T.isN,T.isB,B0,CK,Gq,yb1,Iz,DE,Ci,Jq,HJ,Jx,T.share,BF,T.sh,A3,T.flat,at0,GK,at2,yad,yc6,yaj,yb0,List.replicate,yay,ybm,List.cons_append,List.getElem?_cons_zero,ycr,List.getElem?_nil,List.set_cons_zero,List.set_cons_succ,yci,nl0,nl1,nl2,nl3,nl4,nl5,nl6,nl7,nl8,nl9,Int.reduceBEq,Nat.reduceBEq,Nat.reduceAdd,Nat.reduceSub,Nat.reduceLT,Nat.reduceLeDiff,if_true,if_false,ite_true,ite_false,reduceIte,Bool.not_true,Bool.not_false,yea,Bool.true_and,Bool.and_false,ye1,yei,ydu,yd0,ye9,Bool.false_xor,Bool.true_xor,ycg,yed,decide_true,decide_false,ya9,yb7,or_false,or_true,true_or,and_true,true_and,and_self,String.reduceEq,String.reduceBEq,beq_self_eq_true,ne_eq,not_false_eq_true,not_true_eq_false,znk,znj,Ca,zek,Int.reduceLT,Int.reduceAdd,ybt,zim,Ra,implies_true,forall_const,Int.reduceEq,Int.reduceNe,Oo,Bh,B7,Bl,Cb,Fv,Dl,FQ,Ib,Ih,Kv,Eb,EI,Al,Gg,HR,isXT,HS,$as,*])
noncomputable def AO(i:Nat):Stmt:=PySem.Challenge.pw_zonewalk_k33_whole_runs_of_parts.main.body.getD i (.Pass ⟨0,0,0,0⟩)
def zof(s:Stmt)(j:Nat):Stmt:=match s with
 |.ClassDef _ _ _ body _ _ _ _ _ _ _=>body.getD j (.Pass ⟨0,0,0,0⟩)
 |_=>.Pass ⟨0,0,0,0⟩
def Cs(i j:Nat):Stmt:=zof (AO i) j
abbrev Ah:Addr:=228
noncomputable def Am:List Str:=["start","end","guard","noughts","sign"]
abbrev A5:Addr:=282
noncomputable def Ag:List Str:=["watch_names","stays","door_list"]
def Ir:T:=(.nd false .rt [(.str "<"),(.str "<="),(.str ">"),(.str ">="),(.str "=")])
def Oe:T:=(.nd false .rt [(.str "<"),(.str "<=")])
noncomputable def H9:T:=(.int 7)
def Ha:T:=(.int 64)
def Fx:T:=(.int 200)
def Of:T:=(.int 6)
def Ph:List (Addr×Bool):=[(228,true),(282,false)]
def Pg:List (Addr×Bool):=[(228,false),(282,true)]
def MO:List (Str×Addr):=[("TooMany",61)]
abbrev Sv:Stmt:=AO 63
def OZ:AI :=
 (AF (Af (m2 (CI λi j=>decide (i<j)) (AA 1) (m1 B0 (AA 0))) (AX (AY (AA 0) (AA 1))) Ae)
 (AX (mC (.int 0))))
def FH:List T->Option Ru:=Ac 2 2 OZ
abbrev P0:Fn:=⟨1,["_law_script","_law_k"],FH⟩
abbrev zd2:Gx:=⟨[],[],[],[],false,true,true,none,[],[],[],true,[],[],[],[],[],[],[],[]⟩
abbrev zda:Gm:=⟨["_law_script","_law_k"],(A2 Sv).names,[],0,[],["len"],[],[],[],false,[],[],[],zd2⟩
theorem zdk:Ck zda P0 Sv OZ:={}
theorem L4(ns:List Int){k:Int}(h0:0<=k):FH [Cn ns,.int k]=some (.ok (.int (ns.getD k.toNat 0))):=by
 unfold FH OZ
 by_cases h:k<ns.length
 .have e:ns[k.toNat]?=some (ns.getD k.toNat 0):=by
   rw[ya2,ya0 (by omega)]
   rfl
  have ea:A8 (ns.map T.int) k=some (.int (ns.getD k.toNat 0)):=Hs h0 (by rw[ya3,e];rfl)
  have el:decide (k<((ns.map T.int).length:Int))=true:=by simpa using h
  simp![Cn,KG,KH,el,ea]
 .have el:decide (k<((ns.map T.int).length:Int))=false:=by simpa using h
  have e:ns.getD k.toNat 0=0:=by
   rw[ya2,yai (by omega)]
   rfl
  simp![Cn,KG,KH,el,e]
abbrev Sh:Stmt:=AO 64
def M5:AI :=
 (AF (C6 2 (m2 BO (AA 5) (mC (.int 2147483647))))
 (AU (m2 CN (AA 5) (mC (.int 2147483647))) (AD 5)))
def M4:AI :=
 (AF (AU (m2 BO (m2 BL (m2 BL (m2 Be (AA 3) (AA 3)) (m2 Be (mC (.int 48271)) (AA 3))) (AA 4)) (mC (.int 2147483647))) (AD 3))
 (C6 2 (AA 3)))
def Kn:AI :=
 (AF (CJ 2 (BJ AE))
 (AF (Af (m2 (CI λi j=>decide (j<=i)) (AA 0) (m2 Fo (mC (.int 10)) (mC (.int 30)))) (AF (AU (m2 HP (AA 0) (m2 Fo (mC (.int 10)) (mC (.int 30)))) (AD 5))
 (AF (B3 (CM (AB (AA 1) AE)) (AD 4) M5)
 (AX (AA 2)))) Ae)
 (AF (AU (m2 BL (m2 BO (AA 0) (mC (.int 2147483647))) (mC (.int 48271))) (AD 3))
 (AF (B3 (CM (AB (m2 BL (AA 1) (mC (.int 2))) AE)) (AD 4) M4)
 (AF (Dk 2) (AX (Cb (Dt (AA 2) (some (mC (.int 2))) none) (Ds (AA 2) (some (mC (.int 2))) none))))))))
def Ei:List T->Option Ru:=Ac 2 6 Kn
abbrev LQ:Fn:=⟨1,["_law_cell","_law_many"],Ei⟩
abbrev zdz:Gx:=⟨[],[],[],[],false,true,true,none,[],[],[],true,[],[],[],[],[],[],[],[]⟩
abbrev ze4:Gm:=⟨["_law_cell","_law_many","_law_found","_law_number","_law_k","_law_rest"],(A2 Sh).names,[],0,[],["range"],[],["_law_found"],[],false,[],[],[],zdz⟩
theorem zec:Ck ze4 LQ Sh Kn:={}
theorem KC(c:Int){m:Nat}(hm:m<=1000):∃xs:Nat->Int,Ei [.int c,.int m]=some (.ok (.own (mT m λi=>.int (xs i)))):=by
 have p30:(0:Int)<=30/\(30:Int)<=1000000/\ES 10=true:=⟨by decide,by decide,Ce (by decide) (by decide)⟩
 have s45:CD 2147483647=true:=Co (by decide) (by decide)
 have r30:(30:Int).toNat=30:=rfl
 by_cases h:(10:Int) ^ 30<=c
 .have loop:=Oz (b:=AD 4) (body:=M5) (n:=m) (g:=λi=>.int (i:Int)) (τ:=[some (.int c),some (.int m),some (.own []),none,none,some (.int (c - 10 ^ 30))])
   (λi τ=>∃(xs:Nat->Int) (x:Option T) (r:Int),τ=[some (.int c),some (.int m),some (.own (mT i λi=>.int (xs i))),none,x,some (.int r)])
   ⟨λ_=>0,none,_,rfl⟩ (by
    rintro i τ hi ⟨xs,x,r,rfl⟩;refine⟨_,by simp![];rfl,?_⟩
    have l1:i<100000:=by omega
    refine⟨_,by unfold M5;simp![s45,l1];rfl,λj=>if j=i then r.fmod 2147483647 else xs j,some (.int (i:Int)),r.fdiv 2147483647,?_⟩
    rw[Ve T.int])
  obtain⟨τ',e1,xs,x,r,rfl⟩:=loop;refine⟨xs,?_⟩;have o1:Cq (m:Int)=true:=EV (by omega)
  unfold Ei Kn
  simp![p30,r30,h,o1,Dm,e1]
 .have loop:=Oz (b:=AD 4) (body:=M4) (n:=m+2) (g:=λi=>.int (i:Int)) (τ:=[some (.int c),some (.int m),some (.own []),some (.int (c.fmod 2147483647+48271)),none,none])
   (λi τ=>∃(xs:Nat->Int) (x:Option T) (r:Int),0<=r/\r<4294967296/\τ=[some (.int c),some (.int m),some (.own (mT i λi=>.int (xs i))),some (.int r),x,none])
   ⟨λ_=>0,none,_,by rw[fm (by decide)];omega,by rw[fm (by decide)];omega,rfl⟩ (by
    rintro i τ hi ⟨xs,x,r,r0,r1,rfl⟩;refine⟨_,by simp![];rfl,?_⟩
    have l1:i<100000:=by omega
    have m1:CA r r=true:=zk1 (Co (by omega) (by omega)) (Co (by omega) (by omega))
    have m2:CA 48271 r=true:=E9 (Ce (by decide) (by decide))
    refine⟨_,by unfold M4;simp![l1,m1,m2];rfl,λj=>if j=i then (r * r+48271 * r+i).fmod 2147483647 else xs j,some (.int (i:Int)),(r * r+48271 * r+i).fmod 2147483647,by rw[fm (by decide)];omega,by rw[fm (by decide)];omega,?_⟩
    rw[Ve T.int])
  obtain⟨τ',e1,xs,x,r,-,-,rfl⟩:=loop;refine⟨λi=>xs (i+2),?_⟩
  have o1:Cq ((m:Int)+2)=true:=EV (n:=m+2) (by omega)
  have o2:((m:Int)+2).toNat=m+2:=by omega
  have ct:CH (mT (m+2) λi=>.int (xs i)) (some 2) none=mT m λi=>.int (xs (i+2)):=by
   unfold CH;have e2:HT.sIx (mT (m+2) λi=>T.int (xs i)).length 0 (some 2)=2:=by rw[Ca];simp[HT.sIx]
   have e3:HT.sIx (mT (m+2) λi=>T.int (xs i)).length (mT (m+2) λi=>T.int (xs i)).length none=m+2:=by rw[Ca];rfl
   rw[e2,e3];refine Fu (by simp[Ca]) λi hi=>?_
   rw[yc5 (by omega),ycf,Ge (by omega),ydt]
  unfold Ei Kn
  simp![p30,r30,h,o1,o2,Dm,e1,ct]
abbrev Ss:Stmt:=AO 65
def Ks:AI :=
 (AF (Af (m2 (CI λi j=>decide (j<=i)) (AA 0) (m2 Fo (mC (.int 10)) (mC (.int 30)))) (AX (Cb (Dt (AS Ei (AB (AA 0) (AB (m2 Be (AA 2) (m2 BL (AA 1) (mC (.int 1)))) AE))) (some (m2 Be (AA 2) (AA 1))) none) (Ds (AS Ei (AB (AA 0) (AB (m2 Be (AA 2) (m2 BL (AA 1) (mC (.int 1)))) AE))) (some (m2 Be (AA 2) (AA 1))) none))) Ae)
 (AX (AS Ei (AB (m2 BL (AA 0) (m2 Be (mC (.int 7919)) (AA 1))) (AB (AA 2) AE)))))
def IF:List T->Option Ru:=Ac 3 3 Ks
abbrev XZ:Fn:=⟨2,["_law_cell","_law_k","_law_many"],IF⟩
abbrev zfd:Gx:=⟨[],[],[],[],false,true,true,none,[],[],[],true,[],[],[],[],[],[],[],[]⟩
abbrev zfk:Gm:=⟨["_law_cell","_law_k","_law_many"],(A2 Ss).names,[],1,[("_law_stream",LQ)],[],[],[],[],false,[],[],[],zfd⟩
theorem zfw:Ck zfk XZ Ss Ks:={}
theorem Y6(h:∀c∈Tx.cs x,c<128):PyData.strOk x=true:=by
 unfold PyData.strOk;rw[<- Array.all_toList,yal];intro c hc;have:=h c hc;exact yf6 (by omega)
theorem zhx{g:Nat->T}:CH (mT (n+a) g) (some (a:Int)) none=mT n λi=>g (i+a):=by
 unfold CH;have e2:HT.sIx (mT (n+a) g).length 0 (some (a:Int))=a:=by rw[Ca];simp[HT.sIx];omega
 have e3:HT.sIx (mT (n+a) g).length (mT (n+a) g).length none=n+a:=by rw[Ca];rfl
 rw[e2,e3];refine Fu (by simp[Ca]) λi hi=>?_
 rw[yc5 (by omega),ycf,Ge (by omega),ydt]
theorem zhv(c:Int){k m:Nat}(hm:m * (k+1)<=1000)(hk:k<=1000)(h1:m<=1000):∃xs:Nat->Int,IF [.int c,.int (k:Int),.int (m:Int)]=some (.ok (.own (mT m λi=>.int (xs i)))):=by
 have p30:(0:Int)<=30/\(30:Int)<=1000000/\ES 10=true:=⟨by decide,by decide,Ce (by decide) (by decide)⟩
 have r30:(30:Int).toNat=30:=rfl;have m1:∀x:Int,CA (m:Int) x=true:=λx=>E9 (Ce (by omega) (by omega))
 by_cases h:(10:Int) ^ 30<=c
 .obtain⟨xs,e⟩:=KC c (m:=m * (k+1)) hm;have em:(m:Int) * ((k:Int)+1)=((m * (k+1):Nat):Int):=by rw[Int.natCast_mul];rfl
  have ek:(m:Int) * (k:Int)=((m * k:Nat):Int):=by rw[Int.natCast_mul]
  have ct:CH (mT (m * (k+1)) λi=>.int (xs i)) (some ((m * k:Nat):Int)) none=mT m λi=>.int (xs (i+m * k)):=by
   rw[show m * (k+1)=m+m * k by rw[Nat.mul_add,Nat.mul_one,ydt]]
   exact zhx
  refine⟨λi=>xs (i+m * k),?_⟩
  unfold IF Ks
  simp![p30,r30,h,m1,em,ek,e,ct]
 .have m2:CA 7919 (k:Int)=true:=E9 (Ce (by decide) (by decide))
  obtain⟨xs,e⟩:=KC (c+7919 * (k:Int)) h1;refine⟨xs,?_⟩;unfold IF Ks
  simp![p30,r30,h,m2,e]
abbrev Sn:Stmt:=AO 66
def Jh:AI :=
 (AF (AU (m2 BL (m2 BL (m2 CN (AA 0) (mC (.int 6720))) (m2 Be (AA 8) (m2 BL (mC (.int 1)) (m2 BO (AA 0) (mC (.int 25)))))) (m2 Be (AA 6) (m1 Iz (m2 Bn (AA 8) (AA 4))))) (AD 9))
 (AU (m2 BL (AA 7) (AY (AA 2) (m2 BO (AA 9) (mC (.int 26))))) (AD 7)))
def Ji:AI :=
 (AF (AU (mC (.str "")) (AD 7))
 (AF (B3 (CM (AB (AA 3) AE)) (AD 8) Jh)
 (C6 5 (AA 7))))
def OV:AI :=
 (AF (AU (mC (.str "abcdefghijklmnopqrstuvwxyz")) (AD 2))
 (AF (AU (m2 BL (mC (.int 1)) (m2 BO (AA 0) (mC (.int 8)))) (AD 3))
 (AF (AU (m2 BO (m2 BO (m2 CN (AA 0) (mC (.int 8))) (mC (.int 840))) (AA 3)) (AD 4))
 (AF (CJ 5 (BJ AE))
 (AF (B3 (CM (AB (AA 1) AE)) (AD 6) Ji)
 (AX (AA 5)))))))
def JW:List T->Option Ru:=Ac 2 10 OV
abbrev XU:Fn:=⟨1,["_law_cell","_law_many"],JW⟩
abbrev zfa:Gx:=⟨[],[],[],[],false,true,true,none,[],[],[],true,[],[],[],[],[],[],[],[]⟩
abbrev zfh:Gm:=⟨["_law_cell","_law_many","_law_letters","_law_size","_law_at","_law_names_here","_law_k","_law_name","_law_j","_law_sign"],(A2 Sn).names,[],0,[],["range","int"],[],["_law_names_here"],[],false,[],[],[],zfa⟩
theorem zft:Ck zfh XU Sn OV:={}
noncomputable def G8(c:Int)(k j:Nat):Int:=(c.fdiv 6720+(j:Int) * (1+c.fmod 25)+(k:Int) * (if ((j:Int) == ((c.fdiv 8).fmod 840).fmod (1+c.fmod 8))=true then 1 else 0)).fmod 26
def EO(c:Int)(k j:Nat):Nat:=97+(G8 c k j).toNat
def Ep(c:Int)(k n:Nat):Str:=⟨((List.range n).map (EO c k)).toArray⟩
def E7(c:Int):Nat:=(1+c.fmod 8).toNat
theorem Il(c:Int):1<=E7 c/\E7 c<=8/\(1+c.fmod 8)=(E7 c:Int):=by
 unfold E7;rw[fm (by decide)]
 omega
theorem IW(c:Int)(k j:Nat):0<=G8 c k j/\G8 c k j<26:=by
 unfold G8;rw[fm (j:=26) (by decide)]
 omega
theorem abc:(Str.ofString "abcdefghijklmnopqrstuvwxyz").cps.toList=(List.range 26).map (97 + ·):=by decide +kernel
theorem zol{i:Int}(h0:0<=i)(h1:i<26):A8 (Str.ofString "abcdefghijklmnopqrstuvwxyz").cps.toList i=some (97+i.toNat):=by
 rw[abc];refine Hs h0 ?_;rw[ya3,ybh (by omega)]
 rfl
theorem zl0:(Str.ofString "abcdefghijklmnopqrstuvwxyz").length<=100000:=by decide +kernel
theorem zjy(c:Int)(k n:Nat):Ep c k n++⟨#[EO c k n]⟩=Ep c k (n+1):=by
 show Str.mk (((List.range n).map (EO c k)).toArray++#[EO c k n])=Str.mk _;rw[List.range_succ,yar];simp
theorem zjx(c:Int)(k n:Nat):(Ep c k n).length=n:=by
 show((List.range n).map (EO c k)).toArray.size=n;simp
theorem w7_ok{k m:Nat}(hi:i<8)(hk:k<30){o x9:Option T}:∃y9,Jh [some (.int c),some (.int (m:Int)),some (.str "abcdefghijklmnopqrstuvwxyz"),some (.int (1+c.fmod 8)),some (.int (((c.fdiv 8).fmod 840).fmod (1+c.fmod 8))),o,some (.int k),some (.str (Ep c k i)),some (.int i),x9]
  = some (.nx [some (.int c),some (.int (m:Int)),some (.str "abcdefghijklmnopqrstuvwxyz"),some (.int (1+c.fmod 8)),some (.int (((c.fdiv 8).fmod 840).fmod (1+c.fmod 8))),o,some (.int k),some (.str (Ep c k (i+1))),some (.int i),y9]):=by
 have m1:CA (i:Int) (1+c.fmod 25)=true:=E9 (Ce (by omega) (by omega))
 have m2:∀x:Int,CA (k:Int) x=true:=λx=>E9 (Ce (by omega) (by omega))
 have s1:CD 6720=true:=Co (by decide) (by decide)
 have ea:A8 (Str.ofString "abcdefghijklmnopqrstuvwxyz").cps.toList ((c.fdiv 6720+(i:Int) * (1+c.fmod 25)+(k:Int) * (if ((i:Int) == ((c.fdiv 8).fmod 840).fmod (1+c.fmod 8))=true then 1 else 0)).fmod 26)=some (EO c k i):=zol (IW c k i).1 (IW c k i).2
 have el:(Ep c k i).length+(Str.mk #[EO c k i]).length<=100000:=by
  rw[zjx];show i+1<=100000
  omega
 unfold Jh;refine⟨some (.int (c.fdiv 6720+(i:Int) * (1+c.fmod 25)+(k:Int) * (if ((i:Int) == ((c.fdiv 8).fmod 840).fmod (1+c.fmod 8))=true then 1 else 0))),?_⟩
 simp![GJ,m1,m2,s1,ea,zl0,el,zjy]
theorem w5_ok{k m:Nat}(hk:k<30)(hl:l.length<1000){x7 x8 x9:Option T}:∃y7 y8 y9,Ji [some (.int c),some (.int (m:Int)),some (.str "abcdefghijklmnopqrstuvwxyz"),some (.int (1+c.fmod 8)),some (.int (((c.fdiv 8).fmod 840).fmod (1+c.fmod 8))),some (.own l),some (.int k),x7,x8,x9]
  = some (.nx [some (.int c),some (.int (m:Int)),some (.str "abcdefghijklmnopqrstuvwxyz"),some (.int (1+c.fmod 8)),some (.int (((c.fdiv 8).fmod 840).fmod (1+c.fmod 8))),some (.own (l++[.str (Ep c k (E7 c))])),some (.int k),y7,y8,y9]):=by
 obtain⟨n1,n8,ne⟩:=Il c
 obtain⟨τ,e,z8,z9,rfl⟩:=Du (b:=AD 8) (body:=Jh) (ts:=mT (E7 c) λi=>.int (i:Int)) (τ:=[some (.int c),some (.int (m:Int)),some (.str "abcdefghijklmnopqrstuvwxyz"),some (.int (1+c.fmod 8)),some (.int (((c.fdiv 8).fmod 840).fmod (1+c.fmod 8))),some (.own l),some (.int k),some (.str ""),x8,x9])
  (λi τ=>∃x8 x9,τ=[some (.int c),some (.int (m:Int)),some (.str "abcdefghijklmnopqrstuvwxyz"),some (.int (1+c.fmod 8)),some (.int (((c.fdiv 8).fmod 840).fmod (1+c.fmod 8))),some (.own l),some (.int k),some (.str (Ep c k i)),x8,x9]) ⟨x8,x9,by rfl⟩ λi t τ h1 h2=>by
   obtain⟨hi,rfl⟩:=Ft h1;obtain⟨x8,x9,rfl⟩:=h2;obtain⟨y9,ew⟩:=w7_ok (c:=c) (k:=k) (i:=i) (m:=m) (by omega) hk (o:=some (.own l)) (x9:=x9)
   exact⟨_,by simp![],_,ew,_,_,rfl⟩
 rw[Ca]at e;have ok:Cq (1+c.fmod 8)=true:=@decide_eq_true _ (Classical.propDecidable _) ⟨by omega,by omega⟩
 have er:DT 0 (1+c.fmod 8).toNat=mT (E7 c) λi=>.int (i:Int):=Dm
 have ll:l.length<100000:=by omega
 unfold Ji;refine⟨some (.str (Ep c k (E7 c))),z8,z9,?_⟩
 simp![ok,er,e,ll]
abbrev Bq(c:Int)(k:Nat):Str:=Ep c k (E7 c)
theorem zh9(c:Int){m:Nat}(hm:m<30):JW [.int c,.int (m:Int)]=some (.ok (.own (mT m λk=>.str (Bq c k)))):=by
 obtain⟨n1,n8,ne⟩:=Il c
 obtain⟨τ,e,z6,z7,z8,z9,rfl⟩:=Du (b:=AD 6) (body:=Ji) (ts:=mT m λi=>.int (i:Int)) (τ:=[some (.int c),some (.int (m:Int)),some (.str "abcdefghijklmnopqrstuvwxyz"),some (.int (1+c.fmod 8)),some (.int (((c.fdiv 8).fmod 840).fmod (1+c.fmod 8))),some (.own []),none,none,none,none])
  (λi τ=>∃x6 x7 x8 x9,τ=[some (.int c),some (.int (m:Int)),some (.str "abcdefghijklmnopqrstuvwxyz"),some (.int (1+c.fmod 8)),some (.int (((c.fdiv 8).fmod 840).fmod (1+c.fmod 8))),some (.own (mT i λk=>.str (Bq c k))),x6,x7,x8,x9]) ⟨_,_,_,_,by rfl⟩ λi t τ h1 h2=>by
   obtain⟨hi,rfl⟩:=Ft h1;obtain⟨x6,x7,x8,x9,rfl⟩:=h2;obtain⟨y7,y8,y9,ew⟩:=w5_ok (c:=c) (k:=i) (m:=m) (by omega) (l:=mT i λk=>.str (Bq c k)) (by rw[Ca];omega) (x7:=x7) (x8:=x8) (x9:=x9)
   rw[Vg (g:=λk=>.str (Bq c k))]at ew
   exact⟨_,by simp![],_,ew,_,_,_,_,rfl⟩
 rw[Ca]at e;have ok:Cq (m:Int)=true:=@decide_eq_true _ (Classical.propDecidable _) ⟨by omega,by omega⟩
 have er:DT 0 m=mT m λi=>.int (i:Int):=Dm
 have h0:(1+c.fmod 8≠0)=True:=eq_true (by omega)
 have s1:CD 8=true:=Co (by decide) (by decide)
 unfold JW OV
 simp![ok,er,e,h0,s1]
theorem K9(c:Int)(k:Nat):Tx.cs (Bq c k)=(List.range (E7 c)).map (EO c k):=rfl
theorem znd(c:Int)(k:Nat):∀s∈Tx.cs (Bq c k),97<=s/\s<=122:=λs hs=>by
 rw[K9]at hs;obtain⟨j,_,rfl⟩:=yag.mp hs;have:=IW c k j;unfold EO
 omega
theorem zjz(c:Int)(k:Nat):(Tx.cs (Bq c k)).length<=8:=by
 rw[K9,ya1,yb6];exact(Il c).2.1
theorem znc(c:Int)(k:Nat):1<=(Tx.cs (Bq c k)).length:=by
 rw[K9,ya1,yb6];exact(Il c).1
theorem zh8{j k:Nat}(hj:j<26)(hk:k<26)(h:Bq c j=Bq c k):j=k:=by
 obtain⟨n1,n8,ne⟩:=Il c
 have ha:0<=((c.fdiv 8).fmod 840).fmod (1+c.fmod 8)/\((c.fdiv 8).fmod 840).fmod (1+c.fmod 8)<1+c.fmod 8:=by
  rw[fm (j:=1+c.fmod 8) (by omega)]
  exact⟨Int.emod_nonneg _ (by omega),Int.emod_lt_of_pos _ (by omega)⟩
 obtain⟨a,ea⟩:=yby ha.1;have hn:a<E7 c:=by omega
 have e:EO c j a=EO c k a:=by
  have e1:=congrArg (λl:List Nat=>l[a]?) (congrArg Tx.cs h)
  simp only[K9,ya3,ybh hn]at e1;exact yao e1
 have s1:=IW c j a;have s2:=IW c k a;unfold EO at e;have e2:G8 c j a=G8 c k a:=by omega
 unfold G8 at e2;have eb:(((a:Nat):Int) == ((c.fdiv 8).fmod 840).fmod (1+c.fmod 8))=true:=by rw[ea];exact yff _
 rw[if_pos eb,fm (j:=26) (by decide),fm (j:=26) (by decide)]at e2
 generalize c.fdiv 6720+((a:Nat):Int) * (1+c.fmod 25)=z at e2
 omega
abbrev SJ:Stmt:=AO 24
def Nt:AI :=
 (AX (Eb EI EI (mC (.str "a")) (AA 0) (mC (.str "z"))))
def JR:List T->Option Ru:=Ac 1 1 Nt
abbrev PM:Fn:=⟨1,["sign"],JR⟩
abbrev za4:Gx:=⟨[],[],[],[],false,true,true,none,[],[],[],true,[],[],[],[],[],[],[],[]⟩
abbrev za7:Gm:=⟨["sign"],(A2 SJ).names,[],0,[],[],[],[],[],false,[],[],[],za4⟩
theorem za9:Ck za7 PM SJ Nt:={}
theorem R8{c:Nat}(h1:97<=c)(h2:c<=122):JR [.str ⟨#[c]⟩]=some (.ok (.bl true)):=by
 have a1:((Str.ofString "a").cps.toList)=[97]:=by decide +kernel
 have a2:((Str.ofString "z").cps.toList)=[122]:=by decide +kernel
 have b1:@decide ((#[c]:Array Nat).toList<(Str.ofString "a").cps.toList) (Classical.propDecidable _)=false:=@decide_eq_false _ (Classical.propDecidable _) (by
  rw[a1];show ¬ ([c] < [97]);rw[List.cons_lt_cons_iff];rintro(h|⟨_,h⟩)
  .omega
  .exact absurd h (List.not_lt_nil _))
 have b2:@decide ((Str.ofString "z").cps.toList<(#[c]:Array Nat).toList) (Classical.propDecidable _)=false:=@decide_eq_false _ (Classical.propDecidable _) (by
  rw[a2];show ¬ ([122] < [c]);rw[List.cons_lt_cons_iff];rintro(h|⟨_,h⟩)
  .omega
  .exact absurd h (List.not_lt_nil _))
 unfold JR Nt
 simp![b1,b2]
abbrev SQ:Stmt:=AO 25
def QE:AJ :=
 (AS JR (AB (AA 0) AE))
def Nw:AI :=
 (AX (CP (Eb EI EI (mC (.int 1)) (m1 B0 (AA 0)) (mC (.int 8))) (m1 DE (Ar 1 [] (Al (AA 0)) (AD 0) (mC (.bl true)) QE))))
def JT:List T->Option Ru:=Ac 1 1 Nw
abbrev PQ:Fn:=⟨2,["text"],JT⟩
abbrev zdx:Gx:=⟨[],[],[],[],false,true,true,none,[],[],[],true,[],[],[],[],[],[],[],[]⟩
abbrev ze2:Gm:=⟨["text"],(A2 SQ).names,[],1,[("is_small_letter",PM)],["len","all"],[],[],[],false,[],[],[],zdx⟩
theorem zea:Ck ze2 PQ SQ Nw:={}
def FD(x:Str):Prop:=∀i,i<x.cps.size->97<=x.cps.getD i 0/\x.cps.getD i 0<=122
theorem Rb(x:Str):Fi x=mT x.cps.size λi=>.str ⟨#[x.cps.getD i 0]⟩:=by
 refine Fu (by simp[Fi]) λi hi=>?_
 unfold Fi;rw[ya3,ycx,yb9 hi];simp[Array.getD,hi]
theorem VV(h:FD x)(h1:1<=x.cps.size)(h8:x.cps.size<=8):JT [.str x]=some (.ok (.bl true)):=by
 have l1:x.cps.size<=100000:=by omega
 have lc:=EY (n:=x.cps.size) (me:=QE) (x:=none) (cs:=[]) (g:=λi=>.str ⟨#[x.cps.getD i 0]⟩) (f:=λ_=>.bl true) λi hi=>by
  unfold QE
  simp![R8 (h i hi).1 (h i hi).2]
 have e1:decide ((1:Int)<=(x.length:Int))=true:=yf6 (by show(1:Int)<=((x.cps.size:Nat):Int);omega)
 have e2:decide ((x.length:Int)<=8)=true:=yf6 (by show((x.cps.size:Nat):Int)<=8;omega)
 have ll:x.length<=BP:=by
  show x.cps.size<=BP;unfold BP
  omega
 have ba:((List.range x.cps.size).map λ_=>true).all id=true:=by simp
 unfold JT Nw
 simp![Rb,lc,l1,e1,e2,ll,JK,ba]
abbrev SI:Stmt:=AO 26
def Nr:AI :=
 (AX (CP (m1 (Ci "str") (AA 0)) (Bu (m2 Bn (AA 0) (mC (.str "/"))) (AS JT (AB (AA 0) AE)))))
def JQ:List T->Option Ru:=Ac 1 1 Nr
abbrev PL:Fn:=⟨3,["thing"],JQ⟩
abbrev zac:Gx:=⟨[],[],[],[],false,true,true,none,[],[],[],true,[],[],[],[],[],[],[],[]⟩
abbrev zah:Gm:=⟨["thing"],(A2 SI).names,[],2,[("is_name",PQ)],["isinstance","str"],[],[],[],false,[],[],[],zac⟩
theorem zak:Ck zah PL SI Nr:={}
theorem zll(h:FD x):PyData.strOk x=true:=by
 unfold PyData.strOk;rw[Array.all_eq_true];intro i hi;have:=(h i hi).2;rw[yc0,yb9 hi]at this;simp only[ybe]at this;rw[yfc]
 omega
def Gr(x:Str):Prop:=x=Str.ofString "/"\/(FD x/\1<=x.cps.size/\x.cps.size<=8)
theorem Mt:PyData.strOk (Str.ofString "/")=true:=by decide +kernel
theorem HF(h:Gr x):PyData.strOk x=true:=by
 rcases h with rfl|h
 .exact Mt
 .exact zll h.1
theorem Qe(h:Gr x):JQ [.str x]=some (.ok (.bl true)):=by
 have e:=F9 (HF h) Mt;unfold JQ Nr
 by_cases q:x=Str.ofString "/"
 .rw[yf6 q]at e
  simp![e]
 .rw[yeo q]at e;have en:=VV (h.resolve_left q).1 (h.resolve_left q).2.1 (h.resolve_left q).2.2
  simp![e,en]
abbrev SM:Stmt:=AO 27
def L7:AJ :=
 (Bu (m2 Bn (AA 0) (mC (.str "/"))) (AS JR (AB (AA 0) AE)))
def Nu:AI :=
 (AF (Af (Bu (Ay (m1 (Ci "str") (AA 0))) (Ay (Eb EI EI (mC (.int 1)) (m1 B0 (AA 0)) (mC (.int 60))))) (AX (mC (.bl false))) Ae)
 (AX (m1 DE (Ar 1 [] (Al (AA 0)) (AD 0) (mC (.bl true)) L7))))
def JS:List T->Option Ru:=Ac 1 1 Nu
abbrev PN:Fn:=⟨2,["thing"],JS⟩
abbrev zaq:Gx:=⟨[],[],[],[],false,true,true,none,[],[],[],true,[],[],[],[],[],[],[],[]⟩
abbrev zav:Gm:=⟨["thing"],(A2 SM).names,[],1,[("is_small_letter",PM)],["isinstance","str","len","all"],[],[],[],false,[],[],[],zaq⟩
theorem zay:Ck zav PN SM Nu:={}
def Ht(x:Str):Prop:=∀i,i<x.cps.size->x.cps.getD i 0=47\/(97<=x.cps.getD i 0/\x.cps.getD i 0<=122)
theorem TR(h:Ht x):PyData.strOk x=true:=by
 unfold PyData.strOk;rw[Array.all_eq_true];intro i hi;have:=h i hi;rw[yc0,yb9 hi]at this;simp only[ybe]at this;rw[yfc]
 omega
theorem TQ(h:Ht x)(h1:1<=x.cps.size)(h8:x.cps.size<=60):JS [.str x]=some (.ok (.bl true)):=by
 have l1:x.cps.size<=100000:=by omega
 have lc:=EY (n:=x.cps.size) (me:=L7) (x:=none) (cs:=[]) (g:=λi=>.str ⟨#[x.cps.getD i 0]⟩) (f:=λ_=>.bl true) λi hi=>by
  have o1:PyData.strOk (Str.mk #[x.cps.getD i 0])=true:=TR λj hj=>by
   have hj':j<1:=hj;have e:j=0:=by omega
   subst e;exact h i hi
  have e:=F9 o1 Mt
  by_cases q:x.cps.getD i 0=47
  .have n:Str.mk #[x.cps.getD i 0]=Str.ofString "/":=by
    rw[q];exact Tx.cs_ext (by decide +kernel)
   rw[yf6 n]at e;unfold L7
   simp![e]
  .have n:¬ (Str.mk #[x.cps.getD i 0]=Str.ofString "/"):=λq1=>by
    have e1:(Str.ofString "/").cps=#[47]:=by decide +kernel
    have q1:#[x.cps.getD i 0]=(Str.ofString "/").cps:=congrArg Str.cps q1;rw[e1]at q1;exact q (by simpa using q1)
   rw[yeo n]at e;have hh:=(h i hi).resolve_left q;unfold L7
   simp![e,R8 hh.1 hh.2]
 have e1:decide ((1:Int)<=(x.length:Int))=true:=yf6 (by show(1:Int)<=((x.cps.size:Nat):Int);omega)
 have e2:decide ((x.length:Int)<=60)=true:=yf6 (by show((x.cps.size:Nat):Int)<=60;omega)
 have ll:x.length<=100000:=l1;have ba:((List.range x.cps.size).map λ_=>true).all id=true:=by simp
 unfold JS Nu
 simp![Rb,lc,l1,e1,e2,ll,JK,ba]
abbrev SH:Stmt:=AO 8
def Nq:AI :=
 (AX (CP (m1 (Ci "int") (AA 0)) (Ay (m1 (Ci "bool") (AA 0)))))
def Hy:List T->Option Ru:=Ac 1 1 Nq
abbrev PK:Fn:=⟨1,["thing"],Hy⟩
abbrev zcw:Gx:=⟨[],[],[],[],false,true,true,none,[],[],[],true,[],[],[],[],[],[],[],[]⟩
abbrev zd5:Gm:=⟨["thing"],(A2 SH).names,[],0,[],["isinstance","int","bool"],[],[],[],false,[],[],[],zcw⟩
theorem zdf:Ck zd5 PK SH Nq:={}
theorem Qf(i:Int):Hy [.int i]=some (.ok (.bl true)):=by simp![Hy,Nq]
abbrev SN:Stmt:=AO 17
def Nv:AI :=
 (AX (CP (AS Hy (AB (AA 0) AE)) (m2 (CI λi j=>decide (j<=i)) (AA 0) (mC (.int 0)))))
def Lr:List T->Option Ru:=Ac 1 1 Nv
abbrev XA:Fn:=⟨2,["thing"],Lr⟩
abbrev zc8:Gx:=⟨[],[],[],[],false,true,true,none,[],[],[],true,[],[],[],[],[],[],[],[]⟩
abbrev zcg:Gm:=⟨["thing"],(A2 SN).names,[],1,[("is_whole",PK)],[],[],[],[],false,[],[],[],zc8⟩
theorem zcl:Ck zcg XA SN Nv:={}
theorem zjv(i:Int):Lr [.int i]=some (.ok (.bl (decide (0<=i)))):=by
 unfold Lr Nv
 simp![Qf]
abbrev SU:Stmt:=AO 16
def Nx:AI :=
 (AF (Af (Bu (Ay (m1 (Ci "tuple") (AA 0))) (m2 By (m1 B0 (AA 0)) (mC (.int 3)))) (AX (mC (.bl false))) Ae)
 (AX (CP (m2 CY (AY (AA 0) (mC (.int 0))) (AA 1)) (CP (m2 CY (AY (AA 0) (mC (.int 1))) (AA 2)) (AS Lr (AB (AY (AA 0) (mC (.int 2))) AE))))))
def Lu:List T->Option Ru:=Ac 3 3 Nx
abbrev XB:Fn:=⟨3,["thing","watches","words"],Lu⟩
abbrev zdy:Gx:=⟨[],[],[],[],false,true,true,none,[],[],[],true,[],[],[],[],[],[],[],[]⟩
abbrev ze3:Gm:=⟨["thing","watches","words"],(A2 SU).names,[],2,[("is_number",XA)],["isinstance","tuple","len"],[],[],[],false,[],[],[],zdy⟩
theorem zeb:Ck ze3 XB SU Nx:={}
def DR:List Str:=["<","<=",">",">=","="]
theorem J9:Bw DR:=by unfold Bw;decide +kernel
abbrev SW:Stmt:=AO 18
def QF:AJ :=
 (AS Lu (AB (AA 0) (AB (AA 1) (AB (AA 2) AE))))
def Nz:AI :=
 (AX (CP (m1 (Ci "list") (AA 0)) (m1 DE (Ar 1 [1,2] (Al (AA 0)) (AD 0) (mC (.bl true)) QF))))
def IB:List T->Option Ru:=Ac 3 3 Nz
abbrev LN:Fn:=⟨4,["thing","watches","words"],IB⟩
abbrev zcy:Gx:=⟨[],[],[],[],false,true,true,none,[],[],[],true,[],[],[],[],[],[],[],[]⟩
abbrev zd7:Gm:=⟨["thing","watches","words"],(A2 SW).names,["watches","words"],3,[("is_look",XB)],["isinstance","list","all"],[],[],[],false,[],[],[],zcy⟩
theorem zdh:Ck zd7 LN SW Nz:={}
abbrev Sb:Stmt:=AO 33
def OJ:AI :=
 (AX (m2 Bn (m1 IL (AA 0)) (m1 B0 (AA 0))))
def GL:List T->Option Ru:=Ac 1 1 OJ
abbrev Hh:Fn:=⟨1,["texts"],GL⟩
abbrev zbq:Gx:=⟨[],[],[],[],false,true,true,none,[],[],[],true,[],[],[],[],[],[],[],[]⟩
abbrev zbv:Gm:=⟨["texts"],(A2 Sb).names,[],0,[],["len","set"],[],[],[],false,[],[],[],zbq⟩
theorem zc0:Ck zbv Hh Sb OJ:={}
theorem V8{val:Nat->L2.Key}{n:Nat}(h:∀i j,i<n->j<n->val i=val j->i=j):∀k,k<=n->(met val k).length=k/\∀x∈met val k,∃i,i<k/\x=val i
 |0,_=>⟨rfl,λx hx=>by cases hx⟩
 |k+1,hk=>by
  obtain⟨h1,h2⟩:=V8 h k (by omega)
  have hn:val k∉met val k:=λz=>by
   obtain⟨i,hi,e⟩:=h2 _ z;have:=h k i (by omega) (by omega) e
   omega
  have e:met val (k+1)=met val k++[val k]:=by
   conv=>lhs;unfold met
   rw[if_neg hn]
  rw[e];refine⟨by rw[yac,ybg,h1],λx hx=>?_⟩
  rcases yba.mp hx with q|q
  .obtain⟨i,hi,e⟩:=h2 x q;exact⟨i,by omega,e⟩
  .exact⟨k,by omega,ya8.mp q⟩
theorem zl4(h:ys.Nodup):Ma ys=ys.length:=by
 unfold Ma;refine(V8 (n:=ys.length) (λi j hi hj e=>?_) ys.length (yae _)).1
 have e':=Sum.inr.inj e;rw[ya2,ya2,ya0 hi,ya0 hj]at e';exact(ydl h).mp e'
theorem IM(h:ys.Nodup)(hl:ys.length<1000):GL [.lst (ys.map T.str)]=some (.ok (.bl true)):=by
 have e:((ys.length:Int) == (ys.length:Int))=true:=yff _;unfold GL OJ
 simp![IL,A6,HQ,hl,zl4 h,GJ,e,ya1]
abbrev S7:Stmt:=AO 32
def QJ:AJ :=
 (AS JQ (AB (AA 0) AE))
def OE:AI :=
 (AF (Af (Bu (Ay (m1 (Ci "list") (AA 0))) (m2 (CI λi j=>decide (j<i)) (m1 B0 (AA 0)) (mC H9))) (Bz "BadMachine" (AB (mC (.str "a machine's watches are a list of at most seven")) AE)) Ae)
 (Af (Bu (Ay (m1 DE (Ar 1 [] (Al (AA 0)) (AD 0) (mC (.bl true)) QJ))) (Ay (AS GL (AB (AA 0) AE)))) (Bz "BadMachine" (AB (mC (.str "a machine's watches are unlike names")) AE)) Ae))
def Lw:List T->Option Ru:=Ac 1 1 OE
abbrev XF:Fn:=⟨4,["watches"],Lw⟩
abbrev zad:Gx:=⟨[("MOST_WATCHES",H9)],[],[],[],false,true,true,none,[],[],[],true,[],[],[],[],[],[],[],[]⟩
abbrev zai:Gm:=⟨["watches"],(A2 S7).names,[],3,[("is_watch_name",PL),("are_unlike",Hh)],["isinstance","list","len","all"],["BadMachine"],[],[],false,[],[],[],zad⟩
theorem zal:Ck zai XF S7 OE:={}
theorem Jy(ws:List Str):ws.map T.str=mT ws.length λi=>.str (ws.getD i Str.empty):=Fu (by rw[ya1]) λi hi=>by
 rw[ya3,ya2,ya0 hi]
 rfl
theorem cw_ok(h:∀x∈ws,Gr x)(hd:ws.Nodup)(hl:ws.length<=7):Lw [.lst (ws.map T.str)]=some (.ok .non):=by
 have lc:=EY (n:=ws.length) (me:=QJ) (x:=none) (cs:=[]) (g:=λi=>.str (ws.getD i Str.empty)) (f:=λ_=>.bl true) λi hi=>by
  have hm:ws.getD i Str.empty∈ws:=by
   rw[ya2,ya0 hi];exact yau hi
  unfold QJ
  simp![Qe (h _ hm)]
 rw[<- Jy]at lc;have l1:ws.length<=100000:=by omega
 have e1:decide ((7:Int)<(ws.length:Int))=false:=yeo (by omega)
 have ba:((List.range ws.length).map λ_=>true).all id=true:=by simp
 have un:=IM hd (by omega)
 unfold Lw OE H9
 simp![A6,AW,ya1,lc,l1,e1,JK,ba,un]
abbrev S8:Stmt:=AO 34
def MX:AI :=
 (AF (Af (Bu (Ay (m1 (Ci "tuple") (AA 2))) (m2 By (m1 B0 (AA 2)) (mC (.int 2)))) (Bz "BadMachine" (AB (mC (.str "a room is a tuple of a name and a stay")) AE)) Ae)
 (Af (Bu (Ay (AS JS (AB (AY (AA 2) (mC (.int 0))) AE))) (Ay (AS IB (AB (AY (AA 2) (mC (.int 1))) (AB (AA 1) (AB (mC Oe) AE)))))) (Bz "BadMachine" (AB (mC (.str "a room has a name, and a stay of the machine's watches")) AE)) Ae))
def QK:AJ :=
 (AY (AA 0) (mC (.int 0)))
def OF:AI :=
 (AF (Af (Bu (Ay (m1 (Ci "list") (AA 0))) (m2 Bn (m1 B0 (AA 0)) (mC (.int 0)))) (Bz "BadMachine" (AB (mC (.str "a machine's rooms are a list of one or more")) AE)) Ae)
 (AF (B3 (Al (AA 0)) (AD 2) MX)
 (Af (Ay (AS GL (AB (Ar 1 [] (Al (AA 0)) (AD 0) (mC (.bl true)) QK) AE))) (Bz "BadMachine" (AB (mC (.str "no two rooms have one name")) AE)) Ae)))
def Lx:List T->Option Ru:=Ac 2 3 OF
abbrev XG:Fn:=⟨5,["rooms","watches"],Lx⟩
abbrev zb0:Gx:=⟨[("STAY_WORDS",Oe)],[],[],[],false,true,true,none,[],[],[],true,[],[],[],[],[],[],[],[]⟩
abbrev zb7:Gm:=⟨["rooms","watches","room"],(A2 S8).names,[],4,[("is_room_name",PN),("is_guard",LN),("are_unlike",Hh)],["isinstance","list","len","tuple"],["BadMachine"],[],[],false,[],[],[],zb0⟩
theorem zbe:Ck zb7 XG S8 OF:={}
def C0(ws wd:List Str)(l:List T):Prop:=∀t∈l,∃x y n,t=.tup [.str x,.str y,.int n]/\x∈ws/\y∈wd/\0<=n
theorem C0.sh(h:C0 ws wd l):A3 l=true:=by
 rw[DK,yal];intro t ht;obtain⟨x,y,n,rfl,_⟩:=h t ht
 rfl
theorem C0.more{vs:List Str}(h:C0 ws wd l)(hs:∀x∈ws,x∈vs):C0 vs wd l:=λt ht=>by
 obtain⟨x,y,n,e,h1,h2,h3⟩:=h t ht;exact⟨x,y,n,e,hs x h1,h2,h3⟩
abbrev Iq(wd:List Str):T:=.nd false .rt (wd.map T.str)
theorem zk6(h:Bw ws)(hd:Bw wd){t:T}(ht:∃x y n,t=.tup [.str x,.str y,.int n]/\x∈ws/\y∈wd/\0<=n):Lu [t,.lst (ws.map T.str),Iq wd]=some (.ok (.bl true)):=by
 obtain⟨x,y,n,rfl,h1,h2,h3⟩:=ht;have e1:=JA (o:=false) (k:=.lst) h (h x h1);have e2:=JA (o:=false) (k:=.rt) hd (hd y h2);have e3:=zjv n;rw[yf6 h1]at e1;rw[yf6 h2]at e2;rw[yf6 h3]at e3;unfold Lu Nx
 simp![E8,A6,AW,e1,e2,e3]
theorem Ow(h:Bw ws)(hd:Bw wd)(hl:l.length<=1000)(hk:C0 ws wd l):IB [.lst l,.lst (ws.map T.str),Iq wd]=some (.ok (.bl true)):=by
 have hs:=hk.sh;have es:=AG l hs;have em:=mT_of l .non
 have sg:∀i,(l.getD i .non).sh=true:=λi=>by
  by_cases hi:i<l.length
  .rw[ya2,ya0 hi];rw[DK,yal]at hs;exact hs _ (yau hi)
  .rw[ya2,yai (by omega)]
   rfl
 have lc:=EY (n:=l.length) (me:=QF) (x:=none) (cs:=[some (.lst (ws.map T.str)),some (Iq wd)]) (g:=λi=>l.getD i .non) (f:=λ_=>.bl true) λi hi=>by
  have hm:l.getD i .non∈l:=by
   rw[ya2,ya0 hi];exact yau hi
  have e:=zk6 h hd (hk _ hm);unfold QF
  simp![A6,AW,e,Ao _ (sg i),sg i]
 rw[<- em]at lc;have l1:l.length<=100000:=by omega
 have ba:((List.range l.length).map λ_=>true).all id=true:=by simp
 unfold IB Nz
 simp![A6,AW,hs,es,l1,lc,JK,ba]
def Fg:List Str:=["<","<="]
theorem znv:Oe=Iq Fg:=rfl
theorem Vy:Ir=Iq DR:=rfl
theorem st_tx:Bw Fg:=by unfold Bw;decide +kernel
structure RsOk(ws:List Str)(rs:List (Str×List T)):Prop where
 l1:1<=rs.length
 l64:rs.length<=64
 nm:∀r∈rs,Ht r.1/\1<=r.1.cps.size/\r.1.cps.size<=60
 nd:(rs.map (·.1)).Nodup
 lk:∀r∈rs,C0 ws Fg r.2/\r.2.length<=1000
abbrev BX(r:Str×List T):T:=.tup [.str r.1,.lst r.2]
abbrev ET(rs:List (Str×List T)):T:=.lst (rs.map BX)
theorem NR(h:RsOk ws rs):A3 (rs.map BX)=true:=by
 rw[DK,yal];intro t ht;obtain⟨r,hr,rfl⟩:=yag.mp ht;have:=(h.lk r hr).1.sh;show((!false) && (true && (((!false) && A3 r.2) && true)))=true;rw[this]
 rfl
theorem zku(hw:Bw ws)(h:RsOk ws rs):Lx [ET rs,.lst (ws.map T.str)]=some (.ok .non):=by
 have sr:=NR h;have er:=AG _ sr;have hl1:=h.l1;have hl2:=h.l64;have en:(((rs.map BX).length:Int) == 0)=false:=by rw[yfq,ya1];omega
 obtain⟨τ,e,y,rfl⟩:=Du (b:=AD 2) (body:=MX) (ts:=rs.map BX) (τ:=[some (ET rs),some (.lst (ws.map T.str)),none]) (λi τ=>∃y,τ=[some (ET rs),some (.lst (ws.map T.str)),y]) ⟨_,rfl⟩ λi t τ h1 h2=>by
  obtain⟨y,rfl⟩:=h2;obtain⟨r,hr,rfl⟩:=yag.mp (yab h1);obtain⟨n1,n2,n3⟩:=h.nm r hr;obtain⟨k1,k2⟩:=h.lk r hr;have e1:=TQ n1 n2 n3;have e2:=Ow hw st_tx k2 k1;have e3:=k1.sh;refine⟨[some (ET rs),some (.lst (ws.map T.str)),some (BX r)],by simp![],[some (ET rs),some (.lst (ws.map T.str)),some (BX r)],?_,_,rfl⟩
  unfold MX
  simp![znv,E8,A6,AW,e1,e2,e3,AG _ e3]
 have lc:=O8 (b:=AD 0) (me:=QK) (ts:=rs.map BX) (τ:=[none]) (λ_ τ=>∃y,τ=[y]) (λi=>.str ((rs.map (·.1)).getD i Str.empty)) ⟨none,rfl⟩ λi t τ h1 h2=>by
  obtain⟨y,rfl⟩:=h2;have hi:i<rs.length:=by simpa using (ya6.mp h1).1
  rw[ya3,ya0 hi]at h1;have et:t=BX rs[i]:=(yao h1).symm;subst et;have k1:=(h.lk rs[i] (yau hi)).1.sh;have eg:(rs.map (·.1)).getD i Str.empty=rs[i].1:=by simp[hi]
  refine⟨[some (BX rs[i])],by simp![],?_,_,rfl⟩
  rw[eg];unfold QK
  simp![k1]
 have em:(List.range (rs.map BX).length).map (λi=>T.str ((rs.map (·.1)).getD i Str.empty))=(rs.map (·.1)).map T.str:=by
  rw[Jy (rs.map (·.1)),ya1,ya1]
  rfl
 rw[em]at lc;have un:=IM h.nd (by rw[ya1];omega)
 have ll:(rs.map BX).length<=100000:=by rw[ya1];omega
 unfold Lx OF
 simp![GJ,A6,AW,sr,er,en,e,lc,un,ll]
abbrev Sd:Stmt:=AO 36
def QN:AJ :=
 (AS JQ (AB (AA 0) AE))
def QM:AJ :=
 (m2 CY (AA 0) (AA 1))
def OK:AI :=
 (AF (Af (Bu (Ay (m1 (Ci "list") (AA 0))) (Ay (m1 DE (Ar 1 [] (Al (AA 0)) (AD 0) (mC (.bl true)) QN)))) (AX (mC (.bl false))) Ae)
 (AX (CP (AS GL (AB (AA 0) AE)) (m1 DE (Ar 1 [1] (Al (AA 0)) (AD 0) (mC (.bl true)) QM)))))
def MA:List T->Option Ru:=Ac 2 2 OK
abbrev XJ:Fn:=⟨4,["thing","watches"],MA⟩
abbrev zb3:Gx:=⟨[],[],[],[],false,true,true,none,[],[],[],true,[],[],[],[],[],[],[],[]⟩
abbrev zba:Gm:=⟨["thing","watches"],(A2 Sd).names,["watches"],3,[("is_watch_name",PL),("are_unlike",Hh)],["isinstance","list","all"],[],[],[],false,[],[],[],zb3⟩
theorem zbh:Ck zba XJ Sd OK:={}
theorem znb(hw:∀x∈ws,Gr x)(hn:∀x∈ns,x∈ws)(hd:ns.Nodup)(hl:ns.length<=100):MA [.lst (ns.map T.str),.lst (ws.map T.str)]=some (.ok (.bl true)):=by
 have tw:Bw ws:=λx hx=>HF (hw x hx)
 have mem:∀i,i<ns.length->ns.getD i Str.empty∈ns:=λi hi=>by
  rw[ya2,ya0 hi];exact yau hi
 have lc:=EY (n:=ns.length) (me:=QN) (x:=none) (cs:=[]) (g:=λi=>.str (ns.getD i Str.empty)) (f:=λ_=>.bl true) λi hi=>by
  unfold QN
  simp![Qe (hw _ (hn _ (mem i hi)))]
 have lc2:=EY (n:=ns.length) (me:=QM) (x:=none) (cs:=[some (.lst (ws.map T.str))]) (g:=λi=>.str (ns.getD i Str.empty)) (f:=λ_=>.bl true) λi hi=>by
  have e:=JA (o:=false) (k:=.lst) tw (tw _ (hn _ (mem i hi)));rw[yf6 (hn _ (mem i hi))]at e;unfold QM
  simp![A6,AW,e]
 rw[<- Jy]at lc lc2;have l1:ns.length<=100000:=by omega
 have ba:((List.range ns.length).map λ_=>true).all id=true:=by simp
 have un:=IM hd (by omega)
 unfold MA OK
 simp![A6,AW,ya1,lc,lc2,l1,JK,ba,un]
abbrev SK:Stmt:=AO 28
def Kl:AI :=
 (AF (Af (Ay (m1 (Ci "str") (AA 0))) (AX (mC (.bl false))) Ae)
 (AX (Bu (m2 Bn (AA 0) (mC (.str ""))) (CP (m2 CY (AY (AA 0) (m1 Er (mC (.int 1)))) (B5 (AB (mC (.str "!")) (AB (mC (.str "?")) AE)))) (AS JT (AB (Cb (Dt (AA 0) none (some (m1 Er (mC (.int 1))))) (Ds (AA 0) none (some (m1 Er (mC (.int 1)))))) AE))))))
def Hz:List T->Option Ru:=Ac 1 1 Kl
abbrev Wz:Fn:=⟨3,["thing"],Hz⟩
abbrev zdw:Gx:=⟨[],[],[],[],false,true,true,none,[],[],[],true,[],[],[],[],[],[],[],[]⟩
abbrev ze1:Gm:=⟨["thing"],(A2 SK).names,[],2,[("is_name",PQ)],["isinstance","str"],[],[],[],false,[],[],[],zdw⟩
theorem ze9:Ck ze1 Wz SK Kl:={}
def Fb(z:Str):Prop:=z=Str.ofString ""\/∃(y:Str) (c:Nat),FD y/\1<=y.cps.size/\y.cps.size<=8/\(c=33\/c=63)/\Tx.cs z=Tx.cs y++[c]
theorem IV(h:FD y):∀c∈Tx.cs y,97<=c/\c<=122:=λc hc=>by
 obtain⟨i,hi⟩:=List.getElem?_of_mem hc;have hl:i<y.cps.size:=by simpa using (ya6.mp hi).1
 have:=h i hl;rw[ycx,yb9 hl]at hi;rw[yc0,yb9 hl]at this;cases hi;exact this
theorem zin(h:Fb z):∀c∈Tx.cs z,c<128/\c≠32/\c≠10/\c≠58:=λc hc=>by
 rcases h with rfl|⟨y,d,h1,_,_,hd,e⟩
 .rw[show Tx.cs (Str.ofString "")=[] by decide +kernel]at hc
  cases hc
 .rw[e]at hc
  rcases yba.mp hc with hc|hc
  .have:=IV h1 c hc
   omega
  .rw[ya8.mp hc]
   omega
theorem KI(h:Fb z):PyData.strOk z=true:=Y6 λc hc=>(zin h c hc).1
theorem zlp(h:Fb z):Hz [.str z]=some (.ok (.bl true)):=by
 have o0:PyData.strOk (Str.ofString "")=true:=by decide +kernel
 have tl:∀c,(c=33\/c=63)->CY (.str (Str.mk #[c])) (.tup [.str (Str.ofString "!"),.str (Str.ofString "?")])=some (.bl true):=λc hc=>by
  rcases hc with rfl|rfl<;>ext
 have key:∀z y:Str,PyData.strOk z=true->z≠Str.ofString ""->z.length<=100000->∀c,(c=33\/c=63)->A8 z.cps.toList (-1)=some c->Txt.slice z none (some (-1))=y->FD y->1<=y.cps.size->y.cps.size<=8->Hz [.str z]=some (.ok (.bl true)):=by
  intro z y hz hne hl c hc ha hs h1 h2 h3;have e:=F9 hz o0;rw[yeo hne]at e;have en:=VV h1 h2 h3;unfold Hz Kl
  simp![e,hl,ha,tl c hc,Ds,hs,en,show(-(1:Int))=-1 from rfl]
 rcases id h with rfl|⟨y,c,h1,h2,h3,hc,e⟩
 .have e:=F9 o0 o0;rw[yf6 rfl]at e;unfold Hz Kl
  simp![e]
 .have hl:(Tx.cs z).length=(Tx.cs y).length+1:=by rw[e,yac];rfl
  have h3':(Tx.cs y).length<=8:=h3;refine key z y (KI h) (λq=>?_) (by rw[Tx.cs_len];omega) c hc ?_ ?_ h1 h2 h3
  .rw[q,show Tx.cs (Str.ofString "")=[] by decide +kernel]at hl
   exact absurd hl (by rw[yb0];omega)
  .show A8 (Tx.cs z) (-1)=some c;rw[e];unfold A8 DN;rw[yac,ybg,if_neg (by decide),if_pos (by omega)]
   show(Tx.cs y++[c])[((-1:Int)+(((Tx.cs y).length+1:Nat):Int)).toNat]?=some c;rw[show((-1:Int)+(((Tx.cs y).length+1:Nat):Int)).toNat=(Tx.cs y).length by omega,yb2 (yae _),Nat.sub_self]
   rfl
  .have e2:Txt.slice z none (some (-1))=StrLaws.sliceText z none (some (-1)):=rfl;rw[e2,StrLaws.sliceText_neg_hi z none (by decide) (by rw[Tx.cs_len,hl];omega)]
   have e3:((-1:Int)+(z.length:Int))=(((Tx.cs y).length:Nat):Int):=by rw[Tx.cs_len,hl];omega
   rw[e3];refine Tx.cs_ext ?_;show Tx.cs (Txt.slice z none (some (((Tx.cs y).length:Nat):Int)))=Tx.cs y;rw[Tx.sl_to (by omega),e,List.take_left' rfl]
abbrev SD:Stmt:=AO 29
def Nn:AI :=
 (AX (DX (m1 (Ci "list") (AA 0)) (m1 CK (AA 0)) (AA 0)))
def JP:List T->Option Ru:=Ac 1 1 Nn
abbrev Ww:Fn:=⟨1,["thing"],JP⟩
abbrev zcv:Gx:=⟨[],[],[],[],false,true,true,none,[],[],[],true,[],[],[],[],[],[],[],[]⟩
abbrev zd4:Gm:=⟨["thing"],(A2 SD).names,[],0,[],["isinstance","list"],[],[],[],false,[],[],[],zcv⟩
theorem zde:Ck zd4 Ww SD Nn:={}
theorem K4(l:List T)(h:A3 l=true):JP [.lst l]=some (.ok (.own l)):=by
 unfold JP Nn
 simp![h,AG _ h]
abbrev Sa:Stmt:=AO 35
def MY:AI :=
 (AF (Af (Ay (m1 (Gi Ph) (AA 3))) (Bz "BadMachine" (AB (mC (.str "a machine's doors are doors")) AE)) Ae)
 (AF (Af (Bu (m2 Gb (B7 Ah Am 0 (AA 3)) (AA 1)) (m2 Gb (B7 Ah Am 1 (AA 3)) (AA 1))) (Bz "BadMachine" (AB (mC (.str "a door leads from one room of the machine to another")) AE)) Ae)
 (AF (Af (Ay (AS IB (AB (B7 Ah Am 2 (AA 3)) (AB (AA 2) (AB (mC Ir) AE))))) (Bz "BadMachine" (AB (mC (.str "a door's guard is one of the machine's watches")) AE)) Ae)
 (Af (Bu (Ay (AS MA (AB (B7 Ah Am 3 (AA 3)) (AB (AA 2) AE)))) (Ay (AS Hz (AB (B7 Ah Am 4 (AA 3)) AE)))) (Bz "BadMachine" (AB (mC (.str "a door sets watches of the machine, each once, and has at most one sign")) AE)) Ae))))
def OI:AI :=
 (AF (Af (Ay (m1 (Ci "list") (AA 0))) (Bz "BadMachine" (AB (mC (.str "a machine's doors are a list")) AE)) Ae)
 (B3 (Al (AA 0)) (AD 3) MY))
def Lz:List T->Option Ru:=Ac 3 4 OI
abbrev XI:Fn:=⟨5,["doors","names","watches"],Lz⟩
abbrev zb2:Gx:=⟨[("WORDS",Ir)],[("Door",Ah,Am)],[],[],false,true,true,none,[],[],[],true,[],[("Door",Ph)],[],[],[],[],[],[]⟩
abbrev zb9:Gm:=⟨["doors","names","watches","door"],(A2 Sa).names,[],4,[("is_guard",LN),("are_noughts",XJ),("is_sign",Wz)],["isinstance","list"],["BadMachine"],[],[],false,[],[],[],zb2⟩
theorem zbg:Ck zb9 XI Sa OI:={}
structure Dr where
 s:Str
 e:Str
 g:List T
 n:List Str
 z:Str
abbrev AM(d:Dr):T:=.obj (.ins Ah Am) [.str d.s,.str d.e,.lst d.g,.lst (d.n.map T.str),.str d.z]
structure DrOk(ws ns:List Str)(d:Dr):Prop where
 s:d.s∈ns
 e:d.e∈ns
 g:C0 ws DR d.g
 gl:d.g.length<=1000
 n:∀x∈d.n,x∈ws
 nd:d.n.Nodup
 nl:d.n.length<=100
 z:Fb d.z
theorem Pe{d:Dr}(h:DrOk ws ns d):(AM d).sh=true:=by
 have:=h.g.sh
 simp![this,AW]
theorem VS{o:Bool}{k:Kd}(h:Bw ys)(hx:PyData.strOk x=true):Gb (.str x) (.nd o k (ys.map T.str))=some (.bl (!decide (x∈ys))):=by
 have e:=JA (o:=o) (k:=k) h hx;unfold CY at e;unfold Gb;simp only at e ⊢;split at e
 .rename_i hok;rw[if_pos hok];injection e with e
  injection e with e
  rw[e]
 .cases e
theorem zkx(hw:∀x∈ws,Gr x)(hn:Bw ns){ds:List Dr}(h:∀d∈ds,DrOk ws ns d):Lz [.lst (ds.map AM),.lst (ns.map T.str),.lst (ws.map T.str)]=some (.ok .non):=by
 have tw:Bw ws:=λx hx=>HF (hw x hx)
 have sd:A3 (ds.map AM)=true:=by
  rw[DK,yal];intro t ht;obtain⟨d,hd,rfl⟩:=yag.mp ht;exact Pe (h d hd)
 have ed:=AG _ sd
 obtain⟨τ,e,y,rfl⟩:=Du (b:=AD 3) (body:=MY) (ts:=ds.map AM) (τ:=[some (.lst (ds.map AM)),some (.lst (ns.map T.str)),some (.lst (ws.map T.str)),none]) (λi τ=>∃y,τ=[some (.lst (ds.map AM)),some (.lst (ns.map T.str)),some (.lst (ws.map T.str)),y]) ⟨_,rfl⟩ λi t τ h1 h2=>by
  obtain⟨y,rfl⟩:=h2;obtain⟨d,hd,rfl⟩:=yag.mp (yab h1);have k:=h d hd;have e1:=VS (o:=false) (k:=.lst) hn (hn _ k.s);have e2:=VS (o:=false) (k:=.lst) hn (hn _ k.e);rw[yf6 k.s]at e1;rw[yf6 k.e]at e2;have e3:=Ow tw J9 k.gl k.g;have e4:=znb hw k.n k.nd k.nl;have e5:=zlp k.z;have e6:=k.g.sh;have ci:List.lookup Ah Ph=some true:=rfl;refine⟨[some (.lst (ds.map AM)),some (.lst (ns.map T.str)),some (.lst (ws.map T.str)),some (AM d)],by simp![],[some (.lst (ds.map AM)),some (.lst (ns.map T.str)),some (.lst (ws.map T.str)),some (AM d)],?_,_,rfl⟩
  unfold MY
  simp![Vy,Gi,ci,A6,AW,e1,e2,e3,e4,e5,e6,AG _ e6]
 unfold Lz OI
 simp![A6,AW,sd,ed,e]
abbrev NI:Stmt:=Cs 30 0
def Ku:AI :=
 (AF (Dl Ah Am 0 0 (AA 1))
 (AF (Dl Ah Am 1 0 (AA 2))
 (AF (Dl Ah Am 2 0 (AS JP (AB (AA 3) AE)))
 (AF (Dl Ah Am 3 0 (AS JP (AB (AA 4) AE)))
 (Dl Ah Am 4 0 (AA 5))))))
def Gy:List T->Option Ru:=FO Ah Am 6 6 Ku
abbrev P1:Fn:=⟨2,["self","start","end","guard","noughts","sign"],Gy⟩
abbrev zcc:Gx:=⟨[],[],[],[],false,true,true,some (Ah,Am),[],[],[],true,[],[],[],[],[],[],[],[]⟩
abbrev W9:Gm:=⟨["self","start","end","guard","noughts","sign"],(A2 NI).names,[],1,[("own_copy",Ww)],[],[],[],[],false,[],[],[],zcc⟩
theorem YK:Ck W9 P1 NI Ku:={}
theorem di_ok{d:Dr}(h:DrOk ws ns d):Gy [.str d.s,.str d.e,.lst d.g,.lst (d.n.map T.str),.str d.z]=some (.ok (AM d)):=by
 have hg:=h.g.sh;have e1:=K4 d.g hg;have e2:=K4 (d.n.map T.str) (AW _);refine NP λp=>?_
 unfold FN Ku
 simp![e1,e2,hg,AG _ hg,A6,AW]
abbrev NF:Stmt:=Cs 31 0
def QP:AJ :=
 (AA 0)
def M3:AI :=
 (Ib A5 Ag 1 0 (AA 4) (m1 CK (AA 5)))
def OS:AI :=
 (AF (Fk (AS Lw (AB (AA 1) AE)))
 (AF (Fk (AS Lx (AB (AA 2) (AB (AA 1) AE))))
 (AF (Fk (AS Lz (AB (AA 3) (AB (Ar 2 [] (Al (AA 2)) (Ap 2 (AQ (AD 0) (AQ (AD 1) Aq))) (mC (.bl true)) QP) (AB (AA 1) AE)))))
 (AF (Af (Bu (m2 (CI λi j=>decide (j<i)) (m1 B0 (AA 2)) (mC Ha)) (m2 (CI λi j=>decide (j<i)) (m1 B0 (AA 3)) (mC Fx))) (Bz "TooMany" (AB (mC (.str "a machine has at most 64 rooms and at most 200 doors")) AE)) Ae)
 (AF (Dl A5 Ag 0 0 (m1 CK (AA 1)))
 (AF (Dl A5 Ag 1 0 Kv)
 (AF (B3 (Al (AA 2)) (Ap 2 (AQ (AD 4) (AQ (AD 5) Aq))) M3)
 (Dl A5 Ag 2 0 (m1 CK (AA 3))))))))))
def GO:List T->Option Ru:=FO A5 Ag 4 6 OS
abbrev PZ:Fn:=⟨6,["self","watches","rooms","doors"],GO⟩
abbrev zas:Gx:=⟨[("MOST_ROOMS",Ha),("MOST_DOORS",Fx)],[],[],[],false,true,true,some (A5,Ag),[],[],[],true,[],[],[],[],[],[],[],[]⟩
abbrev W6:Gm:=⟨["self","watches","rooms","doors","name","stay"],(A2 NF).names,[],5,[("check_watches",XF),("check_rooms",XG),("check_doors",XI)],["len","list"],["TooMany"],[],[],false,[],[],[],zas⟩
theorem YH:Ck W6 PZ NF OS:={}
structure Mc where
 ws:List Str
 rs:List (Str×List T)
 ds:List Dr
abbrev EG(M:Mc):T:=.obj (.ins A5 Ag) [.lst (M.ws.map T.str),.obj (.sdc (M.rs.map (·.1))) (M.rs.map λr=>.lst r.2),.lst (M.ds.map AM)]
structure McOk(M:Mc):Prop where
 w:∀x∈M.ws,Gr x
 wd:M.ws.Nodup
 wl:M.ws.length<=7
 r:RsOk M.ws M.rs
 d:∀d∈M.ds,DrOk M.ws (M.rs.map (·.1)) d
 dl:M.ds.length<=200
theorem McOk.tw{M:Mc}(h:McOk M):Bw M.ws:=λx hx=>HF (h.w x hx)
theorem McOk.tn{M:Mc}(h:McOk M):Bw (M.rs.map (·.1)):=λx hx=>by
 obtain⟨r,hr,rfl⟩:=yag.mp hx;exact TR (h.r.nm r hr).1
theorem McOk.sd{M:Mc}(h:McOk M):A3 (M.ds.map AM)=true:=by
 rw[DK,yal];intro t ht;obtain⟨d,hd,rfl⟩:=yag.mp ht;exact Pe (h.d d hd)
theorem McOk.ss{M:Mc}(h:McOk M):A3 (M.rs.map λr=>T.lst r.2)=true:=by
 rw[DK,yal];intro t ht;obtain⟨r,hr,rfl⟩:=yag.mp ht;show((!false) && A3 r.2)=true;rw[(h.r.lk r hr).1.sh]
 rfl
theorem McOk.sh{M:Mc}(h:McOk M):(EG M).sh=true:=by
 simp![AW,h.ss,h.sd]
theorem V7{M:Mc}(h:McOk M):GO [.lst (M.ws.map T.str),ET M.rs,.lst (M.ds.map AM)]=some (.ok (EG M)):=by
 have cw:=cw_ok h.w h.wd h.wl;have cr:=zku h.tw h.r;have cd:=zkx h.w h.tn h.d;have sr:=NR h.r;have er:=AG _ sr;have sd:=h.sd;have ed:=AG _ sd;have h1:=h.r.l1;have h64:=h.r.l64;have h200:=h.dl
 have lc:=O8 (b:=Ap 2 (AQ (AD 0) (AQ (AD 1) Aq))) (me:=QP) (ts:=M.rs.map BX) (τ:=[none,none]) (λ_ τ=>∃x y,τ=[x,y]) (λi=>.str ((M.rs.map (·.1)).getD i Str.empty)) ⟨none,none,rfl⟩ λi t τ h1 h2=>by
  obtain⟨x,y,rfl⟩:=h2;have hi:i<M.rs.length:=by simpa using (ya6.mp h1).1
  rw[ya3,ya0 hi]at h1;have et:t=BX M.rs[i]:=(yao h1).symm;subst et;have eg:(M.rs.map (·.1)).getD i Str.empty=M.rs[i].1:=by simp[hi]
  refine⟨[some (.str M.rs[i].1),some (.lst M.rs[i].2)],by simp![],?_,_,_,rfl⟩
  rw[eg];unfold QP
  simp![]
 have em:(List.range (M.rs.map BX).length).map (λi=>T.str ((M.rs.map (·.1)).getD i Str.empty))=(M.rs.map (·.1)).map T.str:=by
  rw[Jy (M.rs.map (·.1)),ya1,ya1]
  rfl
 rw[em]at lc;have ll:(M.rs.map BX).length<=100000:=by rw[ya1];omega
 have g1:decide ((64:Int)<((M.rs.map BX).length:Int))=false:=yeo (by rw[ya1];omega)
 have g2:decide ((200:Int)<((M.ds.map AM).length:Int))=false:=yeo (by rw[ya1];omega)
 refine NP λp=>?_
 obtain⟨τ,e,x,y,rfl⟩:=Du (b:=Ap 2 (AQ (AD 4) (AQ (AD 5) Aq))) (body:=M3) (ts:=M.rs.map BX) (τ:=[some (.oob p A5 Ag [.own (M.ws.map T.str),.osd [] []]),some (.lst (M.ws.map T.str)),some (ET M.rs),some (.lst (M.ds.map AM)),none,none])
  (λi τ=>∃x y,τ=[some (.oob p A5 Ag [.own (M.ws.map T.str),.osd ((M.rs.take i).map (·.1)) ((M.rs.take i).map λr=>.lst r.2)]),some (.lst (M.ws.map T.str)),some (ET M.rs),some (.lst (M.ds.map AM)),x,y]) ⟨none,none,by rw[List.take_zero];rfl⟩ λi t τ h1 h2=>by
  obtain⟨x,y,rfl⟩:=h2;have hi:i<M.rs.length:=by simpa using (ya6.mp h1).1
  rw[ya3,ya0 hi]at h1;have et:t=BX M.rs[i]:=(yao h1).symm;subst et;have k1:=(h.r.lk _ (yau hi)).1.sh
  have hno:M.rs[i].1∉(M.rs.take i).map (·.1):=λhm=>by
   rw[List.map_take]at hm;obtain⟨j,hj,ej⟩:=List.mem_iff_getElem.mp hm;rw[ybi,ya1]at hj;have hnd:=h.r.nd;rw[List.getElem_take]at ej;have e2:(M.rs.map (·.1))[j]'(by rw[ya1];omega)=(M.rs.map (·.1))[i]'(by rw[ya1];exact hi):=by rw[ej,List.getElem_map]
   have:=(ydl hnd).mp e2
   omega
  have hlen:((M.rs.take i).map (·.1)).length<100000:=by
   rw[ya1,ybi]
   omega
  have et2:M.rs.take (i+1)=M.rs.take i++[M.rs[i]]:=by rw[List.take_append_getElem]
  refine⟨[some (.oob p A5 Ag [.own (M.ws.map T.str),.osd ((M.rs.take i).map (·.1)) ((M.rs.take i).map λr=>.lst r.2)]),some (.lst (M.ws.map T.str)),some (ET M.rs),some (.lst (M.ds.map AM)),some (.str M.rs[i].1),some (.lst M.rs[i].2)],by simp![],[some (.oob p A5 Ag [.own (M.ws.map T.str),.osd ((M.rs.take (i+1)).map (·.1)) ((M.rs.take (i+1)).map λr=>.lst r.2)]),some (.lst (M.ws.map T.str)),some (ET M.rs),some (.lst (M.ds.map AM)),some (.str M.rs[i].1),some (.lst M.rs[i].2)],?_,_,_,rfl⟩
  rw[et2,yar,yar];unfold M3
  simp![k1,AG _ k1,hno,hlen]
 rw[ya1,ycb]at e;have es:=AG _ h.ss;unfold FN OS Ha Fx
 simp![A6,AW,cw,cr,cd,sr,er,sd,ed,lc,ll,g1,g2,e,es]
abbrev NA:Stmt:=Cs 31 1
def ON:AI :=
 (AX (Cb (m1 CK (B7 A5 Ag 0 (AA 0))) (FW (B7 A5 Ag 0 (AA 0)))))
def Eg:List T->Option Ru:=Ac 1 1 ON
abbrev Hi:Fn:=⟨1,["self"],Eg⟩
abbrev za6:Gx:=⟨[],[("Machine",A5,Ag)],[],[],false,true,true,none,[],[],[],true,[],[],[],[],[],[],[],[]⟩
abbrev W0:Gm:=⟨["self"],(A2 NA).names,[],0,[],["list"],[],[],[],false,[],[],[],za6⟩
theorem YD:Ck W0 Hi NA ON:={}
theorem V1{M:Mc}(h:McOk M):Eg [EG M]=some (.ok (.own (M.ws.map T.str))):=by
 unfold Eg ON
 simp![A6,AW,h.ss,h.sd,AG _ h.ss,AG _ h.sd]
abbrev ND:Stmt:=Cs 31 2
def OQ:AI :=
 (AX (Cb (m1 CK (B7 A5 Ag 1 (AA 0))) (FW (B7 A5 Ag 1 (AA 0)))))
def Eh:List T->Option Ru:=Ac 1 1 OQ
abbrev LP:Fn:=⟨1,["self"],Eh⟩
abbrev zae:Gx:=⟨[],[("Machine",A5,Ag)],[],[],false,true,true,none,[],[],[],true,[],[],[],[],[],[],[],[]⟩
abbrev W5:Gm:=⟨["self"],(A2 ND).names,[],0,[],["list"],[],[],[],false,[],[],[],zae⟩
theorem YG:Ck W5 LP ND OQ:={}
theorem Nc{M:Mc}(h:McOk M):Eh [EG M]=some (.ok (.own ((M.rs.map (·.1)).map T.str))):=by
 unfold Eh OQ
 simp![FW,A6,AW,h.ss,h.sd,AG _ h.ss,AG _ h.sd]
abbrev NG:Stmt:=Cs 31 3
def OT:AI :=
 (AX (Cb (m1 CK (B7 A5 Ag 2 (AA 0))) (FW (B7 A5 Ag 2 (AA 0)))))
def E4:List T->Option Ru:=Ac 1 1 OT
abbrev JD:Fn:=⟨1,["self"],E4⟩
abbrev zaf:Gx:=⟨[],[("Machine",A5,Ag)],[],[],false,true,true,none,[],[],[],true,[],[],[],[],[],[],[],[]⟩
abbrev W7:Gm:=⟨["self"],(A2 NG).names,[],0,[],["list"],[],[],[],false,[],[],[],zaf⟩
theorem YI:Ck W7 JD NG OT:={}
theorem Nd{M:Mc}(h:McOk M):E4 [EG M]=some (.ok (.own (M.ds.map AM))):=by
 unfold E4 OT
 simp![A6,AW,h.ss,h.sd,AG _ h.ss,AG _ h.sd]
abbrev NC:Stmt:=Cs 31 4
def OP:AI :=
 (AX (m1 CK (Im (B7 A5 Ag 1 (AA 0)) (AA 1))))
def FG:List T->Option Ru:=Ac 2 2 OP
abbrev LO:Fn:=⟨1,["self","room"],FG⟩
abbrev zar:Gx:=⟨[],[("Machine",A5,Ag)],[],[],false,true,true,none,[],[],[],true,[],[],[],[],[],[],[],[]⟩
abbrev W4:Gm:=⟨["self","room"],(A2 NC).names,[],0,[],["list"],[],[],[],false,[],[],[],zar⟩
theorem YF:Ck W4 LO NC OP:={}
theorem WS(hd:ws.Nodup)(hi:i<ws.length):Bm ws ws[i]=some i:=by
 unfold Bm;rw[ybj];refine⟨hi,@decide_eq_true _ (Classical.propDecidable _) rfl,λj hj q=>?_⟩
 have:=@of_decide_eq_true _ (Classical.propDecidable _) q;have:=(ydl hd).mp this
 omega
theorem zk3{M:Mc}(h:McOk M)(hi:i<M.rs.length):FG [EG M,.str M.rs[i].1]=some (.ok (.own M.rs[i].2)):=by
 have e:=WS h.r.nd (i:=i) (by rw[ya1];exact hi)
 rw[List.getElem_map]at e;have e2:(M.rs.map λr=>T.lst r.2)[i]?=some (.lst M.rs[i].2):=by rw[ya3,ya0 hi];rfl
 have k:=(h.r.lk _ (yau hi)).1.sh;unfold FG OP
 simp![Im,A6,AW,h.ss,h.sd,AG _ h.ss,AG _ h.sd,e,e2,k,AG _ k]
abbrev NJ:Stmt:=Cs 30 1
def O3:AI :=
 (AX (Cb (m1 CK (B7 Ah Am 2 (AA 0))) (FW (B7 Ah Am 2 (AA 0)))))
def GQ:List T->Option Ru:=Ac 1 1 O3
abbrev LV:Fn:=⟨1,["self"],GQ⟩
abbrev zcd:Gx:=⟨[],[("Door",Ah,Am)],[],[],false,true,true,none,[],[],[],true,[],[],[],[],[],[],[],[]⟩
abbrev Wa:Gm:=⟨["self"],(A2 NJ).names,[],0,[],["list"],[],[],[],false,[],[],[],zcd⟩
theorem YL:Ck Wa LV NJ O3:={}
theorem Pf{d:Dr}(h:A3 d.g=true):GQ [AM d]=some (.ok (.own d.g)):=by
 unfold GQ O3
 simp![A6,AW,h,AG _ h]
abbrev NH:Stmt:=Cs 30 2
def O0:AI :=
 (AX (Cb (m1 CK (B7 Ah Am 3 (AA 0))) (FW (B7 Ah Am 3 (AA 0)))))
def GP:List T->Option Ru:=Ac 1 1 O0
abbrev LU:Fn:=⟨1,["self"],GP⟩
abbrev zcb:Gx:=⟨[],[("Door",Ah,Am)],[],[],false,true,true,none,[],[],[],true,[],[],[],[],[],[],[],[]⟩
abbrev W8:Gm:=⟨["self"],(A2 NH).names,[],0,[],["list"],[],[],[],false,[],[],[],zcb⟩
theorem YJ:Ck W8 LU NH O0:={}
theorem Pd{d:Dr}(h:A3 d.g=true):GP [AM d]=some (.ok (.own (d.n.map T.str))):=by
 unfold GP O0
 simp![A6,AW,h,AG _ h]
abbrev Se:Stmt:=AO 54
def MZ:AI :=
 (En 1 (Bl A5 Ag Eg (AA 2) AE))
def OL:AI :=
 (AF (CJ 1 (BJ AE))
 (AF (B3 (Al (AA 0)) (AD 2) MZ)
 (AX (AA 1))))
def ID:List T->Option Ru:=Ac 1 3 OL
abbrev PX:Fn:=⟨2,["machines"],ID⟩
abbrev zb4:Gx:=⟨[],[],[("watches",A5,Ag,Hi)],[],false,true,true,none,[],[],[],true,[],[],[],[],[],[],[],[]⟩
abbrev zbb:Gm:=⟨["machines","watches","machine"],(A2 Se).names,[],1,[],[],[],["watches"],[],false,[],[],[],zb4⟩
theorem zbi:Ck zbb PX Se OL:={}
theorem GH{α A:Type}{b:T->AN->Option AN}{body:AI}(f:α->T)(S:List A->AN->Prop)(g:α->List A)(N:Nat):∀(L:List α) (a:List A) (τ:AN),S a τ->a.length+(L.flatMap g).length<=N->(∀x∈L,∀a τ,S a τ->a.length+(g x).length<=N->∃τ1,b (f x) τ=some τ1/\∃τ2,body τ1=some (.nx τ2)/\S (a++g x) τ2)->∃τ',B9 b body (L.map f) τ=some (.nx τ')/\S (a++L.flatMap g) τ'
 |[],a,τ,h,_,_=>⟨τ,rfl,by rw[yc3,yay];exact h⟩
 |x::L,a,τ,h,hN,hs=>by
  rw[yat,yac]at hN;obtain⟨τ1,e1,τ2,e2,h2⟩:=hs x (ya5 ..) a τ h (by omega)
  obtain⟨τ',e,h'⟩:=GH f S g N L (a++g x) τ2 h2 (by rw[yac];omega) λy hy=>hs y (ya4 _ hy)
  refine⟨τ',?_,by rw[yat,<- ybp];exact h'⟩
  rw[yad];unfold B9;simp only[e1,e2];exact e
theorem LJ{α A:Type}{b:T->AN->Option AN}{body:AI}(f:α->T)(S:List A->AN->Prop)(g:α->List A)(N:Nat)(c:Str):∀(L:List α) (a:List A) (τ:AN),S a τ->a.length<=N ->
  (∀x∈L,∀a τ,S a τ->a.length<=N->∃τ1,b (f x) τ=some τ1/\((a.length+(g x).length<=N/\∃τ2,body τ1=some (.nx τ2)/\S (a++g x) τ2)\/(N<a.length+(g x).length/\∃τ2,body τ1=some (.xc c τ2)))) ->
  (a.length+(L.flatMap g).length<=N/\∃τ',B9 b body (L.map f) τ=some (.nx τ')/\S (a++L.flatMap g) τ')\/(N<a.length+(L.flatMap g).length/\∃τ',B9 b body (L.map f) τ=some (.xc c τ'))
 |[],a,τ,h,hN,_=>.inl ⟨by rw[yc3];exact hN,τ,rfl,by rw[yc3,yay];exact h⟩
 |x::L,a,τ,h,hN,hs=>by
  rw[yat,yac,<- ybp,yad];obtain⟨τ1,e1,⟨k,τ2,e2,h2⟩|⟨k,τ2,e2⟩⟩:=hs x (ya5 ..) a τ h hN
  .rcases LJ f S g N c L (a++g x) τ2 h2 (by rw[yac];exact k) λy hy=>hs y (ya4 _ hy) with ⟨k2,τ',e,h'⟩|⟨k2,τ',e⟩
   .rw[yac]at k2;refine .inl ⟨by omega,τ',?_,h'⟩
    unfold B9;simp only[e1,e2];exact e
   .rw[yac]at k2;refine .inr ⟨by omega,τ',?_⟩
    unfold B9;simp only[e1,e2];exact e
  .refine .inr ⟨by omega,τ2,?_⟩
   unfold B9;simp only[e1,e2]
theorem Bv{α:Type}{b:T->AN->Option AN}{me:AJ}(f g:α->T)(I:AN->Prop):∀(L:List α) (τ:AN),I τ->(∀x∈L,∀τ,I τ->∃τ1,b (f x) τ=some τ1/\me τ1=some (.v (g x) false)/\I τ1)->BD b (mC (.bl true)) me (L.map f) τ=some (L.map g)
 |[],_,_,_=>rfl
 |x::L,τ,h,hs=>by
  obtain⟨τ1,e1,e2,h1⟩:=hs x (ya5 ..) τ h;have k:=Bv f g I L τ1 h1 λu hu=>hs u (ya4 _ hu)
  have f1:mC (.bl true) τ1=some (.v (.bl true) false):=rfl;rw[yad,yad];unfold BD;simp only[e1,f1,e2,k]
theorem BB{f:α->T}{L:List α}(h:∀x∈L,(f x).sh=true):A3 (L.map f)=true:=by
 rw[DK,yal];intro t ht;obtain⟨x,hx,rfl⟩:=yag.mp ht;exact h x hx
theorem sq{τ':AN}{r:Option Out}(h:f τ=some (.nx τ'))(h2:g τ'=r):AF f g τ=r:=by
 unfold AF;rw[h];exact h2
def AL(M:Mc):T:=EG M
theorem Cf(M:Mc):Bh A5 Ag (AL M)=some [.lst (M.ws.map T.str),.obj (.sdc (M.rs.map (·.1))) (M.rs.map λr=>.lst r.2),.lst (M.ds.map AM)]:=(show Bh A5 Ag (EG M)=(if A5=A5/\Ag=Ag then some [.lst (M.ws.map T.str),.obj (.sdc (M.rs.map (·.1))) (M.rs.map λr=>.lst r.2),.lst (M.ds.map AM)] else none) from rfl).trans (if_pos ⟨rfl,rfl⟩)
theorem Kb{M:Mc}(h:McOk M):Eg [AL M]=some (.ok (.own (M.ws.map T.str))):=V1 h
theorem C9{M:Mc}(h:McOk M):(AL M).sh=true:=h.sh
theorem Et{Ms:List Mc}(h:∀M∈Ms,McOk M):A3 (Ms.map AL)=true:=BB λM hM=>(h M hM).sh
theorem Y4{Ms:List Mc}(h:∀M∈Ms,McOk M)(hl:(Ms.flatMap Mc.ws).length<=1000):ID [.lst (Ms.map AL)]=some (.ok (.own ((Ms.flatMap Mc.ws).map T.str))):=by
 have hs:=Et h
 obtain⟨τ,e,y,rfl⟩:=GH (b:=AD 2) (body:=MZ) AL (λ(a:List Str) τ=>∃y,τ=[some (.lst (Ms.map AL)),some (.own (a.map T.str)),y]) Mc.ws 1000 Ms [] _ ⟨none,rfl⟩ (by simpa using hl) λM hM a τ hS hN=>by
  obtain⟨y,rfl⟩:=hS;have k:=h M hM;have k1:=C9 k;have k2:=Kb k;have l1:a.length+M.ws.length<=100000:=by omega
  refine⟨[some (.lst (Ms.map AL)),some (.own (a.map T.str)),some (AL M)],by simp![],_,?_,some (AL M),rfl⟩
  unfold MZ
  simp![-Bh,Cf,k1,Ao _ k1,k2,A6,ya1,l1,yar]
 rw[yc6,ybm]at e;unfold ID OL
 simp![hs,AG _ hs,e]
abbrev S9:Stmt:=AO 53
def QL:AJ :=
 (m1 (Gi Pg) (AA 0))
def OH:AI :=
 (AF (Af (Bu (Ay (m1 (Ci "list") (AA 0))) (Ay (Eb EI EI (mC (.int 1)) (m1 B0 (AA 0)) (mC Of)))) (Bz "BadMachine" (AB (mC (.str "one to six machines are put together")) AE)) Ae)
 (AF (Af (Ay (m1 DE (Ar 1 [] (Al (AA 0)) (AD 0) (mC (.bl true)) QL))) (Bz "BadMachine" (AB (mC (.str "only machines are put together")) AE)) Ae)
 (AF (AU (AS ID (AB (AA 0) AE)) (AD 1))
 (Af (Bu (m2 (CI λi j=>decide (j<i)) (m1 B0 (AA 1)) (mC H9)) (Ay (AS GL (AB (AA 1) AE)))) (Bz "BadMachine" (AB (mC (.str "machines put together have at most seven watches, all unlike")) AE)) Ae))))
def Ly:List T->Option Ru:=Ac 1 2 OH
abbrev XH:Fn:=⟨3,["machines"],Ly⟩
abbrev zb1:Gx:=⟨[("MOST_PARTS",Of),("MOST_WATCHES",H9)],[],[],[],false,true,true,none,[],[],[],true,[],[("Machine",Pg)],[],[],[],[],[],[]⟩
abbrev zb8:Gm:=⟨["machines","watches"],(A2 S9).names,[],2,[("all_watches",PX),("are_unlike",Hh)],["isinstance","list","len","all"],["BadMachine"],[],[],false,[],[],[],zb1⟩
theorem zbf:Ck zb8 XH S9 OH:={}
structure MsOk(Ms:List Mc):Prop where
 l1:1<=Ms.length
 l6:Ms.length<=6
 m:∀M∈Ms,McOk M
 wl:(Ms.flatMap Mc.ws).length<=7
 wd:(Ms.flatMap Mc.ws).Nodup
theorem La{α:Type}:∀L:List α,EK (L.map λ_=>T.bl true)=some (L.map λ_=>true)
 |[]=>rfl
 |a::r=>by
  rw[yad,yad];unfold EK;rw[La r]
theorem cp_ok{Ms:List Mc}(h:MsOk Ms):Ly [.lst (Ms.map AL)]=some (.ok .non):=by
 have hs:=Et h.m;have aw:=Y4 h.m (by have:=h.wl;omega)
 have un:=IM h.wd (by have:=h.wl;omega)
 have l1:=h.l1;have l6:=h.l6
 have lc:BD (AD 0) (mC (.bl true)) QL (Ms.map AL) [none]=some (Ms.map λ_=>T.bl true):=Bv AL (λ_=>T.bl true) (λτ=>∃a,τ=[a]) Ms _ ⟨none,rfl⟩ λM hM τ hI=>by
  obtain⟨a,rfl⟩:=hI;have k:=C9 (h.m M hM);have ci:Gi Pg (AL M)=some (.bl true):=rfl;exact⟨[some (AL M)],by simp![],by unfold QL;simp![k,Ao _ k,ci],_,rfl⟩
 have ba:=La Ms;have sb:=AG _ (BB (f:=λ_=>T.bl true) (L:=Ms) λ_ _=>rfl)
 have al:(Ms.map λ_=>true).all id=true:=by simp
 have e1:decide ((1:Int)<=(Ms.length:Int))=true:=yf6 (by omega)
 have e2:decide ((Ms.length:Int)<=6)=true:=yf6 (by omega)
 have e3:decide ((7:Int)<((Ms.flatMap Mc.ws).length:Int))=false:=yeo (by have:=h.wl;omega)
 have ll:Ms.length<=100000:=by omega
 unfold Ly OH Of H9
 simp![hs,AG _ hs,ya1,e1,e2,ll,lc,sb,ba,al,aw,A6,AW,e3,un]
abbrev Sf:Stmt:=AO 55
def QO:AJ :=
 (m2 BL (AA 1) (BJ (BC (AA 0) AE)))
def M0:AI :=
 (En 3 (Ar 1 [4] (Al (Bl A5 Ag Eh (AA 2) AE)) (AD 0) (mC (.bl true)) QO))
def M1:AI :=
 (AF (CJ 3 (BJ AE))
 (AF (B3 (Al (AA 1)) (AD 4) M0)
 (AF (Af (m2 (CI λi j=>decide (j<i)) (m1 B0 (AA 3)) (mC Ha)) (Bz "TooMany" (AB (mC (.str "the whole would have more than 64 rooms")) AE)) Ae)
 (AF (Dk 3) (AU (AA 3) (AD 1))))))
def OM:AI :=
 (AF (AU (BJ (BC (BJ AE) AE)) (AD 1))
 (AF (B3 (Al (AA 0)) (AD 2) M1)
 (AX (AA 1))))
def MB:List T->Option Ru:=Ac 1 5 OM
abbrev XM:Fn:=⟨2,["machines"],MB⟩
abbrev zb5:Gx:=⟨[("MOST_ROOMS",Ha)],[],[("rooms",A5,Ag,LP)],[],false,true,true,none,[],[],[],true,[],[],[],[],[],[],[],[]⟩
abbrev zbc:Gm:=⟨["machines","takings","machine","longer","taking"],(A2 Sf).names,["taking"],1,[],["len"],["TooMany"],["longer"],[],false,[],[],[],zb5⟩
theorem zbj:Ck zbc XM Sf OM:={}
abbrev An(t:List Str):T:=.lst (t.map T.str)
def Bj(ts:List (List Str))(rs:List Str):List (List Str):=ts.flatMap λt=>rs.map λr=>t++[r]
def tak(rss:List (List Str)):List (List Str):=rss.foldl Bj [[]]
theorem zg9(rss:List (List Str))(rs:List Str):tak (rss++[rs])=Bj (tak rss) rs:=by
 unfold tak;rw[List.foldl_append]
 rfl
theorem Wh:∀(rss ts:List (List Str)) (t:List Str),t∈rss.foldl Bj ts->∃u∈ts,∃v:List Str,t=u++v/\v.length=rss.length/\∀(i:Nat) (r:Str),v[i]?=some r->∃rs,rss[i]?=some rs/\r∈rs
 |[],ts,t,h=>⟨t,h,[],(yay t).symm,rfl,λi r z=>by simp at z⟩
 |rs::rss,ts,t,h=>by
  obtain⟨u,hu,v,rfl,hl,hv⟩:=Wh rss (Bj ts rs) t h;obtain⟨w,hw,hu⟩:=yap.mp hu;obtain⟨r,hr,rfl⟩:=yag.mp hu;refine⟨w,hw,r::v,by rw[ybp];rfl,by rw[yaj,yaj,hl],λi x z=>?_⟩
  cases i with
  |zero=>simp at z;subst z;exact⟨rs,rfl,hr⟩
  |succ i=>simpa using hv i x (by simpa using z)
theorem Mf{rss:List (List Str)}{t:List Str}(h:t∈tak rss):t.length=rss.length/\∀(i:Nat) (r:Str),t[i]?=some r->∃rs,rss[i]?=some rs/\r∈rs:=by
 obtain⟨u,hu,v,rfl,hl,hv⟩:=Wh rss [[]] t h;rw[ya8.mp hu,ybm];exact⟨hl,hv⟩
def Mc.nm(M:Mc):List Str:=M.rs.map (·.1)
theorem mcT_r{M:Mc}(h:McOk M):Eh [AL M]=some (.ok (.own (M.nm.map T.str))):=Nc h
theorem G2(ts:List (List Str)):A3 (ts.map An)=true:=BB λt _=>by
 show((!false) && A3 (t.map T.str))=true;rw[AW]
 rfl
theorem zla(t:List Str):(An t).sh=true:=by
 show((!false) && A3 (t.map T.str))=true;rw[AW]
 rfl
theorem take_succ{L:List α}(hi:i<L.length):L.take (i+1)=L.take i++[L[i]]:=by rw[List.take_append_getElem]
theorem at_ok{Ms:List Mc}(h:MsOk Ms)(hk:∀i,i<=Ms.length->(tak ((Ms.take i).map Mc.nm)).length<=64):MB [.lst (Ms.map AL)]=some (.ok (.lst ((tak (Ms.map Mc.nm)).map An))):=by
 have hs:=Et h.m
 obtain⟨τ,e,y2,y3,y4,rfl⟩:=Du (b:=AD 2) (body:=M1) (ts:=Ms.map AL) (τ:=[some (.lst (Ms.map AL)),some (.lst [.lst []]),none,none,none]) (λi τ=>∃y2 y3 y4,τ=[some (.lst (Ms.map AL)),some (.lst ((tak ((Ms.take i).map Mc.nm)).map An)),y2,y3,y4]) ⟨_,_,_,rfl⟩ λi t τ h1 h2=>by
  obtain⟨y2,y3,y4,rfl⟩:=h2;have hi:i<Ms.length:=by simpa using (ya6.mp h1).1
  rw[ya3,ya0 hi]at h1;have et:t=AL Ms[i]:=(yao h1).symm;subst et;have k:=h.m _ (yau hi);have k1:=C9 k;have k2:=mcT_r k;have hl:=hk (i+1) (by omega)
  have en:tak ((Ms.take (i+1)).map Mc.nm)=Bj (tak ((Ms.take i).map Mc.nm)) Ms[i].nm:=by rw[take_succ hi,yar,yad,yc6,zg9]
  rw[en]at hl ⊢;have hnl:Ms[i].nm.length<=64:=by unfold Mc.nm;rw[ya1];exact k.r.l64
  have tl:∀t∈tak ((Ms.take i).map Mc.nm),t.length<=6:=λt ht=>by
   have:=(Mf ht).1;rw[ya1,ybi]at this;have:=h.l6
   omega
  generalize hts:tak ((Ms.take i).map Mc.nm)=ts at *;have sts:=G2 ts
  obtain⟨τ2,e2,z4,rfl⟩:=GH (b:=AD 4) (body:=M0) An (λ(a:List (List Str)) τ=>∃z,τ=[some (.lst (Ms.map AL)),some (.lst (ts.map An)),some (AL Ms[i]),some (.own (a.map An)),z]) (λt=>Ms[i].nm.map λr=>t++[r]) 64 ts [] [some (.lst (Ms.map AL)),some (.lst (ts.map An)),some (AL Ms[i]),some (.own []),y4] ⟨y4,rfl⟩ (by rw[yb0,ycy];exact hl) λt ht a τ hS hN=>by
   obtain⟨z,rfl⟩:=hS;rw[ya1]at hN;have t6:=tl t ht;have ts1:=zla t;have a1:t.length+1<=100000:=by omega
   have a2:a.length+Ms[i].nm.length<=100000:=by omega
   have a3:Ms[i].nm.length<=100000:=by omega
   have lc:BD (AD 0) (mC (.bl true)) QO (Ms[i].nm.map T.str) [none,some (An t)]=some (Ms[i].nm.map λr=>T.own ((t++[r]).map T.str)):=Bv T.str (λr=>T.own ((t++[r]).map T.str)) (λτ=>∃a,τ=[a,some (An t)]) _ _ ⟨none,rfl⟩ λr _ τ hI=>by
    obtain⟨x,rfl⟩:=hI;exact⟨[some (.str r),some (An t)],by simp![],by unfold QO;simp![A6,AW,ya1,a1,yar],_,rfl⟩
   have so:BF (Ms[i].nm.map λr=>T.own ((t++[r]).map T.str))=(Ms[i].nm.map λr=>t++[r]).map An:=by
    rw[Cw,yaq,yaq];refine ybk λr _=>?_
    show T.nd false .lst (BF ((t++[r]).map T.str))=_;rw[A6]
    rfl
   refine⟨[some (.lst (Ms.map AL)),some (.lst (ts.map An)),some (AL Ms[i]),some (.own (a.map An)),some (An t)],by simp![],[some (.lst (Ms.map AL)),some (.lst (ts.map An)),some (AL Ms[i]),some (.own ((a++Ms[i].nm.map λr=>t++[r]).map An)),some (An t)],?_,_,rfl⟩
   rw[yar];unfold M0
   simp![-Bh,Cf,k1,Ao _ k1,k2,AW,A6,ya1,a2,a3,lc,so]
  rw[ybm]at e2;have eb:ts.flatMap (λt=>Ms[i].nm.map λr=>t++[r])=Bj ts Ms[i].nm:=rfl
  rw[eb]at e2;have g64:decide ((64:Int)<((Bj ts Ms[i].nm).length:Int))=false:=yeo (by omega)
  refine⟨[some (.lst (Ms.map AL)),some (.lst (ts.map An)),some (AL Ms[i]),y3,y4],by simp![],[some (.lst (Ms.map AL)),some (.lst ((Bj ts Ms[i].nm).map An)),some (AL Ms[i]),some (.lst ((Bj ts Ms[i].nm).map An)),z4],?_,_,_,_,rfl⟩
  have st2:=G2 (Bj ts Ms[i].nm);unfold M1 Ha
  simp![sts,AG _ sts,e2,ya1,g64,AG _ st2,st2]
 rw[ya1,ycb]at e;have st:=G2 (tak (Ms.map Mc.nm));unfold MB OM
 simp![hs,AG _ hs,e,AG _ st]
abbrev Ri:Stmt:=AO 56
def Ng:AI :=
 (AX (Gf (mC (.str "/")) (AA 0)))
def Gu:List T->Option Ru:=Ac 1 1 Ng
abbrev LK:Fn:=⟨1,["taking"],Gu⟩
abbrev zbo:Gx:=⟨[],[],[],[],false,true,true,none,[],[],[],true,[],[],[],[],[],[],[],[]⟩
abbrev zbt:Gm:=⟨["taking"],(A2 Ri).names,[],0,[],[],[],[],[],false,[],[],[],zbo⟩
theorem zby:Ck zbt LK Ri Ng:={}
noncomputable def Av(t:List Str):Str:=Txt.join "/" t
theorem RS{α:Type}{f:α->Str}{m:Nat}:∀{l:List α},(∀a∈l,(f a).length<=m)->((l.map f).map (·.length)).sum<=l.length * m
 |[],_=>ybr _
 |a::l,h=>by
  have h1:=h a (ya5 ..);have h2:=RS (l:=l) λb hb=>h b (ya4 _ hb)
  rw[yad,yad,List.sum_cons,yaj,ye2,ydi]
  omega
theorem WG{t:List Str}(hl:t.length<=6)(hs:∀r∈t,r.length<=60):(t.map (·.length)).sum+t.length * (Str.ofString "/").length<=BP:=by
 have h1:=RS (f:=id) (m:=60) (l:=t) hs;rw[List.map_id]at h1;have h2:(Str.ofString "/").length=1:=by decide +kernel
 rw[h2];unfold BP
 omega
theorem J8{t:List Str}{o:Bool}(hl:t.length<=6)(hs:∀r∈t,r.length<=60):Gu [.nd o .lst (t.map T.str)]=some (.ok (.str (Av t))):=by
 have h1:=WG hl hs;unfold Gu Ng;cases o<;>simp![Gf,HQ,h1,Av]
abbrev S6:Stmt:=AO 52
def QI:AJ :=
 (AS Gu (AB (AA 0) AE))
def QH:AJ :=
 (AS JS (AB (AA 0) AE))
def OD:AI :=
 (AF (Fk (AS Ly (AB (AA 0) AE)))
 (AF (AU (AS MB (AB (AA 0) AE)) (AD 1))
 (AF (AU (Ar 1 [] (Al (AA 1)) (AD 0) (mC (.bl true)) QI) (AD 2))
 (AF (Af (Bu (Ay (AS GL (AB (AA 2) AE))) (Ay (m1 DE (Ar 1 [] (Al (AA 2)) (AD 0) (mC (.bl true)) QH)))) (Bz "BadMachine" (AB (mC (.str "a room of the whole would have a name twice, or a name of more than sixty signs")) AE)) Ae)
 (AX (AA 1))))))
def JV:List T->Option Ru:=Ac 1 3 OD
abbrev PV:Fn:=⟨4,["machines"],JV⟩
abbrev za5:Gx:=⟨[],[],[],[],false,true,true,none,[],[],[],true,[],[],[],[],[],[],[],[]⟩
abbrev za8:Gm:=⟨["machines","takings","names"],(A2 S6).names,[],3,[("check_parts",XH),("all_takings",XM),("whole_name",LK),("are_unlike",Hh),("is_room_name",PN)],["all"],["BadMachine"],[],[],false,[],[],[],za5⟩
theorem zaa:Ck za8 PV S6 OD:={}
structure RmOk(Ms:List Mc):Prop where
 k:∀i,i<=Ms.length->(tak ((Ms.take i).map Mc.nm)).length<=64
 s:∀M∈Ms,∀r∈M.nm,r.length<=60
 n:∀t∈tak (Ms.map Mc.nm),Ht (Av t)/\1<=(Av t).cps.size/\(Av t).cps.size<=60
 d:((tak (Ms.map Mc.nm)).map Av).Nodup
abbrev Aa(Ms:List Mc):List (List Str):=tak (Ms.map Mc.nm)
theorem RmOk.t{Ms:List Mc}(h:RmOk Ms)(hm:MsOk Ms){t:List Str}(ht:t∈Aa Ms):t.length=Ms.length/\t.length<=6/\(∀r∈t,r.length<=60)/\∀(i:Nat) (r:Str),t[i]?=some r->∃M,Ms[i]?=some M/\r∈M.nm:=by
 obtain⟨h1,h2⟩:=Mf ht;rw[ya1]at h1
 have h3:∀(i:Nat) (r:Str),t[i]?=some r->∃M,Ms[i]?=some M/\r∈M.nm:=λi r e=>by
  obtain⟨rs,e1,e2⟩:=h2 i r e;rw[ya3]at e1;obtain⟨M,e3,rfl⟩:=yah.mp e1;exact⟨M,e3,e2⟩
 refine⟨h1,by rw[h1];exact hm.l6,λr hr=>?_,h3⟩
 obtain⟨i,e⟩:=yck.mp hr;obtain⟨M,e1,e2⟩:=h3 i r e;exact h.s M (yab e1) r e2
theorem Xx{Ms:List Mc}(h:MsOk Ms)(hr:RmOk Ms):JV [.lst (Ms.map AL)]=some (.ok (.lst ((Aa Ms).map An))):=by
 have hs:=Et h.m;have cp:=cp_ok h;have at':=at_ok h hr.k;have st:=G2 (Aa Ms);have l64:(Aa Ms).length<=64:=by have:=hr.k Ms.length (yae _);rwa[ycb]at this
 have ll:(Aa Ms).length<=100000:=by omega
 have lc:BD (AD 0) (mC (.bl true)) QI ((Aa Ms).map An) [none]=some (((Aa Ms).map Av).map T.str):=by
  rw[yaq]
  exact Bv An (λt=>T.str (Av t)) (λτ=>∃a,τ=[a]) _ _ ⟨none,rfl⟩ λt ht τ hI=>by
   obtain⟨x,rfl⟩:=hI;obtain⟨_,k1,k2,_⟩:=hr.t h ht;exact⟨[some (An t)],by simp![],by unfold QI;simp![AW,A6,J8 k1 k2],_,rfl⟩
 have lc2:BD (AD 0) (mC (.bl true)) QH (((Aa Ms).map Av).map T.str) [none]=some ((Aa Ms).map λ_=>T.bl true):=by
  rw[yaq]
  exact Bv (λt=>T.str (Av t)) (λ_=>T.bl true) (λτ=>∃a,τ=[a]) _ _ ⟨none,rfl⟩ λt ht τ hI=>by
   obtain⟨x,rfl⟩:=hI;obtain⟨n1,n2,n3⟩:=hr.n t ht;exact⟨[some (.str (Av t))],by simp![],by unfold QH;simp![TQ n1 n2 n3],_,rfl⟩
 have un:=IM hr.d (by rw[ya1];omega)
 have ba:=La (Aa Ms);have al:((Aa Ms).map λ_=>true).all id=true:=by simp
 have sb:=AG _ (BB (f:=λ_=>T.bl true) (L:=Aa Ms) λ_ _=>rfl)
 unfold JV OD
 simp![hs,AG _ hs,cp,at',st,AG _ st,ya1,ll,lc,lc2,A6,AW,un,sb,ba,al]
abbrev Rh:Stmt:=AO 57
def MT:AI :=
 (En 2 (Bl A5 Ag FG (AA 3) (AB (AA 4) AE)))
def Nf:AI :=
 (AF (CJ 2 (BJ AE))
 (AF (B3 (GA (AB (AA 0) (AB (AA 1) AE))) (Ap 2 (AQ (AD 3) (AQ (AD 4) Aq))) MT)
 (AX (AA 2))))
def Lh:List T->Option Ru:=Ac 2 5 Nf
abbrev Wk:Fn:=⟨2,["machines","taking"],Lh⟩
abbrev zbn:Gx:=⟨[],[],[("stay",A5,Ag,LO)],[],false,true,true,none,[],[],[],true,[],[],[],[],[],[],[],[]⟩
abbrev zbs:Gm:=⟨["machines","taking","stay","machine","room"],(A2 Rh).names,[],1,[],["zip"],[],["stay"],[],false,[],[],[],zbn⟩
theorem zbx:Ck zbs Wk Rh Nf:={}
def BU(M:Mc)(r:Str):List T:=((M.rs.find? λx=>decide (x.1=r)).map (·.2)).getD []
theorem Fe{M:Mc}(h:McOk M){r:Str}(hr:r∈M.nm):FG [AL M,.str r]=some (.ok (.own (BU M r)))/\A3 (BU M r)=true/\(BU M r).length<=1000/\C0 M.ws Fg (BU M r):=by
 obtain⟨x,hx,rfl⟩:=yag.mp (show r∈M.rs.map (·.1) from hr)
 obtain⟨y,hy⟩:∃y,M.rs.find? (λz=>decide (z.1=x.1))=some y:=by
  cases hf:M.rs.find? (λz=>decide (z.1=x.1)) with
  |some y=>exact⟨y,rfl⟩
  |none=>exact absurd (List.find?_eq_none.mp hf x hx) (by simp)
 have hy1:y.1=x.1:=by simpa using List.find?_some hy
 have hym:=yd3 hy;have es:BU M x.1=y.2:=by unfold BU;rw[hy];rfl
 obtain⟨i,hi,rfl⟩:=List.getElem_of_mem hym;obtain⟨k1,k2⟩:=h.r.lk _ hym;rw[es,<- hy1];exact⟨zk3 h hi,k1.sh,k2,k1⟩
def EM(Ms:List Mc)(t:List Str):List T:=(Ms.zip t).flatMap λx=>BU x.1 x.2
theorem Qb{α β:Type}(f:α->T)(g:β->T):∀(a:List α) (b:List β),IH (a.map f) (b.map g)=(a.zip b).map λx=>T.tup [f x.1,g x.2]
 |[],b=>by cases b<;>rfl
 |x::a,[]=>rfl
 |x::a,y::b=>by
  rw[yad,yad,ycu,yad,<- Qb f g a b]
  rfl
theorem GI{α β:Type}{g:α->List β}{m:Nat}:∀{L:List α},(∀x∈L,(g x).length<=m)->(L.flatMap g).length<=L.length * m
 |[],_=>ybr _
 |a::L,h=>by
  have h1:=h a (ya5 ..);have h2:=GI (L:=L) λb hb=>h b (ya4 _ hb)
  rw[yat,yac,yaj,ye2,ydi]
  omega
theorem MN{Ms:List Mc}(h:MsOk Ms)(hr:RmOk Ms){t:List Str}(ht:t∈Aa Ms){x:Mc×Str}(hx:x∈Ms.zip t):x.1∈Ms/\x.2∈x.1.nm:=by
 obtain⟨_,_,_,k⟩:=hr.t h ht;obtain⟨i,e⟩:=yck.mp hx;rw[yd4]at e;obtain⟨M,e1,e2⟩:=k i _ e.2;rw[e.1]at e1;cases e1;exact⟨yab e.1,e2⟩
theorem zl1{Ms:List Mc}(h:MsOk Ms)(hr:RmOk Ms){t:List Str}(ht:t∈Aa Ms):Lh [.lst (Ms.map AL),An t]=some (.ok (.own (EM Ms t))):=by
 have hs:=Et h.m;have key:=λ(x:Mc×Str) hx=>(MN h hr ht (x:=x) hx)
 have zl:(Ms.zip t).length<=6:=by rw[ydv];have:=h.l6;omega
 have wl:([]:List T).length+((Ms.zip t).flatMap λx=>BU x.1 x.2).length<=6000:=by
  have:=GI (g:=λx:Mc×Str=>BU x.1 x.2) (m:=1000) (L:=Ms.zip t) λx hx=>(Fe (h.m _ (key x hx).1) (key x hx).2).2.2.1
  rw[yb0]
  omega
 obtain⟨τ,e,y,z,rfl⟩:=GH (b:=Ap 2 (AQ (AD 3) (AQ (AD 4) Aq))) (body:=MT) (λx:Mc×Str=>T.tup [AL x.1,.str x.2]) (λ(a:List T) τ=>∃y z,τ=[some (.lst (Ms.map AL)),some (An t),some (.own a),y,z]) (λx=>BU x.1 x.2) 6000 (Ms.zip t) [] [some (.lst (Ms.map AL)),some (An t),some (.own []),none,none] ⟨none,none,rfl⟩ wl λx hx a τ hS hN=>by
  obtain⟨y,z,rfl⟩:=hS;obtain⟨k1,k2⟩:=key x hx;have k3:=C9 (h.m _ k1);obtain⟨g1,g2,_,_⟩:=Fe (h.m _ k1) k2;have l1:a.length+(BU x.1 x.2).length<=100000:=by omega
  refine⟨[some (.lst (Ms.map AL)),some (An t),some (.own a),some (AL x.1),some (.str x.2)],by simp![],[some (.lst (Ms.map AL)),some (An t),some (.own (a++BU x.1 x.2)),some (AL x.1),some (.str x.2)],?_,_,_,rfl⟩
  unfold MT
  simp![-Bh,Cf,k3,Ao _ k3,g1,g2,AG _ g2,l1]
 rw[ybm]at e;unfold Lh Nf
 simp![hs,AG _ hs,AW,A6,Qb,e]
 rfl
abbrev Rj:Stmt:=AO 61
def Jb:AI :=
 (AF (AU (AY (Bl A5 Ag E4 (AY (AA 0) (AA 6)) AE) (AA 7)) (AD 8))
 (AF (IY 3 (AA 6) (B7 Ah Am 1 (AA 8)))
 (AF (En 4 (Bl Ah Am GQ (AA 8) AE))
 (En 5 (Bl Ah Am GP (AA 8) AE)))))
def Nh:AI :=
 (AF (CJ 3 (m1 CK (AA 2)))
 (AF (CJ 4 (BJ AE))
 (AF (CJ 5 (BJ AE))
 (AF (B3 (Al (AA 1)) (Ap 2 (AQ (AD 6) (AQ (AD 7) Aq))) Jb)
 (AF (Dk 3) (AF (Dk 4) (AF (Dk 5) (AX (Fv Gy [(.str "")] (AB (AS Gu (AB (AA 2) AE)) (AB (AS Gu (AB (AA 3) AE)) (AB (AA 4) (AB (AA 5) AE)))))))))))))
def Li:List T->Option Ru:=Ac 3 9 Nh
abbrev Wl:Fn:=⟨4,["machines","share","taking"],Li⟩
abbrev zbp:Gx:=⟨[],[("Door",Ah,Am)],[("doors",A5,Ag,JD),("asks",Ah,Am,LV),("sets",Ah,Am,LU)],[("Door",P1,[(4,[(.str "")])])],false,true,true,none,[],[],[],true,[],[],[],[],[],[],[],[]⟩
abbrev zbu:Gm:=⟨["machines","share","taking","ends","guard","noughts","at","number","door"],(A2 Rj).names,[],3,[("whole_name",LK)],["list"],[],["ends","guard","noughts"],[],false,[],[],[],zbp⟩
theorem zbz:Ck zbu Wl Rj Nh:={}
noncomputable def d0:Dr:=⟨"","",[],[],""⟩
def Au(D:List (List Dr))(i k:Nat):Dr:=(D.getD i []).getD k d0
abbrev Dp(p:Nat×Nat):T:=.tup [.int (p.1:Int),.int (p.2:Int)]
abbrev Bd(s:List (Nat×Nat)):T:=.lst (s.map Dp)
theorem EU(s:List (Nat×Nat)):A3 (s.map Dp)=true:=BB λ_ _=>rfl
theorem G9(s:List (Nat×Nat)):BF (s.map Dp)=s.map Dp:=AG _ (EU s)
def FE(D:List (List Dr))(s:List (Nat×Nat)):Prop:=∀p∈s,p.1<D.length/\p.2<(D.getD p.1 []).length
abbrev AV(Ms:List Mc):List (List Dr):=Ms.map Mc.ds
theorem Pk{Ms:List Mc}{k:Nat}(h1:i<(AV Ms).length)(h2:k<((AV Ms).getD i []).length):∃M,Ms[i]?=some M/\M.ds[k]?=some (Au (AV Ms) i k):=by
 rw[ya1]at h1;have e:(AV Ms).getD i []=Ms[i].ds:=by rw[ya2,ya3,ya0 h1];rfl
 rw[e]at h2;refine⟨Ms[i],ya0 h1,?_⟩;unfold Au;rw[e,ya0 h2,ya2,ya0 h2]
 rfl
theorem zo1(h:i<n):DN n (i:Int)=some i:=by unfold DN;simp;omega
theorem Vb{M:Mc}(h:McOk M):E4 [AL M]=some (.ok (.own (M.ds.map AM))):=Nd h
theorem L3{Ms:List Mc}(h:∀M∈Ms,McOk M){p:Nat×Nat}{s:List (Nat×Nat)}(hs:FE (AV Ms) s)(hp:p∈s):∃M∈Ms,Ms[p.1]?=some M/\M.ds[p.2]?=some (Au (AV Ms) p.1 p.2)/\DrOk M.ws M.nm (Au (AV Ms) p.1 p.2):=by
 obtain⟨h1,h2⟩:=hs p hp;obtain⟨M,e1,e2⟩:=Pk h1 h2;have hM:=yab e1;exact⟨M,hM,e1,e2,(h M hM).d _ (yab e2)⟩
def Ef(D:List (List Dr))(s:List (Nat×Nat))(t:List Str):List Str:=s.foldl (λe p=>e.set p.1 (Au D p.1 p.2).e) t
def GF(D:List (List Dr))(s:List (Nat×Nat)):List T:=s.flatMap λp=>(Au D p.1 p.2).g
def DW(D:List (List Dr))(s:List (Nat×Nat)):List Str:=s.flatMap λp=>(Au D p.1 p.2).n
def FK(D:List (List Dr))(w:List (Nat×Nat)×List Str):Dr:=⟨Av w.2,Av (Ef D w.1 w.2),GF D w.1,DW D w.1,""⟩
theorem LX(D:List (List Dr)):∀(s:List (Nat×Nat)) (t:List Str),(Ef D s t).length=t.length
 |[],_=>rfl
 |p::s,t=>by
  show(Ef D s (t.set p.1 _)).length=_;rw[LX D s,yci]
theorem Pa(D:List (List Dr)):∀(s:List (Nat×Nat)) (t:List Str) (i:Nat) (r:Str),(Ef D s t)[i]?=some r->t[i]?=some r\/∃p∈s,p.1=i/\r=(Au D p.1 p.2).e
 |[],_,i,r,h=>.inl h
 |p::s,t,i,r,h=>by
  rcases Pa D s (t.set p.1 (Au D p.1 p.2).e) i r h with h|⟨q,h1,h2⟩
  .by_cases hi:p.1=i
   .by_cases hl:i<t.length
    .rw[hi,yax hl]at h;refine .inr ⟨p,ya5 ..,hi,?_⟩;rw[hi];exact(yao h).symm
    .rw[yai (by rw[yci];omega)]at h
     cases h
   .rw[yb4 hi]at h;exact .inl h
  .exact .inr ⟨q,ya4 _ h1,h2⟩
theorem Qh{Ms:List Mc}(h:∀M∈Ms,McOk M){x1 x2:Option T}:∀(s:List (Nat×Nat)) (e:List Str) (g:List T) (n:List Str) (y6 y7 y8:Option T),FE (AV Ms) s->e.length=Ms.length->g.length+s.length * 1000<=100000->n.length+s.length * 1000<=100000->∃z6 z7 z8,
  B9 (Ap 2 (AQ (AD 6) (AQ (AD 7) Aq))) Jb (s.map Dp) [some (.lst (Ms.map AL)),x1,x2,some (.own (e.map T.str)),some (.own g),some (.own (n.map T.str)),y6,y7,y8]=some (.nx [some (.lst (Ms.map AL)),x1,x2,some (.own ((Ef (AV Ms) s e).map T.str)),some (.own (g++GF (AV Ms) s)),some (.own ((n++DW (AV Ms) s).map T.str)),z6,z7,z8])
 |[],e,g,n,y6,y7,y8,_,_,_,_=>⟨y6,y7,y8,by unfold GF DW;rw[yc3,yc3,yay,yay];rfl⟩
 |p::s,e,g,n,y6,y7,y8,hs,he,hg,hn=>by
  rw[yaj,ye2,ydi]at hg hn;obtain⟨M,hM,e1,e2,k⟩:=L3 h hs (ya5 ..);generalize hd:Au (AV Ms) p.1 p.2=d at *;have sm:=Et h;have k1:=C9 (h M hM);have kd:=Vb (h M hM);have a1:A8 (Ms.map AL) (p.1:Int)=some (AL M):=CZ (by rw[ya3,e1];rfl)
  have a2:A8 (M.ds.map AM) (p.2:Int)=some (AM d):=CZ (by rw[ya3,e2];rfl)
  have a3:DN e.length (p.1:Int)=some p.1:=zo1 (by rw[he];exact(ya6.mp e1).1)
  have sg:=k.g.sh;have sd:=Pe k;have f1:=Pf sg;have f2:=Pd sg;have gl:=k.gl;have nl:=k.nl;have l1:g.length+d.g.length<=100000:=by omega
  have l2:n.length+d.n.length<=100000:=by omega
  obtain⟨z6,z7,z8,ih⟩:=Qh h (x1:=x1) (x2:=x2) s (e.set p.1 d.e) (g++d.g) (n++d.n) (some (.int (p.1:Int))) (some (.int (p.2:Int))) (some (AM d)) (λq hq=>hs q (ya4 _ hq)) (by rw[yci];exact he) (by rw[yac];omega) (by rw[yac];omega)
  have body:Jb [some (.lst (Ms.map AL)),x1,x2,some (.own (e.map T.str)),some (.own g),some (.own (n.map T.str)),some (.int (p.1:Int)),some (.int (p.2:Int)),y8]=some (.nx [some (.lst (Ms.map AL)),x1,x2,some (.own ((e.set p.1 d.e).map T.str)),some (.own (g++d.g)),some (.own ((n++d.n).map T.str)),some (.int (p.1:Int)),some (.int (p.2:Int)),some (AM d)]):=by
   have q1:(e.set p.1 d.e).map T.str=(e.map T.str).set p.1 (.str d.e):=List.map_set;rw[q1,yar];unfold Jb;refine sq (τ':=[some (.lst (Ms.map AL)),x1,x2,some (.own (e.map T.str)),some (.own g),some (.own (n.map T.str)),some (.int (p.1:Int)),some (.int (p.2:Int)),some (AM d)]) ?_ ?_
   .simp![-Bh,sm,Cf,k1,Ao _ k1,a1,kd,a2,sg,AG _ sg,AW,A6]
   .simp![sg,AG _ sg,AW,A6,ya1,a3,f1,f2,l1,l2]
  refine⟨z6,z7,z8,?_⟩;have bind:Ap 2 (AQ (AD 6) (AQ (AD 7) Aq)) (Dp p) [some (.lst (Ms.map AL)),x1,x2,some (.own (e.map T.str)),some (.own g),some (.own (n.map T.str)),y6,y7,y8]=some [some (.lst (Ms.map AL)),x1,x2,some (.own (e.map T.str)),some (.own g),some (.own (n.map T.str)),some (.int (p.1:Int)),some (.int (p.2:Int)),y8]:=by simp![]
  rw[yad];unfold B9;simp only[bind,body];rw[ih];unfold GF DW Ef;rw[yat,yat,yds,hd,ybp,ybp]
theorem wd_ok{Ms:List Mc}(h:MsOk Ms)(hr:RmOk Ms){t:List Str}(ht:t∈Aa Ms){s:List (Nat×Nat)}(hs:FE (AV Ms) s)(hl:s.length<=2):Li [.lst (Ms.map AL),Bd s,An t]=some (.ok (AM (FK (AV Ms) (s,t)))):=by
 obtain⟨t1,t2,t3,t4⟩:=hr.t h ht;obtain⟨z6,z7,z8,e⟩:=Qh h.m (x1:=some (Bd s)) (x2:=some (An t)) s t [] [] none none none hs t1 (by rw[yb0];omega) (by rw[yb0];omega)
 rw[ybm,ybm,yc6]at e;have sm:=Et h.m;have n1:=J8 (o:=false) t2 t3
 have n2:=J8 (t:=Ef (AV Ms) s t) (o:=false) (by rw[LX];exact t2) λr hr'=>by
  obtain⟨i,q⟩:=yck.mp hr'
  rcases Pa _ s t i r q with q|⟨p,hp,_,rfl⟩
  .exact t3 r (yab q)
  .obtain⟨M,hM,_,_,k⟩:=L3 h.m hs hp;exact hr.s M hM _ k.e
 have sg:A3 (GF (AV Ms) s)=true:=by
  rw[DK,yal];intro u hu;obtain⟨p,hp,hu⟩:=yap.mp hu;obtain⟨M,hM,_,_,k⟩:=L3 h.m hs hp;have:=k.g.sh;rw[DK,yal]at this;exact this u hu
 have oc1:=K4 _ sg;have oc2:=K4 ((DW (AV Ms) s).map T.str) (AW _)
 have di:Gy [.str (Av t),.str (Av (Ef (AV Ms) s t)),.lst (GF (AV Ms) s),.lst ((DW (AV Ms) s).map T.str),.str ""]=some (.ok (AM (FK (AV Ms) (s,t)))):=by
  refine NP λp=>?_
  unfold FN Ku FK
  simp![oc1,oc2,sg,AG _ sg,A6,AW]
 unfold Li Nh
 simp![sm,AG _ sm,AW,A6,EU,G9,e,sg,AG _ sg,n1,n2,di]
abbrev Rv:Stmt:=AO 59
def II:AI :=
 (Af (CP (m2 By (AA 6) (AA 1)) (m2 Bn (B7 Ah Am 4 (AA 9)) (AA 4))) (C6 5 (BJ (BC (B5 (AB (AA 1) (AB (AA 2) AE))) (BC (B5 (AB (AA 6) (AB (AA 8) AE))) AE)))) Ae)
def MV:AI :=
 (B3 (DB (AB (AA 7) AE)) (Ap 2 (AQ (AD 8) (AQ (AD 9) Aq))) II)
def HX:AI :=
 (AF (AU (B7 Ah Am 4 (AY (AY (AA 0) (AA 1)) (AA 2))) (AD 3))
 (AF (Af (m2 Bn (AA 3) (mC (.str ""))) (AX (BJ (BC (BJ (BC (B5 (AB (AA 1) (AB (AA 2) AE))) AE)) AE))) Ae)
 (AF (Af (HY (AA 3) (mC (.str "?"))) (AX (BJ AE)) Ae)
 (AF (AU (m2 BL (Cb (Dt (AA 3) none (some (m1 Er (mC (.int 1))))) (Ds (AA 3) none (some (m1 Er (mC (.int 1)))))) (mC (.str "?"))) (AD 4))
 (AF (CJ 5 (BJ AE))
 (AF (B3 (DB (AB (AA 0) AE)) (Ap 2 (AQ (AD 6) (AQ (AD 7) Aq))) MV)
 (AX (AA 5))))))))
def Hw:List T->Option Ru:=Ac 3 10 HX
abbrev Wt:Fn:=⟨1,["lists","at","number"],Hw⟩
abbrev zc7:Gx:=⟨[],[("Door",Ah,Am)],[],[],false,true,true,none,[],[],[],true,[],[],[],[],[],[],[],[]⟩
abbrev zcf:Gm:=⟨["lists","at","number","sign","answer","told","other_at","doors","other_number","door"],(A2 Rv).names,[],0,[],["enumerate"],[],["told"],[],false,[],[],[],zc7⟩
theorem zck:Ck zcf Wt Rv HX:={}
theorem zhu{c:Nat}(hc:c∈Tx.cs y)(hx:c∉Tx.cs x):Txt.endswith x y=false:=by
 unfold Txt.endswith;rw[Bool.and_eq_false_iff];right;rw[StrLaws.subAt_eq,yfq];intro z;have hc':c∈y.cps.toList:=hc;rw[<- z]at hc';exact hx (List.mem_of_mem_drop (ycz hc'))
theorem zkp(h:Tx.cs z=Tx.cs x++Tx.cs y):Txt.endswith z y=true:=by
 have hl:(Tx.cs z).length=(Tx.cs x).length+(Tx.cs y).length:=by rw[h,yac]
 unfold Txt.endswith;rw[ya7];refine⟨yf6 ?_,?_⟩
 .rw[Tx.cs_len,Tx.cs_len]
  omega
 .rw[StrLaws.subAt_eq,yfb];show((Tx.cs z).drop (z.length - y.length)).take y.length=Tx.cs y;rw[Tx.cs_len,Tx.cs_len,hl,Nat.add_sub_cancel,h,List.drop_left' rfl];exact ycb
theorem NU:Tx.cs (Str.ofString "?")=[63]:=by decide +kernel
def Dv(z:Str):Str:=Txt.slice z none (some (-1))++"?"
def DZ(D:List (List Dr))(i k:Nat):List (List (Nat×Nat)):=if (Au D i k).z="" then [[(i,k)]] else if Txt.endswith (Au D i k).z "?"=true then [] else
 (List.range D.length).flatMap λj=>(List.range (D.getD j []).length).flatMap λm=>if j≠i/\(Au D j m).z=Dv (Au D i k).z then [[(i,k),(j,m)]] else []
theorem LH{D:List (List Dr)}{k:Nat}(h1:i<D.length)(h2:k<(D.getD i []).length){s:List (Nat×Nat)}(hs:s∈DZ D i k):FE D s/\s.length<=2/\(s=[(i,k)]\/∃j m,j≠i/\s=[(i,k),(j,m)]):=by
 unfold DZ at hs;split at hs
 .rw[ya8.mp hs];exact⟨λp hp=>by rw[ya8.mp hp];exact⟨h1,h2⟩,ycc 1,.inl rfl⟩
 .split at hs
  .cases hs
  .obtain⟨j,hj,hs⟩:=yap.mp hs;obtain⟨m,hm,hs⟩:=yap.mp hs;split at hs
   .rename_i hc;rw[ya8.mp hs];refine⟨λp hp=>?_,yae _,.inr ⟨j,m,hc.1,rfl⟩⟩
    rcases ya9.mp hp with rfl|hp
    .exact⟨h1,h2⟩
    .rw[ya8.mp hp];exact⟨ybb.mp hj,ybb.mp hm⟩
   .cases hs
def B8(D:List (List Dr)):T:=.lst (D.map λl=>.lst (l.map AM))
structure DsOk(D:List (List Dr)):Prop where
 l:D.length<=100
 k:∀l∈D,l.length<=200
 g:∀l∈D,∀d∈l,A3 d.g=true
 z:∀l∈D,∀d∈l,Fb d.z
theorem DsOk.sl{D:List (List Dr)}(h:DsOk D){l:List Dr}(hl:l∈D):A3 (l.map AM)=true:=BB λd hd=>by
 have:=h.g l hl d hd
 simp![this,AW]
theorem DsOk.sh{D:List (List Dr)}(h:DsOk D):A3 (D.map λl=>T.lst (l.map AM))=true:=BB λl hl=>by
 show((!false) && A3 (l.map AM))=true;rw[h.sl hl]
 rfl
theorem LZ{D:List (List Dr)}(h1:i<D.length):∃l∈D,D.getD i []=l/\A8 (D.map λl=>T.lst (l.map AM)) (i:Int)=some (.lst (l.map AM)) :=
 ⟨D[i],yau h1,by rw[ya2,ya0 h1];rfl,CZ (by rw[ya3,ya0 h1];rfl)⟩
theorem Xr{D:List (List Dr)}{k:Nat}(h1:i<D.length)(h2:k<(D.getD i []).length):∃l∈D,D.getD i []=l/\Au D i k∈l/\A8 (D.map λl=>T.lst (l.map AM)) (i:Int)=some (.lst (l.map AM))/\A8 (l.map AM) (k:Int)=some (AM (Au D i k)):=by
 obtain⟨l,hl,e,a⟩:=LZ h1;rw[e]at h2;have ed:Au D i k=l[k]:=by unfold Au;rw[e,ya2,ya0 h2];rfl
 exact⟨l,hl,e,by rw[ed];exact yau h2,a,CZ (by rw[ya3,ya0 h2,ed];rfl)⟩
theorem Rc(h:Fb z)(hz:z≠""):∃(y:Str) (c:Nat),FD y/\y.cps.size<=8/\(c=33\/c=63)/\Tx.cs z=Tx.cs y++[c]/\Txt.slice z none (some (-1))=y/\Txt.endswith z "?"=decide (c=63)/\z.length<=9/\A8 z.cps.toList (-1)=some c:=by
 rcases h with h|⟨y,c,h1,h2,h3,hc,e⟩
 .exact absurd h hz
 .have hl:(Tx.cs z).length=(Tx.cs y).length+1:=by rw[e,yac];rfl
  have h3':(Tx.cs y).length<=8:=h3;refine⟨y,c,h1,h3,hc,e,?_,?_,by rw[Tx.cs_len];omega,?_⟩
  .have e2:Txt.slice z none (some (-1))=StrLaws.sliceText z none (some (-1)):=rfl;rw[e2,StrLaws.sliceText_neg_hi z none (by decide) (by rw[Tx.cs_len,hl];omega)]
   have e3:((-1:Int)+(z.length:Int))=(((Tx.cs y).length:Nat):Int):=by rw[Tx.cs_len,hl];omega
   rw[e3];refine Tx.cs_ext ?_;show Tx.cs (Txt.slice z none (some (((Tx.cs y).length:Nat):Int)))=Tx.cs y;rw[Tx.sl_to (by omega),e,List.take_left' rfl]
  .rcases hc with rfl|rfl
   .refine zhu (c:=63) (by rw[NU];decide) λq=>?_
    rw[e]at q
    rcases yba.mp q with q|q
    .have:=IV h1 63 q
     omega
    .cases ya8.mp q
   .exact zkp (x:=y) (by rw[e,NU])
  .show A8 (Tx.cs z) (-1)=some c;rw[e];unfold A8 DN;rw[yac,ybg,if_neg (by decide),if_pos (by omega)]
   show(Tx.cs y++[c])[((-1:Int)+(((Tx.cs y).length+1:Nat):Int)).toNat]?=some c;rw[show((-1:Int)+(((Tx.cs y).length+1:Nat):Int)).toNat=(Tx.cs y).length by omega,yb2 (yae _),Nat.sub_self]
   rfl
theorem P6(f:α->T)(d:α)(L:List α):CV 0 (L.map f)=(List.range L.length).map λ(j:Nat)=>T.tup [.int (j:Int),f (L.getD j d)]:=by
 have e:L.map f=mT L.length λj=>f (L.getD j d):=Fu (by simp) λj hj=>by
  rw[ya3,ya0 hj,ya2,ya0 hj]
  rfl
 rw[e,zkr]
 rfl
theorem Xg:PyData.strOk (Str.ofString "")=true:=by decide +kernel
theorem an_ok(h:Fb z)(hz:z≠""):PyData.strOk (Dv z)=true:=by
 obtain⟨y,c,h1,_,_,_,e,_⟩:=Rc h hz;refine Y6 λx hx=>?_
 unfold Dv at hx;rw[e,Tx.cs_app]at hx
 rcases yba.mp hx with hx|hx
 .have:=IV h1 x hx
  omega
 .rw[show Tx.cs (Str.ofString "?")=[63] from NU]at hx;rw[ya8.mp hx]
  decide
abbrev El(s:List (Nat×Nat)):T:=.own (s.map Dp)
abbrev sO(D:List (List Dr))(i k:Nat)(z:Str)(a:List (List (Nat×Nat)))(x6 x7 x8 x9:Option T):AN:=[some (B8 D),some (.int (i:Int)),some (.int (k:Int)),some (.str z),some (.str (Dv z)),some (.own (a.map El)),x6,x7,x8,x9]
theorem so_ok{D:List (List Dr)}(h:DsOk D){k:Nat}(h1:i<D.length)(h2:k<(D.getD i []).length):Hw [B8 D,.int (i:Int),.int (k:Int)]=some (.ok (.own ((DZ D i k).map El))):=by
 have hs:=h.sh;obtain⟨l,hl,_,hd,a1,a2⟩:=Xr h1 h2;have sl:=h.sl hl;have sg:=h.g l hl _ hd;have hz:=h.z l hl _ hd;generalize hdd:Au D i k=d at *;have q0:=F9 (KI hz) Xg
 by_cases z0:d.z=""
 .have eg:DZ D i k=[[(i,k)]]:=by unfold DZ;rw[hdd,if_pos z0]
  rw[yf6 (show d.z=Str.ofString "" from z0)]at q0;rw[eg];unfold Hw HX B8
  simp![hs,AG _ hs,a1,a2,sl,sg,AG _ sg,AW,q0]
  rfl
 .rw[yeo (show ¬ d.z=Str.ofString "" from z0)]at q0;obtain⟨y,c,y1,y2,hc,ez,es,ee,zl,_⟩:=Rc hz z0
  by_cases c63:c=63
  .rw[yf6 c63]at ee;have eg:DZ D i k=[]:=by unfold DZ;rw[hdd,if_neg z0,if_pos ee]
   rw[eg];unfold Hw HX B8
   simp![hs,AG _ hs,a1,a2,sl,sg,AG _ sg,AW,q0,HY,ee]
  .rw[yeo c63]at ee;have eg:DZ D i k=(List.range D.length).flatMap λj=>(List.range (D.getD j []).length).flatMap λm=>if j≠i/\(Au D j m).z=Dv d.z then [[(i,k),(j,m)]] else []:=by unfold DZ;rw[hdd,if_neg z0,if_neg (by rw[ee];exact ybf)]
   have an:=an_ok hz z0
   have il:∀j,j<D.length->((List.range (D.getD j []).length).flatMap λm=>if j≠i/\(Au D j m).z=Dv d.z then [[(i,k),(j,m)]] else []).length<=200:=λj hj=>by
    obtain⟨lj,hlj,ej,_⟩:=LZ hj
    have:=GI (g:=λm=>if j≠i/\(Au D j m).z=Dv d.z then [[(i,k),(j,m)]] else []) (m:=1) (L:=List.range (D.getD j []).length) λm _=>by
     split
     .exact yae 1
     .exact ybr 1
    rw[yb6,ej,Nat.mul_one]at this;rw[ej];exact yak this (h.k lj hlj)
   have tl:=GI (g:=λj=>(List.range (D.getD j []).length).flatMap λm=>if j≠i/\(Au D j m).z=Dv d.z then [[(i,k),(j,m)]] else []) (m:=200) (L:=List.range D.length) λj hj=>il j (ybb.mp hj)
   rw[yb6]at tl;have hlD:=h.l
   obtain⟨τ,e,y6,y7,y8,y9,rfl⟩:=GH (b:=Ap 2 (AQ (AD 6) (AQ (AD 7) Aq))) (body:=MV) (λ(j:Nat)=>T.tup [.int (j:Int),.lst ((D.getD j []).map AM)]) (λ(a:List (List (Nat×Nat))) τ=>∃y6 y7 y8 y9,τ=(sO D i k d.z a y6 y7 y8 y9)) (λj=>(List.range (D.getD j []).length).flatMap λm=>if j≠i/\(Au D j m).z=Dv d.z then [[(i,k),(j,m)]] else []) 20000 (List.range D.length) [] [some (B8 D),some (.int (i:Int)),some (.int (k:Int)),some (.str d.z),some (.str (Dv d.z)),some (.own []),none,none,none,none] ⟨none,none,none,none,rfl⟩ (by rw[yb0];omega) λj hj a τ hS hN=>by
    obtain⟨y6,y7,y8,y9,rfl⟩:=hS;have hj:=ybb.mp hj;obtain⟨lj,hlj,ej,_⟩:=LZ hj;have slj:=h.sl hlj;rw[ej]at hN ⊢
    obtain⟨τ2,e2,z8,z9,rfl⟩:=GH (b:=Ap 2 (AQ (AD 8) (AQ (AD 9) Aq))) (body:=II) (λ(m:Nat)=>T.tup [.int (m:Int),AM (lj.getD m d0)]) (λ(a:List (List (Nat×Nat))) τ=>∃y8 y9,τ=(sO D i k d.z a (some (.int (j:Int))) (some (.lst (lj.map AM))) y8 y9)) (λm=>if j≠i/\(Au D j m).z=Dv d.z then [[(i,k),(j,m)]] else []) 20000 (List.range lj.length) a (sO D i k d.z a (some (.int (j:Int))) (some (.lst (lj.map AM))) y8 y9) ⟨y8,y9,rfl⟩ hN λm hm a τ hS hN=>by
     obtain⟨y8,y9,rfl⟩:=hS;have hm:=ybb.mp hm;have em:lj.getD m d0=Au D j m:=by unfold Au;rw[ej]
     have hdm:Au D j m∈lj:=by rw[<- em,ya2,ya0 hm];exact yau hm
     rw[em];have sgm:=h.g lj hlj _ hdm;have q1:=F9 (KI (h.z lj hlj _ hdm)) an;generalize Au D j m=dm at *;refine⟨(sO D i k d.z a (some (.int (j:Int))) (some (.lst (lj.map AM))) (some (.int (m:Int))) (some (AM dm))),by simp![],_,?_,some (.int (m:Int)),some (AM dm),rfl⟩
     by_cases hji:j=i
     .rw[if_neg (λz=>z.1 hji),yay]
      have n1:((j:Int) == (i:Int))=true:=by rw[hji];exact yff _
      unfold II
      simp![E8,n1]
     .have n1:((j:Int) == (i:Int))=false:=by rw[yfq];exact λz=>hji (yeb z)
      by_cases hzz:dm.z=Dv d.z
      .rw[yf6 hzz]at q1;rw[if_pos ⟨hji,hzz⟩]at hN ⊢;have ll:a.length<100000:=by rw[ybg]at hN;omega
       unfold sO;rw[yar];unfold II
       simp![E8,n1,sgm,AG _ sgm,AW,q1,ya1,ll]
       rfl
      .rw[yeo hzz]at q1;rw[if_neg (λz=>hzz z.2),yay]
       unfold II
       simp![E8,n1,sgm,AG _ sgm,AW,q1]
    refine⟨(sO D i k d.z a (some (.int (j:Int))) (some (.lst (lj.map AM))) y8 y9),by simp![],_,?_,some (.int (j:Int)),some (.lst (lj.map AM)),z8,z9,rfl⟩
    unfold MV
    simp![DB,slj,AG _ slj,P6 AM d0,e2]
   rw[ybm]at e;have sy:Txt.slice d.z none (some (-1))++Str.ofString "?"=Dv d.z:=rfl;have ls:d.z.length<=100000:=by omega
   have l9:(Txt.slice d.z none (some (-1))).length+(Str.ofString "?").length<=100000:=by
    rw[es,Tx.cs_len,show(Str.ofString "?").length=1 by decide +kernel]
    have:(Tx.cs y).length<=8:=y2
    omega
   have en:CV 0 (D.map λl=>T.lst (l.map AM))=(List.range D.length).map λ(j:Nat)=>T.tup [.int (j:Int),.lst ((D.getD j []).map AM)]:=P6 (λl:List Dr=>T.lst (l.map AM)) [] D
   rw[eg]
   have key:HX [some (B8 D),some (.int (i:Int)),some (.int (k:Int)),none,none,none,none,none,none,none]=some (.rt (.own (((List.range D.length).flatMap λj=>(List.range (D.getD j []).length).flatMap λm=>if j≠i/\(Au D j m).z=Dv d.z then [[(i,k),(j,m)]] else []).map El))):=by
    unfold HX;refine sq (τ':=[some (B8 D),some (.int (i:Int)),some (.int (k:Int)),some (.str d.z),none,none,none,none,none,none]) (by unfold B8;simp![hs,AG _ hs,a1,a2,sl,sg,AG _ sg,AW]) ?_
    refine sq (by simp![q0];rfl) ?_
    refine sq (by simp![HY,ee];rfl) ?_
    refine sq (by simp![Ds,ls,show(-(1:Int))=-1 from rfl,l9,sy];rfl) ?_
    refine sq (by simp![];rfl) ?_
    refine sq (τ':=_) (by rw[<- e];unfold B8;simp![DB,hs,AG _ hs,en]) ?_
    simp![]
   unfold Hw;have sD:(B8 D).share=B8 D:=by unfold B8;simp![hs,AG _ hs]
   simp![key]
abbrev Rm:Stmt:=AO 60
def Px:AJ :=
 (m2 Bn (B7 Ah Am 0 (AY (AY (AA 2) (AA 0)) (AA 1))) (AY (AA 3) (AA 0)))
def Nj:AI :=
 (AX (m1 DE (Ar 2 [0,2] (Al (AA 1)) (Ap 2 (AQ (AD 0) (AQ (AD 1) Aq))) (mC (.bl true)) Px)))
def Lj:List T->Option Ru:=Ac 3 3 Nj
abbrev Wn:Fn:=⟨1,["lists","share","taking"],Lj⟩
abbrev zaz:Gx:=⟨[],[("Door",Ah,Am)],[],[],false,true,true,none,[],[],[],true,[],[],[],[],[],[],[],[]⟩
abbrev zb6:Gm:=⟨["lists","share","taking"],(A2 Rm).names,["lists","taking"],0,[],["all"],[],[],[],false,[],[],[],zaz⟩
theorem zbd:Ck zb6 Wn Rm Nj:={}
def Ff(D:List (List Dr))(s:List (Nat×Nat))(t:List Str):Bool:=s.all λp=>decide ((Au D p.1 p.2).s=t.getD p.1 "")
theorem Lb{α:Type}(f:α->Bool):∀L:List α,EK (L.map λx=>T.bl (f x))=some (L.map f)
 |[]=>rfl
 |a::r=>by
  rw[yad,yad];unfold EK;rw[Lb f r]
theorem Xl{D:List (List Dr)}(h:DsOk D):(B8 D).share=B8 D/\(B8 D).sh=true:=by
 have hs:=h.sh;unfold B8;constructor<;>simp![hs,AG _ hs]
theorem sf_ok{D:List (List Dr)}(h:DsOk D)(ht:∀l∈D,∀d∈l,PyData.strOk d.s=true){s:List (Nat×Nat)}(hs:FE D s)(hl:s.length<=2){t:List Str}(tl:t.length=D.length)(tx:Bw t):Lj [B8 D,Bd s,An t]=some (.ok (.bl (Ff D s t))):=by
 obtain⟨d1,d2⟩:=Xl h;have hD:=h.sh
 have lc:BD (Ap 2 (AQ (AD 0) (AQ (AD 1) Aq))) (mC (.bl true)) Px (s.map Dp) [none,none,some (B8 D),some (An t)]=some (s.map λp=>T.bl (decide ((Au D p.1 p.2).s=t.getD p.1 ""))):=Bv Dp (λp=>T.bl (decide ((Au D p.1 p.2).s=t.getD p.1 ""))) (λτ=>∃a b,τ=[a,b,some (B8 D),some (An t)]) _ _ ⟨none,none,rfl⟩ λp hp τ hI=>by
  obtain⟨a,b,rfl⟩:=hI;obtain⟨k1,k2⟩:=hs p hp;obtain⟨l,hl,_,hd,a1,a2⟩:=Xr k1 k2;have sl:=h.sl hl;have sg:=h.g l hl _ hd;have it:p.1<t.length:=by omega
  have a3:A8 (t.map T.str) (p.1:Int)=some (.str (t.getD p.1 "")):=CZ (by rw[ya3,ya0 it,ya2,ya0 it];rfl)
  have q:=F9 (ht l hl _ hd) (tx (t.getD p.1 "") (by rw[ya2,ya0 it];exact yau it))
  generalize Au D p.1 p.2=d at *;refine⟨[some (.int (p.1:Int)),some (.int (p.2:Int)),some (B8 D),some (An t)],by simp![],?_,_,_,rfl⟩
  unfold Px B8
  simp![hD,a1,a2,sl,sg,AW,a3,q]
 have ba:=Lb (λp:Nat×Nat=>decide ((Au D p.1 p.2).s=t.getD p.1 "")) s
 have sb:=AG _ (BB (f:=λp:Nat×Nat=>T.bl (decide ((Au D p.1 p.2).s=t.getD p.1 ""))) (L:=s) λ_ _=>rfl)
 have al:(s.map λp=>decide ((Au D p.1 p.2).s=t.getD p.1 "")).all id=Ff D s t:=by unfold Ff;rw[yej];rfl
 have ll:s.length<=100000:=by omega
 have c0:Hm [some (B8 D),some (Bd s),some (An t)] 0=some (B8 D):=by unfold Hm;simp only[List.getElem?_cons_zero,d2,yf3]
 unfold Lj Nj
 simp![d1,d2,AW,A6,EU,G9,ya1,ll,lc,sb,ba,al]
abbrev Rf:Stmt:=AO 58
def Pr:AJ :=
 (Bl A5 Ag E4 (AA 0) AE)
def Oq:AJ :=
 (AS Lj (AB (AA 1) (AB (AA 2) (AB (AA 0) AE))))
def Pq:AJ :=
 (B5 (AB (AA 2) (AB (AA 0) AE)))
def GX:AI :=
 (AF (En 3 (Ar 1 [2,7] (Al (AA 1)) (AD 0) Oq Pq))
 (Af (m2 (CI λi j=>decide (j<i)) (m1 B0 (AA 3)) (mC Fx)) (Bz "TooMany" (AB (mC (.str "the whole would have more than 200 doors")) AE)) Ae))
def GY:AI :=
 (B3 (Al (AS Hw (AB (AA 2) (AB (AA 4) (AB (AA 6) AE))))) (AD 7) GX)
def GZ:AI :=
 (B3 (CM (AB (m1 B0 (AA 5)) AE)) (AD 6) GY)
def Kc:AI :=
 (AF (AU (Ar 1 [] (Al (AA 0)) (AD 0) (mC (.bl true)) Pr) (AD 2))
 (AF (CJ 3 (BJ AE))
 (AF (B3 (DB (AB (AA 2) AE)) (Ap 2 (AQ (AD 4) (AQ (AD 5) Aq))) GZ)
 (AX (AA 3)))))
def Gs:List T->Option Ru:=Ac 2 8 Kc
abbrev PC:Fn:=⟨2,["machines","takings"],Gs⟩
abbrev zbm:Gx:=⟨[("MOST_DOORS",Fx)],[],[("doors",A5,Ag,JD)],[],false,true,true,none,[],[],[],true,[],[],[],[],[],[],[],[]⟩
abbrev zbr:Gm:=⟨["machines","takings","lists","ways","at","doors","number","share"],(A2 Rf).names,["lists","share"],1,[("shares_of",Wt),("starts_from",Wn)],["enumerate","range","len"],["TooMany"],["ways"],[],false,[],[],[],zbm⟩
theorem zbw:Ck zbr PC Rf Kc:={}
theorem Ky{α:Type}{b:T->AN->Option AN}{mt me:AJ}(f g:α->T)(p:α->Bool)(I:AN->Prop):∀(L:List α) (τ:AN),I τ->(∀x∈L,∀τ,I τ->∃τ1 bb,b (f x) τ=some τ1/\mt τ1=some (.v (.bl (p x)) bb)/\(p x=true->me τ1=some (.v (g x) false))/\I τ1)->BD b mt me (L.map f) τ=some ((L.filter p).map g)
 |[],_,_,_=>rfl
 |x::L,τ,h,hs=>by
  obtain⟨τ1,bb,e1,e2,e3,h1⟩:=hs x (ya5 ..) τ h;have k:=Ky f g p I L τ1 h1 λu hu=>hs u (ya4 _ hu)
  rw[yad,List.filter_cons];unfold BD;cases hp:p x with
  |true=>simp only[e1,e2,hp,e3 hp,k,yf3];rfl
  |false=>simp only[e1,e2,hp,k,ycg,yf4]
abbrev DH(w:List (Nat×Nat)×List Str):T:=.tup [Bd w.1,An w.2]
def Ct(D:List (List Dr))(ts:List (List Str))(s:List (Nat×Nat)):List (List (Nat×Nat)×List Str):=(ts.filter (Ff D s)).map λt=>(s,t)
def HD(D:List (List Dr))(ts:List (List Str))(i k:Nat):List (List (Nat×Nat)×List Str):=(DZ D i k).flatMap (Ct D ts)
def J7(D:List (List Dr))(ts:List (List Str))(i:Nat):List (List (Nat×Nat)×List Str):=(List.range (D.getD i []).length).flatMap (HD D ts i)
def Bb(D:List (List Dr))(ts:List (List Str)):List (List (Nat×Nat)×List Str):=(List.range D.length).flatMap (J7 D ts)
theorem MP{D:List (List Dr)}{ts:List (List Str)}{w:List (Nat×Nat)×List Str}(h:w∈Bb D ts):w.2∈ts/\∃i k,i<D.length/\k<(D.getD i []).length/\w.1∈DZ D i k/\Ff D w.1 w.2=true:=by
 obtain⟨i,hi,h⟩:=yap.mp h;obtain⟨k,hk,h⟩:=yap.mp h;obtain⟨s,hs,h⟩:=yap.mp h;obtain⟨t,ht,rfl⟩:=yag.mp h;obtain⟨h1,h2⟩:=ych.mp ht;exact⟨h1,i,k,ybb.mp hi,ybb.mp hk,hs,h2⟩
theorem J6(w:List (Nat×Nat)×List Str):(DH w).sh=true:=by simp![EU,AW]
theorem ds_of{Ms:List Mc}(h:MsOk Ms):DsOk (AV Ms)/\∀l∈AV Ms,∀d∈l,PyData.strOk d.s=true:=by
 have key:∀l∈AV Ms,∃M∈Ms,M.ds=l:=λl hl=>by
  obtain⟨M,hM,rfl⟩:=yag.mp hl;exact⟨M,hM,rfl⟩
 refine⟨⟨by rw[ya1];have:=h.l6;omega,λl hl=>?_,λl hl d hd=>?_,λl hl d hd=>?_⟩,λl hl d hd=>?_⟩<;>obtain⟨M,hM,rfl⟩:=key l hl
 .exact(h.m M hM).dl
 .exact((h.m M hM).d d hd).g.sh
 .exact((h.m M hM).d d hd).z
 .exact(h.m M hM).tn _ ((h.m M hM).d d hd).s
abbrev sW(Ms:List Mc)(ts:List (List Str))(D:List (List Dr))(a:List (List (Nat×Nat)×List Str))(x4 x5 x6 x7:Option T):AN:=[some (.lst (Ms.map AL)),some (.lst (ts.map An)),some (B8 D),some (.own (a.map DH)),x4,x5,x6,x7]
theorem Qc{Ms:List Mc}(h:MsOk Ms)(hr:RmOk Ms):((Bb (AV Ms) (Aa Ms)).length<=200/\Gs [.lst (Ms.map AL),.lst ((Aa Ms).map An)]=some (.ok (.own ((Bb (AV Ms) (Aa Ms)).map DH))))\/(200<(Bb (AV Ms) (Aa Ms)).length/\Gs [.lst (Ms.map AL),.lst ((Aa Ms).map An)]=some (.exc "TooMany")):=by
 obtain⟨hD,hD2⟩:=ds_of h;obtain⟨d1,d2⟩:=Xl hD;have sD:=hD.sh;have sm:=Et h.m;have st:=G2 (Aa Ms);have l64:(Aa Ms).length<=64:=by have:=hr.k Ms.length (yae _);rwa[ycb]at this
 have tl:∀t∈Aa Ms,t.length=(AV Ms).length/\Bw t:=λt ht=>by
  obtain⟨k1,_,_,k4⟩:=hr.t h ht;refine⟨by rw[ya1];exact k1,λx hx=>?_⟩
  obtain⟨i,e⟩:=yck.mp hx;obtain⟨M,e1,e2⟩:=k4 i x e;exact(h.m M (yab e1)).tn x e2
 generalize hts:Aa Ms=ts at *;have eD:(AV Ms).length=Ms.length:=ya1 _;generalize hDD:AV Ms=D at *
 have EY:BD (AD 0) (mC (.bl true)) Pr (Ms.map AL) [none]=some (Ms.map λM=>T.own (M.ds.map AM)):=Bv AL (λM=>T.own (M.ds.map AM)) (λτ=>∃a,τ=[a]) Ms _ ⟨none,rfl⟩ λM hM τ hI=>by
  obtain⟨a,rfl⟩:=hI;have k1:=C9 (h.m M hM);exact⟨[some (AL M)],by simp![],by unfold Pr;simp![-Bh,Cf,k1,Ao _ k1,Vb (h.m M hM)],_,rfl⟩
 have so:T.lst (BF (Ms.map λM=>T.own (M.ds.map AM)))=B8 D:=by
  rw[<- hDD];unfold B8;rw[Cw,yaq,yaq];refine congrArg T.lst (ybk λM hM=>?_)
  show T.nd false .lst (BF (M.ds.map AM))=T.lst (M.ds.map AM);rw[AG _ (h.m M hM).sd]
 have one:∀(i k:Nat) (l:List Dr) (s:List (Nat×Nat)),FE D s->s.length<=2->∀a:List (List (Nat×Nat)×List Str),a.length<=200 ->
   let τ:=λ(a:List (List (Nat×Nat)×List Str))=>(sW Ms ts D a (some (.int (i:Int))) (some (.lst (l.map AM))) (some (.int (k:Int))) (some (Bd s)))
   (a.length+(Ct D ts s).length<=200/\GX (τ a)=some (.nx (τ (a++Ct D ts s))))\/(200<a.length+(Ct D ts s).length/\GX (τ a)=some (.xc "TooMany" (τ (a++Ct D ts s)))):=λi k l s hs hl a ha=>by
  have lc:BD (AD 0) Oq Pq (ts.map An) [none,some (B8 D),some (Bd s)]=some ((ts.filter (Ff D s)).map λt=>DH (s,t)):=Ky An (λt=>DH (s,t)) (Ff D s) (λτ=>∃a,τ=[a,some (B8 D),some (Bd s)]) ts _ ⟨none,rfl⟩ λt ht τ hI=>by
   obtain⟨x,rfl⟩:=hI;obtain⟨k1,k2⟩:=tl t ht;have sf:=sf_ok hD hD2 hs hl k1 k2;refine⟨[some (An t),some (B8 D),some (Bd s)],false,by simp![],?_,λ_=>?_,_,rfl⟩
   .unfold Oq
    simp![d1,d2,EU,G9,AW,A6,sf]
   .unfold Pq
    simp![EU,G9,AW,A6]
  have e1:(ts.filter (Ff D s)).map (λt=>DH (s,t))=(Ct D ts s).map DH:=by unfold Ct;rw[yaq];rfl
  have fl:(Ct D ts s).length<=64:=by unfold Ct;rw[ya1];exact yak (List.length_filter_le _ _) l64
  have sw:=BB (f:=DH) (L:=Ct D ts s) λw _=>J6 w
  have l1:ts.length<=100000:=by omega
  have l2:a.length+(Ct D ts s).length<=100000:=by omega
  rw[e1]at lc
  have dc:decide ((200:Int)<((((a++Ct D ts s).map DH).length:Nat):Int))=decide (200<a.length+(Ct D ts s).length):=by
   rw[ya1,yac];exact decide_eq_decide.mpr (by omega)
  have ext:GX (sW Ms ts D a (some (.int (i:Int))) (some (.lst (l.map AM))) (some (.int (k:Int))) (some (Bd s)))=Af (Bf (g2 (CI λi j=>decide (j<i))) (AB (Bf (g1 B0) (AB (AA 3) AE)) (AB (mC Fx) AE))) (Bz "TooMany" (AB (mC (.str "the whole would have more than 200 doors")) AE)) Ae (sW Ms ts D (a++Ct D ts s) (some (.int (i:Int))) (some (.lst (l.map AM))) (some (.int (k:Int))) (some (Bd s))):=by
   unfold GX;refine sq ?_ rfl;unfold sW;rw[yar]
   simp![d2,st,AG _ st,EU,ya1,l1,lc,l2,sw,AG _ sw]
  have swa:=AG _ (BB (f:=DH) (L:=a++Ct D ts s) λw _=>J6 w)
  by_cases hc:200<a.length+(Ct D ts s).length
  .rw[yf6 hc]at dc;refine .inr ⟨hc,ext.trans ?_⟩;unfold Fx
   simp![swa,dc]
  .rw[yeo hc]at dc;refine .inl ⟨by omega,ext.trans ?_⟩
   unfold Fx
   simp![swa,dc]
 have two:∀(i k:Nat) (l:List Dr),i<D.length->D.getD i []=l->k<l.length->∀(a:List (List (Nat×Nat)×List Str)) (y:Option T),a.length<=200 ->
   (a.length+(HD D ts i k).length<=200/\∃z,GY (sW Ms ts D a (some (.int (i:Int))) (some (.lst (l.map AM))) (some (.int (k:Int))) y)=some (.nx (sW Ms ts D (a++HD D ts i k) (some (.int (i:Int))) (some (.lst (l.map AM))) (some (.int (k:Int))) z)))\/(200<a.length+(HD D ts i k).length/\∃τ,GY (sW Ms ts D a (some (.int (i:Int))) (some (.lst (l.map AM))) (some (.int (k:Int))) y)=some (.xc "TooMany" τ)):=λi k l hi hl hk a y ha=>by
  have so':=so_ok hD hi (k:=k) (by rw[hl];exact hk)
  have ss:BF ((DZ D i k).map El)=(DZ D i k).map Bd:=by
   rw[Cw,yaq];refine ybk λs _=>?_
   show T.nd false .lst (BF (s.map Dp))=_;rw[G9]
  have fc:=LJ (b:=AD 7) (body:=GX) Bd (λ(a:List (List (Nat×Nat)×List Str)) τ=>∃z,τ=(sW Ms ts D a (some (.int (i:Int))) (some (.lst (l.map AM))) (some (.int (k:Int))) z)) (Ct D ts) 200 "TooMany" (DZ D i k) a (sW Ms ts D a (some (.int (i:Int))) (some (.lst (l.map AM))) (some (.int (k:Int))) y) ⟨y,rfl⟩ ha λs hs a τ hS ha=>by
   obtain⟨z,rfl⟩:=hS;obtain⟨g1,g2,_⟩:=LH hi (by rw[hl];exact hk) hs
   refine⟨(sW Ms ts D a (some (.int (i:Int))) (some (.lst (l.map AM))) (some (.int (k:Int))) (some (Bd s))),by simp![],?_⟩
   rcases one i k l s g1 g2 a ha with ⟨o1,o2⟩|⟨o1,o2⟩
   .exact .inl ⟨o1,_,o2,_,rfl⟩
   .exact .inr ⟨o1,_,o2⟩
  have e4:GY (sW Ms ts D a (some (.int (i:Int))) (some (.lst (l.map AM))) (some (.int (k:Int))) y)=B9 (AD 7) GX ((DZ D i k).map Bd) (sW Ms ts D a (some (.int (i:Int))) (some (.lst (l.map AM))) (some (.int (k:Int))) y):=by
   unfold GY
   simp![d1,d2,so',ss]
  rw[e4]
  rcases fc with ⟨o1,τ,o2,z,rfl⟩|⟨o1,τ,o2⟩
  .exact .inl ⟨o1,z,o2⟩
  .exact .inr ⟨o1,τ,o2⟩
 have fc:=LJ (b:=Ap 2 (AQ (AD 4) (AQ (AD 5) Aq))) (body:=GZ) (λ(j:Nat)=>T.tup [.int (j:Int),.lst ((D.getD j []).map AM)]) (λ(a:List (List (Nat×Nat)×List Str)) τ=>∃y4 y5 y6 y7,τ=(sW Ms ts D a y4 y5 y6 y7)) (J7 D ts) 200 "TooMany" (List.range D.length) [] [some (.lst (Ms.map AL)),some (.lst (ts.map An)),some (B8 D),some (.own []),none,none,none,none] ⟨none,none,none,none,rfl⟩ (ybr _) λi hi a τ hS ha=>by
  obtain⟨y4,y5,y6,y7,rfl⟩:=hS;have hi:=ybb.mp hi;obtain⟨l,hl,el,_⟩:=LZ hi;have sl:=hD.sl hl;have lk:=hD.k l hl;refine⟨(sW Ms ts D a (some (.int (i:Int))) (some (.lst (l.map AM))) y6 y7),by rw[el];simp![],?_⟩
  have fc:=LJ (b:=AD 6) (body:=GY) (λ(k:Nat)=>T.int (k:Int)) (λ(a:List (List (Nat×Nat)×List Str)) τ=>∃y6 y7,τ=(sW Ms ts D a (some (.int (i:Int))) (some (.lst (l.map AM))) y6 y7)) (HD D ts i) 200 "TooMany" (List.range l.length) a (sW Ms ts D a (some (.int (i:Int))) (some (.lst (l.map AM))) y6 y7) ⟨y6,y7,rfl⟩ ha λk hk a τ hS ha=>by
   obtain⟨y6,y7,rfl⟩:=hS;refine⟨(sW Ms ts D a (some (.int (i:Int))) (some (.lst (l.map AM))) (some (.int (k:Int))) y7),by simp![],?_⟩
   rcases two i k l hi el (ybb.mp hk) a y7 ha with ⟨o1,z,o2⟩|⟨o1,τ,o2⟩
   .exact .inl ⟨o1,_,o2,_,_,rfl⟩
   .exact .inr ⟨o1,τ,o2⟩
  have ok:Cq (l.length:Int)=true:=EV (by omega)
  have er:DT 0 l.length=(List.range l.length).map λ(k:Nat)=>T.int (k:Int):=Dm
  have e3:GZ (sW Ms ts D a (some (.int (i:Int))) (some (.lst (l.map AM))) y6 y7)=B9 (AD 6) GY ((List.range l.length).map λ(k:Nat)=>T.int (k:Int)) (sW Ms ts D a (some (.int (i:Int))) (some (.lst (l.map AM))) y6 y7):=by
   unfold GZ
   simp![sl,AG _ sl,ya1,ok,er]
  rw[e3,show J7 D ts i=(List.range l.length).flatMap (HD D ts i) by unfold J7;rw[el]]
  rcases fc with ⟨o1,τ,o2,z6,z7,rfl⟩|⟨o1,τ,o2⟩
  .exact .inl ⟨o1,_,o2,_,_,_,_,rfl⟩
  .exact .inr ⟨o1,τ,o2⟩
 have en:CV 0 (D.map λl=>T.lst (l.map AM))=(List.range D.length).map λ(j:Nat)=>T.tup [.int (j:Int),.lst ((D.getD j []).map AM)]:=P6 (λl:List Dr=>T.lst (l.map AM)) [] D
 have lM:Ms.length<=100000:=by have:=h.l6;omega
 have key:Kc [some (.lst (Ms.map AL)),some (.lst (ts.map An)),none,none,none,none,none,none]=AF (λ_=>B9 (Ap 2 (AQ (AD 4) (AQ (AD 5) Aq))) GZ ((List.range D.length).map λ(j:Nat)=>T.tup [.int (j:Int),.lst ((D.getD j []).map AM)]) [some (.lst (Ms.map AL)),some (.lst (ts.map An)),some (B8 D),some (.own []),none,none,none,none]) (AX (AA 3)) []:=by
  unfold Kc;refine sq (by simp![sm,AG _ sm,ya1,lM,EY,so];rfl) ?_
  refine sq (by simp![];rfl) ?_
  unfold AF
  have:B3 (DB (AB (AA 2) AE)) (Ap 2 (AQ (AD 4) (AQ (AD 5) Aq))) GZ [some (.lst (Ms.map AL)),some (.lst (ts.map An)),some (B8 D),some (.own []),none,none,none,none]=B9 (Ap 2 (AQ (AD 4) (AQ (AD 5) Aq))) GZ ((List.range D.length).map λ(j:Nat)=>T.tup [.int (j:Int),.lst ((D.getD j []).map AM)]) [some (.lst (Ms.map AL)),some (.lst (ts.map An)),some (B8 D),some (.own []),none,none,none,none]:=by
   unfold B8
   simp![DB,sD,AG _ sD,en]
  rw[this]
 rw[yb0,ycy]at fc
 rcases fc with ⟨o1,τ,o2,y4,y5,y6,y7,rfl⟩|⟨o1,τ,o2⟩
 .refine .inl ⟨o1,?_⟩;rw[ybm]at o2;unfold Gs
  simp![key,o2]
  rfl
 .refine .inr ⟨o1,?_⟩;unfold Gs
  simp![key,o2]
abbrev Rl:Stmt:=AO 50
def Pw:AJ :=
 (B5 (AB (AS Gu (AB (AA 0) AE)) (AB (AS Lh (AB (AA 1) (AB (AA 0) AE))) AE)))
def Pt:AJ :=
 (AS Li (AB (AA 2) (AB (AA 0) (AB (AA 1) AE))))
def Ke:AI :=
 (AF (AU (AS JV (AB (AA 0) AE)) (AD 1))
 (AF (AU (Ar 1 [0] (Al (AA 1)) (AD 0) (mC (.bl true)) Pw) (AD 2))
 (AF (AU (Ar 2 [0] (Al (AS Gs (AB (AA 0) (AB (AA 1) AE)))) (Ap 2 (AQ (AD 0) (AQ (AD 1) Aq))) (mC (.bl true)) Pt) (AD 3))
 (AX (Fv GO [] (AB (AS ID (AB (AA 0) AE)) (AB (AA 2) (AB (AA 3) AE))))))))
def Hv:List T->Option Ru:=Ac 1 4 Ke
abbrev Wm:Fn:=⟨8,["machines"],Hv⟩
abbrev zcu:Gx:=⟨[],[],[],[("Machine",PZ,[(3,[])])],false,true,true,none,[],[],[],true,[],[],[],[],[],[],[],[]⟩
abbrev zd3:Gm:=⟨["machines","takings","rooms","doors"],(A2 Rl).names,["machines"],7,[("checked_takings",PV),("whole_name",LK),("whole_stay",Wk),("whole_ways",PC),("whole_door",Wl),("all_watches",PX)],[],[],[],[],false,[],[],[],zcu⟩
theorem zdd:Ck zd3 Wm Rl Ke:={}
theorem Qw:∀(rss ts:List (List Str)) (u v:List Str),u∈ts->v.length=rss.length->(∀(i:Nat) (r:Str),v[i]?=some r->∃rs,rss[i]?=some rs/\r∈rs)->u++v∈rss.foldl Bj ts
 |[],ts,u,[],hu,_,_=>by rw[yay];exact hu
 |[],_,_,_::_,_,h,_=>by cases h
 |_::_,_,_,[],_,h,_=>by cases h
 |rs::rss,ts,u,r::v,hu,hl,hv=>by
  obtain⟨rs',e,hr⟩:=hv 0 r rfl;cases e;have:=Qw rss (Bj ts rs) (u++[r]) v (yap.mpr ⟨u,hu,yag.mpr ⟨r,hr,rfl⟩⟩) (by simpa using hl) λi x e=>by simpa using hv (i+1) x (by simpa using e)
  rw[ybp]at this;exact this
theorem zlc{rss:List (List Str)}{t:List Str}(hl:t.length=rss.length)(h:∀(i:Nat) (r:Str),t[i]?=some r->∃rs,rss[i]?=some rs/\r∈rs):t∈tak rss:=Qw rss [[]] [] t (ya8.mpr rfl) hl h
theorem Qv:∀(rss ts:List (List Str)),ts≠[]->(∀rs∈rss,rs≠[])->rss.foldl Bj ts≠[]
 |[],_,h,_=>h
 |rs::rss,ts,h,hr=>by
  refine Qv rss (Bj ts rs) (λz=>?_) λx hx=>hr x (ya4 _ hx)
  obtain⟨t,ht⟩:=List.exists_mem_of_ne_nil ts h;obtain⟨r,hr'⟩:=List.exists_mem_of_ne_nil rs (hr rs (ya5 ..));have:t++[r]∈Bj ts rs:=yap.mpr ⟨t,ht,yag.mpr ⟨r,hr',rfl⟩⟩;rw[z]at this;cases this
def BS(Ms:List Mc):Mc:=⟨Ms.flatMap Mc.ws,(Aa Ms).map λt=>(Av t,EM Ms t),(Bb (AV Ms) (Aa Ms)).map (FK (AV Ms))⟩
structure FwOk(Ms:List Mc):Prop where
 y:∀M∈Ms,∀r∈M.rs,r.2.length<=100
 g:∀M∈Ms,∀d∈M.ds,d.g.length<=100
 n:∀M∈Ms,∀d∈M.ds,d.n.length<=40
theorem zij{M:Mc}(hy:∀r∈M.rs,r.2.length<=100)(r:Str):(BU M r).length<=100:=by
 unfold BU;cases hf:M.rs.find? (λx=>decide (x.1=r)) with
 |none=>exact ybr _
 |some x=>exact hy x (yd3 hf)
theorem zl2{Ms:List Mc}(hd:(Ms.flatMap Mc.ws).Nodup){j:Nat}{M N:Mc}(h1:Ms[i]?=some M)(h2:Ms[j]?=some N)(hij:i≠j)(hx:x∈M.ws)(hy:y∈N.ws):x≠y:=by
 have:=(List.pairwise_flatMap.mp hd).2;obtain⟨i1,rfl⟩:=ya6.mp h1;obtain⟨j1,rfl⟩:=ya6.mp h2
 rcases Nat.lt_or_gt_of_ne hij with h|h
 .exact List.pairwise_iff_getElem.mp this i j i1 j1 h x hx y hy
 .exact λz=>List.pairwise_iff_getElem.mp this j i j1 i1 h y hy x hx z.symm
theorem MR{Ms:List Mc}(h:MsOk Ms)(hr:RmOk Ms)(hf:FwOk Ms)(hw:(Bb (AV Ms) (Aa Ms)).length<=200):McOk (BS Ms):=by
 have hin:∀M∈Ms,∀x∈M.ws,x∈Ms.flatMap Mc.ws:=λM hM x hx=>yap.mpr ⟨M,hM,hx⟩
 have en:(BS Ms).rs.map (·.1)=(Aa Ms).map Av:=by unfold BS;rw[yaq];rfl
 refine⟨λx hx=>?_,h.wd,h.wl,⟨?_,?_,λr hr'=>?_,by rw[en];exact hr.d,λr hr'=>?_⟩,λd hd=>?_,by unfold BS;rw[ya1];exact hw⟩
 .obtain⟨M,hM,hx⟩:=yap.mp hx;exact(h.m M hM).w x hx
 .show 1<=((Aa Ms).map _).length;rw[ya1];refine List.length_pos_iff.mpr (Qv _ _ (by simp) λrs hrs=>?_)
  obtain⟨M,hM,rfl⟩:=yag.mp hrs;have:=(h.m M hM).r.l1;exact λz=>by unfold Mc.nm at z;rw[List.map_eq_nil_iff]at z;rw[z]at this;exact absurd this (by decide)
 .show((Aa Ms).map _).length<=64;rw[ya1];have:=hr.k Ms.length (yae _)
  rwa[ycb]at this
 .obtain⟨t,ht,rfl⟩:=yag.mp hr';exact hr.n t ht
 .obtain⟨t,ht,rfl⟩:=yag.mp hr';have key:=λ(x:Mc×Str) hx=>(MN h hr ht (x:=x) hx)
  refine⟨λu hu=>?_,?_⟩
  .obtain⟨x,hx,hu⟩:=yap.mp hu;obtain⟨k1,k2⟩:=key x hx;exact(Fe (h.m _ k1) k2).2.2.2.more (hin _ k1) u hu
  .have:=GI (g:=λx:Mc×Str=>BU x.1 x.2) (m:=100) (L:=Ms.zip t) λx hx=>zij (hf.y _ (key x hx).1) _
   have zl:(Ms.zip t).length<=6:=by rw[ydv];have:=h.l6;omega
   show((Ms.zip t).flatMap λx=>BU x.1 x.2).length<=1000
   omega
 .obtain⟨w,hwm,rfl⟩:=yag.mp hd;obtain⟨ht,i,k,hi,hk,hs,_⟩:=MP hwm;obtain⟨g1,g2,g3⟩:=LH hi hk hs;obtain⟨t1,t2,t3,t4⟩:=hr.t h ht;have at':=λp hp=>L3 h.m g1 (p:=p) hp
  rw[en];refine⟨yag.mpr ⟨_,ht,rfl⟩,yag.mpr ⟨_,zlc ?_ λi r e=>?_,rfl⟩,λu hu=>?_,?_,λx hx=>?_,?_,?_,.inl rfl⟩
  .rw[LX,t1,ya1]
  .rcases Pa _ _ _ i r e with e|⟨p,hp,rfl,rfl⟩
   .obtain⟨M,e1,e2⟩:=t4 i r e;exact⟨M.nm,by rw[ya3,e1];rfl,e2⟩
   .obtain⟨M,hM,e1,_,kk⟩:=at' p hp;exact⟨M.nm,by rw[ya3,e1];rfl,kk.e⟩
  .obtain⟨p,hp,hu⟩:=yap.mp hu;obtain⟨M,hM,_,_,kk⟩:=at' p hp;exact kk.g.more (hin M hM) u hu
  .have:=GI (g:=λp:Nat×Nat=>(Au (AV Ms) p.1 p.2).g) (m:=100) (L:=w.1) λp hp=>by
    obtain⟨M,hM,_,e2,_⟩:=at' p hp;exact hf.g M hM _ (yab e2)
   show(GF (AV Ms) w.1).length<=1000;unfold GF
   omega
  .obtain⟨p,hp,hx⟩:=yap.mp hx;obtain⟨M,hM,_,_,kk⟩:=at' p hp;exact hin M hM x (kk.n x hx)
  .show(DW (AV Ms) w.1).Nodup;unfold DW
   rcases g3 with e|⟨j,m,hj,e⟩
   .rw[e]at at' ⊢;obtain⟨M,hM,_,_,kk⟩:=at' (i,k) (ya8.mpr rfl)
    simpa using kk.nd
   .rw[e]at at' ⊢;obtain⟨M,hM,e1,_,kk⟩:=at' (i,k) (ya5 ..);obtain⟨N,hN,e2,_,kk2⟩:=at' (j,m) (ya4 _ (ya8.mpr rfl));rw[yat,yat,yc3,yay];exact yde.mpr ⟨kk.nd,kk2.nd,λx hx y hy=>zl2 h.wd e1 e2 (ybc hj) (kk.n x hx) (kk2.n y hy)⟩
  .have:=GI (g:=λp:Nat×Nat=>(Au (AV Ms) p.1 p.2).n) (m:=40) (L:=w.1) λp hp=>by
    obtain⟨M,hM,_,e2,_⟩:=at' p hp;exact hf.n M hM _ (yab e2)
   show(DW (AV Ms) w.1).length<=100;unfold DW
   omega
theorem zl8{Ms:List Mc}(h:MsOk Ms)(hr:RmOk Ms)(hf:FwOk Ms):((Bb (AV Ms) (Aa Ms)).length<=200/\Hv [.lst (Ms.map AL)]=some (.ok (AL (BS Ms))))\/(200<(Bb (AV Ms) (Aa Ms)).length/\Hv [.lst (Ms.map AL)]=some (.exc "TooMany")):=by
 have sm:=Et h.m;have ct:=Xx h hr;have st:=G2 (Aa Ms);have l64:(Aa Ms).length<=64:=by have:=hr.k Ms.length (yae _);rwa[ycb]at this
 have ll:(Aa Ms).length<=100000:=by omega
 have ss:∀t∈Aa Ms,A3 (EM Ms t)=true:=λt ht=>by
  rw[DK,yal];intro u hu;obtain⟨x,hx,hu⟩:=yap.mp hu;obtain⟨k1,k2⟩:=MN h hr ht hx;have:=(Fe (h.m _ k1) k2).2.1;rw[DK,yal]at this;exact this u hu
 have EY:BD (AD 0) (mC (.bl true)) Pw ((Aa Ms).map An) [none,some (.lst (Ms.map AL))]=some ((Aa Ms).map λt=>BX (Av t,EM Ms t)):=Bv An (λt=>BX (Av t,EM Ms t)) (λτ=>∃a,τ=[a,some (.lst (Ms.map AL))]) _ _ ⟨none,rfl⟩ λt ht τ hI=>by
  obtain⟨a,rfl⟩:=hI;obtain⟨_,k1,k2,_⟩:=hr.t h ht;have w1:=J8 (o:=false) k1 k2;have w2:=zl1 h hr ht;exact⟨[some (An t),some (.lst (Ms.map AL))],by simp![],by unfold Pw;simp![sm,AG _ sm,AW,A6,w1,w2,AG _ (ss t ht)],_,rfl⟩
 have er:(Aa Ms).map (λt=>BX (Av t,EM Ms t))=(BS Ms).rs.map BX:=by unfold BS;rw[yaq];rfl
 rw[er]at EY
 have sr:A3 ((BS Ms).rs.map BX)=true:=BB λr hr'=>by
  obtain⟨t,ht,rfl⟩:=yag.mp hr'
  simp![ss t ht]
 rcases Qc h hr with ⟨w1,w2⟩|⟨w1,w2⟩
 .have ok:=MR h hr hf w1;have mi:GO [.lst ((BS Ms).ws.map T.str),ET (BS Ms).rs,.lst ((BS Ms).ds.map AM)]=some (.ok (AL (BS Ms))):=V7 ok;have aw:ID [.lst (Ms.map AL)]=some (.ok (.own ((BS Ms).ws.map T.str))):=Y4 h.m (by have:=h.wl;omega)
  have sw:=BB (f:=DH) (L:=Bb (AV Ms) (Aa Ms)) λw _=>J6 w
  have lc2:BD (Ap 2 (AQ (AD 0) (AQ (AD 1) Aq))) (mC (.bl true)) Pt ((Bb (AV Ms) (Aa Ms)).map DH) [none,none,some (.lst (Ms.map AL))]=some ((BS Ms).ds.map AM):=by
   have e0:(BS Ms).ds.map AM=(Bb (AV Ms) (Aa Ms)).map λw=>AM (FK (AV Ms) w):=by unfold BS;rw[yaq];rfl
   rw[e0]
   exact Bv DH (λw=>AM (FK (AV Ms) w)) (λτ=>∃a b,τ=[a,b,some (.lst (Ms.map AL))]) _ _ ⟨none,none,rfl⟩ λw hw τ hI=>by
    obtain⟨a,b,rfl⟩:=hI;obtain⟨ht,i,k,hi,hk,hs,_⟩:=MP hw;obtain⟨g1,g2,_⟩:=LH hi hk hs;have wd:=wd_ok h hr ht g1 g2;exact⟨[some (Bd w.1),some (An w.2),some (.lst (Ms.map AL))],by simp![],by unfold Pt;simp![sm,AG _ sm,AW,A6,EU,G9,wd],_,_,rfl⟩
  have l2:(Bb (AV Ms) (Aa Ms)).length<=100000:=by omega
  have sd:=ok.sd;refine .inl ⟨w1,?_⟩;unfold Hv Ke
  simp![sm,AG _ sm,ct,st,AG _ st,ya1,ll,EY,sr,AG _ sr,w2,sw,AG _ sw,l2,lc2,sd,AG _ sd,aw,A6,AW,mi]
 .refine .inr ⟨w1,?_⟩;unfold Hv Ke
  simp![sm,AG _ sm,ct,st,AG _ st,ya1,ll,EY,sr,AG _ sr,w2]
abbrev Rw:Stmt:=AO 51
def QB:AJ :=
 (m1 CK (AA 0))
def Kj:AI :=
 (AF (AU (AS JV (AB (AA 0) AE)) (AD 1))
 (AX (Ar 2 [] (Al (AS Gs (AB (AA 0) (AB (AA 1) AE)))) (Ap 2 (AQ (AD 0) (AQ (AD 1) Aq))) (mC (.bl true)) QB)))
def Fc:List T->Option Ru:=Ac 1 2 Kj
abbrev Wu:Fn:=⟨5,["machines"],Fc⟩
abbrev zf7:Gx:=⟨[],[],[],[],false,true,true,none,[],[],[],true,[],[],[],[],[],[],[],[]⟩
abbrev zfe:Gm:=⟨["machines","takings"],(A2 Rw).names,[],4,[("checked_takings",PV),("whole_ways",PC)],["list"],[],[],[],false,[],[],[],zf7⟩
theorem zfq:Ck zfe Wu Rw Kj:={}
theorem zlo{Ms:List Mc}(h:MsOk Ms)(hr:RmOk Ms):((Bb (AV Ms) (Aa Ms)).length<=200/\Fc [.lst (Ms.map AL)]=some (.ok (.own ((Bb (AV Ms) (Aa Ms)).map λw=>El w.1))))\/(200<(Bb (AV Ms) (Aa Ms)).length/\Fc [.lst (Ms.map AL)]=some (.exc "TooMany")):=by
 have sm:=Et h.m;have ct:=Xx h hr;have st:=G2 (Aa Ms)
 rcases Qc h hr with ⟨w1,w2⟩|⟨w1,w2⟩
 .have sw:=BB (f:=DH) (L:=Bb (AV Ms) (Aa Ms)) λw _=>J6 w
  have l2:(Bb (AV Ms) (Aa Ms)).length<=100000:=by omega
  have lc:BD (Ap 2 (AQ (AD 0) (AQ (AD 1) Aq))) (mC (.bl true)) QB ((Bb (AV Ms) (Aa Ms)).map DH) [none,none]=some ((Bb (AV Ms) (Aa Ms)).map λw=>El w.1):=Bv DH (λw=>El w.1) (λτ=>∃a b,τ=[a,b]) _ _ ⟨none,none,rfl⟩ λw hw τ hI=>by
   obtain⟨a,b,rfl⟩:=hI;exact⟨[some (Bd w.1),some (An w.2)],by simp![],by unfold QB;simp![EU,G9],_,_,rfl⟩
  refine .inl ⟨w1,?_⟩;unfold Fc Kj
  simp![sm,AG _ sm,ct,st,AG _ st,ya1,w2,sw,AG _ sw,l2,lc]
 .refine .inr ⟨w1,?_⟩;unfold Fc Kj
  simp![sm,AG _ sm,ct,st,AG _ st,w2]
abbrev SY:Stmt:=AO 9
def HL:AJ :=
 (m2 By (AA 3) (mC (.int 0)))
def MW:AI :=
 (AF (AU (m2 BO (AA 2) (AA 3)) (AD 4))
 (AF (AU (AA 3) (AD 2))
 (AU (AA 4) (AD 3))))
def OB:AI :=
 (AF (AU (m1 Gq (AA 0)) (AD 2))
 (AF (AU (m1 Gq (AA 1)) (AD 3))
 (AF (Em HL MW)
 (AX (AA 2)))))
def Lv:List T->Option Ru:=Ac 2 5 OB
abbrev XC:Fn:=⟨1,["one","other"],Lv⟩
abbrev za1:Gx:=⟨[],[],[],[],false,true,true,none,[],[],[],true,[],[],[],[],[],[],[],[]⟩
abbrev za2:Gm:=⟨["one","other","greater","lesser","rest"],(A2 SY).names,[],0,[],["abs"],[],[],[],false,[],[],[],za1⟩
theorem za3:Ck za2 XC SY OB:={}
theorem gd_ok(a b:Int):Lv [.int a,.int b]=some (.ok (.int (Zm.gd a b))):=by
 have loop:=Sx (mc:=HL) (body:=MW)
  (τ:=[some (.int a),some (.int b),some (.int (if a<0 then -a else a)),some (.int (if b<0 then -b else b)),none])
  (λτ=>∃(g l:Int) (r:Option T),τ=[some (.int a),some (.int b),some (.int g),some (.int l),r]/\0<=g/\0<=l/\Zm.gd g l=Zm.gd a b)
  (λτ=>match τ with|[_,_,_,some (.int l),_]=>l.natAbs|_=>0)
  ⟨_,_,none,rfl,by split<;>omega,by split<;>omega,Zm.gd_abs a b⟩ (by
   rintro τ ⟨g,l,r,rfl,hg,hl,e⟩
   by_cases h0:l=0
   .right;exact⟨false,by unfold HL;simp![E8,h0]⟩
   .left;refine⟨false,by unfold HL;simp![E8];simp[h0],[some (.int a),some (.int b),some (.int l),some (.int (g.fmod l)),some (.int (g.fmod l))],by unfold MW;simp![h0],⟨_,_,_,rfl,hl,?_,?_⟩,?_⟩
    .exact yb3 g (by omega)
    .exact Zm.gd_turn e
    .exact Zm.fmod_less g h0)
 obtain⟨τ',e1,⟨g,l,r,rfl,hg,hl,e⟩,bb,e2⟩:=loop
 have hl0:l=0:=by
  have e3:HL [some (.int a),some (.int b),some (.int g),some (.int l),r]=some (.v (.bl (!(l == 0))) false):=by unfold HL;simp![E8]
  rw[e3]at e2;exact(by simpa using e2:l=0/\bb=false).1
 have hgd:g=Zm.gd a b:=by
  rw[<- e,hl0];unfold Zm.gd;rw[Int.gcd_zero_right]
  omega
 unfold Lv OB
 simp![e1]
 rw[hgd]
abbrev KP:Stmt:=AO 10
def OC:AI :=
 (AF (Af (Bu (Ay (AS Hy (AB (AA 0) AE))) (Ay (AS Hy (AB (AA 1) AE)))) (Bz "NoNumber" (AB (mC (.str "a fraction is made of two whole numbers")) AE)) Ae)
 (AF (Af (m2 Bn (AA 1) (mC (.int 0))) (Bz "NoNumber" (AB (mC (.str "the bottom of a fraction is not 0")) AE)) Ae)
 (AF (AU (AS Lv (AB (AA 0) (AB (AA 1) AE))) (AD 2))
 (AF (Af (m2 (CI λi j=>decide (i<j)) (AA 1) (mC (.int 0))) (AU (m1 Er (AA 2)) (AD 2)) Ae)
 (AX (B5 (AB (m2 CN (AA 0) (AA 2)) (AB (m2 CN (AA 1) (AA 2)) AE))))))))
def IC:List T->Option Ru:=Ac 2 3 OC
abbrev XD:Fn:=⟨2,["top","bottom"],IC⟩
abbrev zcz:Gx:=⟨[],[],[],[],false,true,true,none,[],[],[],true,[],[],[],[],[],[],[],[]⟩
abbrev WZ:Gm:=⟨["top","bottom","divisor"],(A2 KP).names,[],1,[("is_whole",PK),("greatest_divisor",XC)],[],["NoNumber"],[],[],false,[],[],[],zcz⟩
theorem YC:Ck WZ XD KP OC:={}
theorem fr_ok{t b:Int}(hb:0<b)(hs:b<10 ^ 70):IC [.int t,.int b]=some (.ok (fr (Zm.lt t b) (Zm.lb t b))):=by
 have g0:0<Zm.gd t b:=Zm.gd_pos (by omega)
 have g1:Zm.gd t b<=b:=Zm.gd_le hb;have gs:CD (Zm.gd t b)=true:=Co (by omega (config:={})) (by omega (config:={}))
 have n0:(b == 0)=false:=by simp;omega
 have n1:decide (b<0)=false:=by simp;omega
 have n2:(Zm.gd t b≠0)=True:=by simp;omega
 unfold IC OC
 simp![Qf,gd_ok,GJ,n0,n1,gs,n2]
 simp[BP,Zm.lt,Zm.lb]
abbrev Rz:Stmt:=AO 11
def Nl:AI :=
 (AX (AS IC (AB (m2 BL (m2 Be (AY (AA 0) (mC (.int 0))) (AY (AA 1) (mC (.int 1)))) (m2 Be (AY (AA 1) (mC (.int 0))) (AY (AA 0) (mC (.int 1))))) (AB (m2 Be (AY (AA 0) (mC (.int 1))) (AY (AA 1) (mC (.int 1)))) AE))))
def Lo:List T->Option Ru:=Ac 2 2 Nl
abbrev Wv:Fn:=⟨3,["one","other"],Lo⟩
abbrev zkh:Gx:=⟨[],[],[],[],false,true,true,none,[],[],[],true,[],[],[],[],[],[],[],[]⟩
abbrev zkl:Gm:=⟨["one","other"],(A2 Rz).names,[],2,[("fraction",XD)],[],[],[],[],false,[],[],[],zkh⟩
theorem zkv:Ck zkl Wv Rz Nl:={}
theorem zhc{t b:Int}(hb:0<b)(hc:0<c)(h:t * c=u * b):Zm.lt t b=Zm.lt u c/\Zm.lb t b=Zm.lb u c:=by
 have b0:b≠0:=by omega
 have c0:c≠0:=by omega
 have g1:=Zm.gd_low (t:=t) b0;have g2:=Zm.gd_low (t:=u) c0;have p1:=Zm.lb_pos (t:=t) hb;have p2:=Zm.lb_pos (t:=u) hc;have k1:=Zm.gd_pos (a:=t) b0;have k2:=Zm.gd_pos (a:=u) c0;have e1:=Zm.lt_mul (t:=t) b0;have e2:=Zm.lb_mul (t:=t) b0;have e3:=Zm.lt_mul (t:=u) c0;have e4:=Zm.lb_mul (t:=u) c0;generalize Zm.lt t b=x at *;generalize Zm.lb t b=y at *;generalize Zm.lt u c=z at *;generalize Zm.lb u c=w at *;generalize Zm.gd t b=g at *;generalize Zm.gd u c=k at *
 have e:x * w=z * y:=by
  have q:(x * w) * (g * k)=(z * y) * (g * k):=by
   rw[<- e1,<- e2,<- e3,<- e4]at h
   calc (x * w) * (g * k)=x * g * (w * k):=by simp only[ycl,ydf,yce]
    _=z * k * (y * g):=h
    _=(z * y) * (g * k):=by simp only[ycl,ydf,yce]
  exact Int.eq_of_mul_eq_mul_right (Int.ne_of_gt (Int.mul_pos k1 k2)) q
 unfold Zm.gd at g1 g2;have g1:Int.gcd x y=1:=by omega
 have g2:Int.gcd z w=1:=by omega
 have d1:y ∣ w:=by
  have:y ∣ x * w:=⟨z,by rw[e,yce]⟩
  have:=Int.dvd_gcd_mul_iff_dvd_mul.mpr this;rw[Int.gcd_comm,g1]at this
  simpa using this
 have d2:w ∣ y:=by
  have:w ∣ z * y:=⟨x,by rw[<- e,yce]⟩
  have:=Int.dvd_gcd_mul_iff_dvd_mul.mpr this;rw[Int.gcd_comm,g2]at this
  simpa using this
 have yw:y=w:=by
  have:=Int.le_of_dvd p2 d1;have:=Int.le_of_dvd p1 d2
  omega
 subst yw;exact⟨Int.eq_of_mul_eq_mul_right (by omega) e,rfl⟩
abbrev Bi(P v:Int):T:=fr (Zm.lt v P) (Zm.lb v P)
theorem Kz{v:Int}(h1:0<P)(h2:P<=100):0<Zm.lb v P/\Zm.lb v P<=100/\ES (Zm.lb v P)=true:=by
 have a:=Zm.lb_pos (t:=v) h1;have b:=Zm.lb_le (t:=v) h1;exact⟨a,by omega,Ce (by omega) (by omega)⟩
theorem plP{v w:Int}(h1:0<P)(h2:P<=100):Lo [Bi P v,Bi P w]=some (.ok (Bi P (v+w))):=by
 obtain⟨a1,a2,a3⟩:=Kz (v:=v) h1 h2;obtain⟨b1,b2,b3⟩:=Kz (v:=w) h1 h2;have p0:P≠0:=by omega
 have e1:=Zm.lt_mul (t:=v) p0;have e2:=Zm.lb_mul (t:=v) p0;have e3:=Zm.lt_mul (t:=w) p0;have e4:=Zm.lb_mul (t:=w) p0;have k1:=Zm.gd_pos (a:=v) p0;have k2:=Zm.gd_pos (a:=w) p0;have hp:=Int.mul_pos a1 b1
 have hs:Zm.lb v P * Zm.lb w P<10 ^ 70:=by
  have:=Int.mul_le_mul a2 b2 (by omega) (by omega)
  omega
 have key:(Zm.lt v P * Zm.lb w P+Zm.lt w P * Zm.lb v P) * P=(v+w) * (Zm.lb v P * Zm.lb w P):=by
  have q1:Zm.lt v P * P=v * Zm.lb v P:=Zm.cross k1 e1 e2;have q2:Zm.lt w P * P=w * Zm.lb w P:=Zm.cross k2 e3 e4
  calc (Zm.lt v P * Zm.lb w P+Zm.lt w P * Zm.lb v P) * P=Zm.lt v P * P * Zm.lb w P+Zm.lt w P * P * Zm.lb v P:=by rw[Int.add_mul];simp only[ycl,ydf,yce]
   _=v * Zm.lb v P * Zm.lb w P+w * Zm.lb w P * Zm.lb v P:=by rw[q1,q2]
   _=(v+w) * (Zm.lb v P * Zm.lb w P):=by rw[Int.add_mul];simp only[ycl,ydf,yce]
 obtain⟨s1,s2⟩:=zhc hp h1 key;have m1:=FU (i:=Zm.lt v P) b3;have m2:=FU (i:=Zm.lt w P) a3;have m3:=FU (i:=Zm.lb v P) b3;have f:=fr_ok (t:=Zm.lt v P * Zm.lb w P+Zm.lt w P * Zm.lb v P) hp hs;rw[s1,s2]at f;unfold Lo Nl
 simp![m1,m2,m3,f]
abbrev Rk:Stmt:=AO 12
def Ni:AI :=
 (AX (m2 (CI λi j=>decide (i<j)) (m2 Be (AY (AA 0) (mC (.int 0))) (AY (AA 1) (mC (.int 1)))) (m2 Be (AY (AA 1) (mC (.int 0))) (AY (AA 0) (mC (.int 1))))))
def Hu:List T->Option Ru:=Ac 2 2 Ni
abbrev PD:Fn:=⟨1,["one","other"],Hu⟩
abbrev zhi:Gx:=⟨[],[],[],[],false,true,true,none,[],[],[],true,[],[],[],[],[],[],[],[]⟩
abbrev zhm:Gm:=⟨["one","other"],(A2 Rk).names,[],0,[],[],[],[],[],false,[],[],[],zhi⟩
theorem zhz:Ck zhm PD Rk Ni:={}
theorem Mb{a b d:Int}(h1:CA a d=true)(h2:CA c b=true):Hu [fr a b,fr c d]=some (.ok (.bl (decide (a * d<c * b)))):=by
 unfold Hu Ni
 simp![h1,h2]
abbrev Ro:Stmt:=AO 19
def Kf:AI :=
 (AF (AU (B5 (AB (AA 2) (AB (mC (.int 1)) AE))) (AD 3))
 (AF (AU (AS Hu (AB (AA 0) (AB (AA 3) AE))) (AD 4))
 (AF (AU (AS Hu (AB (AA 3) (AB (AA 0) AE))) (AD 5))
 (AF (Af (m2 Bn (AA 1) (mC (.str "<"))) (AX (AA 4)) Ae)
 (AF (Af (m2 Bn (AA 1) (mC (.str "<="))) (AX (Ay (AA 5))) Ae)
 (AF (Af (m2 Bn (AA 1) (mC (.str ">"))) (AX (AA 5)) Ae)
 (AF (Af (m2 Bn (AA 1) (mC (.str ">="))) (AX (Ay (AA 4))) Ae)
 (AX (CP (Ay (AA 4)) (Ay (AA 5)))))))))))
def Ll:List T->Option Ru:=Ac 3 6 Kf
abbrev Wp:Fn:=⟨2,["value","word","number"],Ll⟩
abbrev zc6:Gx:=⟨[],[],[],[],false,true,true,none,[],[],[],true,[],[],[],[],[],[],[],[]⟩
abbrev zce:Gm:=⟨["value","word","number","edge","less","more"],(A2 Ro).names,[],1,[("under",PD)],[],[],[],[],false,[],[],[],zc6⟩
theorem zcj:Ck zce Wp Ro Kf:={}
noncomputable def Cm(y:Str)(n t b:Int):Bool :=
 if y=Str.ofString "<" then decide (t<n * b) else if y=Str.ofString "<=" then !decide (n * b<t) else if y=Str.ofString ">" then decide (n * b<t) else if y=Str.ofString ">=" then !decide (t<n * b) else !decide (t<n * b) && !decide (n * b<t)
theorem DJ{r:Option Out}(h:f τ=some (.nx τ))(h2:g τ=r):AF f g τ=r:=sq h h2
theorem sr{t:T}(h:f τ=some (.rt t)):AF f g τ=some (.rt t):=by
 unfold AF;rw[h]
theorem Ja:∀x∈DR,∀y∈DR,Bn (.str x) (.str y)=some (.bl (decide (x=y))):=λx hx y hy=>F9 (J9 x hx) (J9 y hy)
theorem so42(hy:y∈DR){n t b:Int}(hb:ES b=true):Ll [fr t b,.str y,.int n]=some (.ok (.bl (Cm y n t b))):=by
 have m1:CA t 1=true:=FU (Ce (by decide) (by decide))
 have m2:CA n b=true:=FU hb;have u1:=Mb (a:=t) (b:=b) (c:=n) (d:=1) m1 m2;have u3:=Mb (a:=n) (b:=1) (c:=t) (d:=b) m2 m1;rw[Int.mul_one]at u1 u3;have e1:=Ja y hy (Str.ofString "<") (by decide +kernel)
 have e2:=Ja y hy (Str.ofString "<=") (by decide +kernel)
 have e3:=Ja y hy (Str.ofString ">") (by decide +kernel)
 have e4:=Ja y hy (Str.ofString ">=") (by decide +kernel)
 unfold Ll
 suffices key:Kf [some (fr t b),some (.str y),some (.int n),none,none,none]=some (.rt (.bl (Cm y n t b))) by simp![key]
 unfold Cm Kf;generalize decide (t<n * b)=A at *;generalize decide (n * b<t)=B at *;refine sq (by simp![];rfl) ?_
 refine sq (by simp![u1];rfl) ?_
 refine sq (by simp![u3];rfl) ?_
 clear u1 u3 m1 m2
 by_cases q1:y=Str.ofString "<"
 .simp![e1,eq_true q1]
 .refine DJ (by simp![e1,q1]) ?_
  by_cases q2:y=Str.ofString "<="
  .simp![e2,q1,eq_true q2]
  .refine DJ (by simp![e2,q2]) ?_
   by_cases q3:y=Str.ofString ">"
   .simp![e3,q1,q2,eq_true q3]
   .refine DJ (by simp![e3,q3]) ?_
    by_cases q4:y=Str.ofString ">="
    .simp![e4,q1,q2,q3,eq_true q4]
    .refine DJ (by simp![e4,q4]) ?_
     cases A<;>cases B<;>simp![q1,q2,q3,q4]
theorem soP{v:Int}(h1:0<P)(y:Str)(n:Int):Cm y n (Zm.lt v P) (Zm.lb v P)=Cm y n v P:=by
 have p0:P≠0:=by omega
 have e1:=Zm.lt_mul (t:=v) p0;have e2:=Zm.lb_mul (t:=v) p0;have k1:=Zm.gd_pos (a:=v) p0
 have a:(Zm.lt v P<n * Zm.lb v P) ↔ (v<n * P):=by
  rw[<- Int.mul_lt_mul_right k1,ycl,e1,e2]
 have b:(n * Zm.lb v P<Zm.lt v P) ↔ (n * P<v):=by
  rw[<- Int.mul_lt_mul_right k1,ycl,e1,e2]
 unfold Cm;simp only[a,b]
abbrev NB:Stmt:=Cs 31 5
def OO:AI :=
 (AX (m2 BL (Gg (B7 A5 Ag 0 (AA 0)) (AA 1)) (mC (.int 1))))
def GN:List T->Option Ru:=Ac 2 2 OO
abbrev PY:Fn:=⟨1,["self","name"],GN⟩
abbrev za0:Gx:=⟨[],[("Machine",A5,Ag)],[],[],false,true,true,none,[],[],[],true,[],[],[],[],[],[],[],[]⟩
abbrev W3:Gm:=⟨["self","name"],(A2 NB).names,[],0,[],[],[],[],[],false,[],[],[],za0⟩
theorem YE:Ck W3 PY NB OO:={}
theorem V2{M:Mc}(h:McOk M){j:Nat}(e:Bm M.ws x=some j):GN [EG M,.str x]=some (.ok (.int ((j:Int)+1))):=by
 have l1:M.ws.length<1000000:=by have:=h.wl;omega
 unfold GN OO
 simp![A6,AW,HQ,h.ss,h.sd,AG _ h.ss,AG _ h.sd,e,l1]
abbrev SA:Stmt:=AO 37
def QC:AJ :=
 (B5 (AB (Bl A5 Ag GN (AA 3) (AB (AA 0) AE)) (AB (AA 1) (AB (AA 2) AE))))
def Nm:AI :=
 (AF (AU (Bl A5 Ag Eg (AA 0) AE) (AD 2))
 (AF (Af (Ay (AS IB (AB (AA 1) (AB (AA 2) (AB (mC Ir) AE))))) (Bz "NoMark" (AB (mC (.str "a guard is a list of looks at the machine's watches")) AE)) Ae)
 (AX (Ar 3 [0] (Al (AA 1)) (Ap 3 (AQ (AD 0) (AQ (AD 1) (AQ (AD 2) Aq)))) (mC (.bl true)) QC))))
def Hx:List T->Option Ru:=Ac 2 3 Nm
abbrev PH:Fn:=⟨5,["machine","guard"],Hx⟩
abbrev zf8:Gx:=⟨[("WORDS",Ir)],[],[("watches",A5,Ag,Hi),("watch_number",A5,Ag,PY)],[],false,true,true,none,[],[],[],true,[],[],[],[],[],[],[],[]⟩
abbrev zff:Gm:=⟨["machine","guard","watches"],(A2 SA).names,["machine"],4,[("is_guard",LN)],[],["NoMark"],[],[],false,[],[],[],zf8⟩
theorem zfr:Ck zff PH SA Nm:={}
def FX:T->Str
 |.nd _ _ (.str x::_)=>x
 |_=>Str.empty
def Gh:T->Str
 |.nd _ _ (_::.str y::_)=>y
 |_=>Str.empty
def CT:T->Int
 |.nd _ _ (_::_::.int n::_)=>n
 |_=>0
theorem Vn{t:T}(h:∃x y n,t=.tup [.str x,.str y,.int n]/\x∈ws/\y∈wd/\0<=n):t=.tup [.str (FX t),.str (Gh t),.int (CT t)]/\FX t∈ws/\Gh t∈wd/\0<=CT t:=by
 obtain⟨x,y,n,rfl,h1,h2,h3⟩:=h;exact⟨rfl,h1,h2,h3⟩
def Fq(ws:List Str)(t:T):T:=.tup [.int (((Bm ws (FX t)).getD 0:Int)+1),.str (Gh t),.int (CT t)]
theorem Gj(h:x∈ws):∃j,Bm ws x=some j/\∃hj:j<ws.length,ws[j]=x:=by
 unfold Bm;cases e:List.findIdx? (λy=>@decide (y=x) (Classical.propDecidable _)) ws with
 |none =>
  have:=List.findIdx?_eq_none_iff.mp e x h;simp at this
 |some j =>
  obtain⟨h1,h2,_⟩:=ybj.mp e;exact⟨j,rfl,h1,@of_decide_eq_true _ (Classical.propDecidable _) h2⟩
theorem zcp{M:Mc}(h:McOk M)(hl:C0 M.ws wd l)(hw:∀y∈wd,y∈DR)(hn:l.length<=1000):Hx [EG M,.lst l]=some (.ok (.own (l.map (Fq M.ws)))):=by
 have hl':C0 M.ws DR l:=λt ht=>by
  obtain⟨x,y,n,e,h1,h2,h3⟩:=hl t ht;exact⟨x,y,n,e,h1,hw y h2,h3⟩
 have hg:=Ow h.tw J9 hn hl';have hs:=hl.sh;have es:=AG _ hs
 have lc:=Bv (b:=Ap 3 (AQ (AD 0) (AQ (AD 1) (AQ (AD 2) Aq)))) (me:=QC) (λt:T=>t) (Fq M.ws) (λτ=>∃x y z,τ=[x,y,z,some (EG M)]) l [none,none,none,some (EG M)] ⟨none,none,none,rfl⟩ λt ht τ hI=>by
  obtain⟨x,y,z,rfl⟩:=hI;obtain⟨k1,k2,k3,k4⟩:=Vn (hl' t ht);obtain⟨j,ej,_⟩:=Gj k2;have en:=V2 h ej;refine⟨[some (.str (FX t)),some (.str (Gh t)),some (.int (CT t)),some (EG M)],by rw[k1];simp![FX,Gh,CT],?_,_,_,_,rfl⟩
  unfold QC Fq;rw[ej]
  simp![A6,AW,h.ss,h.sd,AG _ h.ss,AG _ h.sd,en,ybe]
 rw[ydw]at lc;have mw:=V1 h;have l1:l.length<=100000:=by omega
 unfold Hx Nm
 simp![Vy,A6,AW,h.ss,h.sd,AG _ h.ss,AG _ h.sd,mw,hs,es,hg,l1,lc]
theorem NX(ws:List Str)(l:List T):A3 (l.map (Fq ws))=true:=by
 rw[DK,yal];intro t ht;obtain⟨u,_,rfl⟩:=yag.mp ht
 rfl
theorem Tj{M:Mc}(h:McOk M)(hl:C0 M.ws wd l)(hw:∀y∈wd,y∈DR)(hn:l.length<=1000):Hx [AL M,.lst l]=some (.ok (.own (l.map (Fq M.ws)))):=zcp h hl hw hn
abbrev SX:Stmt:=AO 39
def QG:AJ :=
 (AS Ll (AB (AY (AA 3) (m2 HP (AA 0) (mC (.int 1)))) (AB (AA 1) (AB (AA 2) AE))))
def OA:AI :=
 (AX (m1 DE (Ar 3 [1] (Al (AA 0)) (Ap 3 (AQ (AD 0) (AQ (AD 1) (AQ (AD 2) Aq)))) (mC (.bl true)) QG)))
def JU:List T->Option Ru:=Ac 2 2 OA
abbrev PU:Fn:=⟨3,["looks","values"],JU⟩
abbrev zhk:Gx:=⟨[],[],[],[],false,true,true,none,[],[],[],true,[],[],[],[],[],[],[],[]⟩
abbrev zho:Gm:=⟨["looks","values"],(A2 SX).names,["values"],2,[("stands_so",Wp)],["all"],[],[],[],false,[],[],[],zhk⟩
theorem zi1:Ck zho PU SX OA:={}
theorem QX(p:α->Bool)(l:List α):BF (l.map λk=>T.bl (p k))=l.map λk=>T.bl (p k):=by
 rw[Cw,yaq]
 rfl
abbrev Bc(P:Int)(vs:List Int):List T:=vs.map (Bi P)
theorem Di(P:Int)(vs:List Int):A3 (Bc P vs)=true:=BB λ_ _=>rfl
def Cu(ws:List Str)(vs:List Int)(x:Str):Int:=vs.getD ((Bm ws x).getD 0) 0
def Br(P:Int)(ws:List Str)(vs:List Int)(t:T):Bool:=Cm (Gh t) (CT t) (Cu ws vs (FX t)) P
theorem va_at(h:vs.length=ws.length)(P:Int)(hx:x∈ws):∃j:Nat,Bm ws x=some j/\j<ws.length/\A8 (Bc P vs) (j:Int)=some (Bi P (Cu ws vs x)):=by
 obtain⟨j,ej,hj,_⟩:=Gj hx;have hv:j<vs.length:=by rw[h];exact hj
 refine⟨j,ej,hj,CZ ?_⟩;unfold Cu;rw[ej,ybe,ya2,ya3,ya0 hv]
 rfl
theorem GC(p1:0<P)(p2:P<=100)(h:vs.length=ws.length)(hl:C0 ws DR l)(hn:l.length<=1000):JU [.lst (l.map (Fq ws)),.lst (Bc P vs)]=some (.ok (.bl (l.all (Br P ws vs)))):=by
 have vsh:=Di P vs
 have lc:=Bv (b:=Ap 3 (AQ (AD 0) (AQ (AD 1) (AQ (AD 2) Aq)))) (me:=QG) (Fq ws) (λt=>.bl (Br P ws vs t)) (λτ=>∃x y z,τ=[x,y,z,some (.lst (Bc P vs))]) l [none,none,none,some (.lst (Bc P vs))] ⟨none,none,none,rfl⟩ λt ht τ hI=>by
  obtain⟨x,y,z,rfl⟩:=hI;obtain⟨k1,k2,k3,k4⟩:=Vn (hl t ht);obtain⟨j,ej,hj,av⟩:=va_at h P k2;have so:=so42 k3 (n:=CT t) (t:=Zm.lt (Cu ws vs (FX t)) P) (Kz (v:=Cu ws vs (FX t)) p1 p2).2.2;rw[soP p1]at so;have ax:((j:Int)+1 - 1)=j:=by omega
  refine⟨[some (.int ((j:Int)+1)),some (.str (Gh t)),some (.int (CT t)),some (.lst (Bc P vs))],by unfold Fq;rw[ej];simp![ybe],?_,_,_,_,rfl⟩
  unfold QG Br;generalize Bc P vs=L at *
  simp![ax,av,so,vsh]
 have l1:l.length<=100000:=by omega
 have ps:=NX ws l;have ba:=Lb (Br P ws vs) l;have ea:(l.map (Br P ws vs)).all id=l.all (Br P ws vs):=by rw[yej];rfl
 generalize Bc P vs=L at *;unfold JU OA
 simp![ps,AG _ ps,vsh,AG _ vsh,ya1,l1,lc,QX,ba,ea]
abbrev SE:Stmt:=AO 41
def QD:AJ :=
 (Bl A5 Ag GN (AA 1) (AB (AA 0) AE))
def Np:AI :=
 (AX (Ar 1 [0] (Al (Bl Ah Am GP (AA 1) AE)) (AD 0) (mC (.bl true)) QD))
def Lp:List T->Option Ru:=Ac 2 2 Np
abbrev Wy:Fn:=⟨2,["machine","door"],Lp⟩
abbrev zab:Gx:=⟨[],[],[("sets",Ah,Am,LU),("watch_number",A5,Ag,PY)],[],false,true,true,none,[],[],[],true,[],[],[],[],[],[],[],[]⟩
abbrev zag:Gm:=⟨["machine","door"],(A2 SE).names,["machine"],1,[],[],[],[],[],false,[],[],[],zab⟩
theorem zaj:Ck zag Wy SE Np:={}
theorem in_ok(i:Nat):∀ps:List Nat,Fz (.int (i:Int)) (ps.map λ(p:Nat)=>T.int (p:Int))=true:=λps=>by
 unfold Fz DP
 have h1:PyData.canLayAll0 (BQ (ps.map λ(p:Nat)=>T.int (p:Int)))=true:=by
  induction ps with
  |nil=>rfl
  |cons a r ih=>simpa[BQ,T.data,PyData.canLayAll0,PyData.canLay0] using ih
 have h2:EB (ps.map λ(p:Nat)=>T.int (p:Int))=true:=by
  induction ps with
  |nil=>rfl
  |cons a r ih=>exact ih (by simpa[BQ,T.data,PyData.canLayAll0,PyData.canLay0] using h1)
 rw[h1];simp[T.data,PyData.canLay0,PyData.depth,h2]
 rfl
theorem WU(i:Nat):∀ps:List Nat,Hc (.int (i:Int)) (ps.map λ(p:Nat)=>T.int (p:Int))=decide (i∈ps)
 |[]=>by simp[Hc,BQ]
 |a::r=>by
  have ih:=WU i r;unfold Hc at ih ⊢;simp only[yad,BQ,ydj,ih];simp only[T.data,PyData.eqv]
  by_cases e:i=a
  .simp[e]
  .simp[e,show ¬ (a:Int)=(i:Int) by omega]
def ED(ws ns:List Str):List Nat:=ns.map λx=>(Bm ws x).getD 0+1
abbrev Es(l:List Nat):List T:=l.map λp:Nat=>T.int (p:Int)
theorem V0(l:List Nat):A3 (Es l)=true:=BB λ_ _=>rfl
theorem zo4(ps:List Nat)(i:Nat):CY (.int (i:Int)) (.lst (Es ps))=some (.bl (decide (i∈ps))):=by
 unfold CY Es;simp only[in_ok i ps,WU i ps,yf3]
theorem np_ok{M:Mc}(h:McOk M){d:Dr}(hd:d∈M.ds):Lp [AL M,AM d]=some (.ok (.own (Es (ED M.ws d.n)))):=by
 have D:=h.d d hd;have sg:=D.g.sh;have sm:=C9 h;have sets:=Pd (d:=d) sg
 have lc:=Bv (b:=AD 0) (me:=QD) T.str (λx=>.int (((Bm M.ws x).getD 0+1:Nat):Int)) (λτ=>∃x,τ=[x,some (AL M)]) d.n [none,some (AL M)] ⟨none,rfl⟩ λx hx τ hI=>by
  obtain⟨y,rfl⟩:=hI;obtain⟨j,ej,_⟩:=Gj (D.n x hx);have en:GN [AL M,.str x]=some (.ok (.int ((j:Int)+1))):=V2 h ej;refine⟨[some (.str x),some (AL M)],by simp![],?_,_,rfl⟩
  unfold QD;rw[ej]
  simp![-Bh,Cf,sm,Ao _ sm,en,ybe,Int.natCast_add]
 have e1:Es (ED M.ws d.n)=d.n.map λx=>.int (((Bm M.ws x).getD 0+1:Nat):Int):=by
  unfold Es ED;rw[yaq]
  rfl
 have nl:d.n.length<=100000:=by have:=D.nl;omega
 rw[e1];unfold Lp Np
 simp![sm,Ao _ sm,sets,sg,AG _ sg,AW,A6,ya1,nl,lc]
abbrev Rn:Stmt:=AO 43
def Py:AJ :=
 (B5 (AB (mC (.int 0)) (AB (mC (.int 1)) AE)))
def Nk:AI :=
 (AX (B5 (AB (AY (Bl A5 Ag Eh (AA 0) AE) (mC (.int 0))) (AB (Ar 1 [] (Al (Bl A5 Ag Eg (AA 0) AE)) (AD 0) (mC (.bl true)) Py) AE))))
def Lk:List T->Option Ru:=Ac 1 1 Nk
abbrev Wo:Fn:=⟨2,["machine"],Lk⟩
abbrev zhj:Gx:=⟨[],[],[("rooms",A5,Ag,LP),("watches",A5,Ag,Hi)],[],false,true,true,none,[],[],[],true,[],[],[],[],[],[],[],[]⟩
abbrev zhn:Gm:=⟨["machine"],(A2 Rn).names,[],1,[],[],[],[],[],false,[],[],[],zhj⟩
theorem zi0:Ck zhn Wo Rn Nk:={}
theorem Kw(h:0<P):Zm.lt 0 P=0/\Zm.lb 0 P=1:=by
 have p0:P≠0:=by omega
 have e1:=Zm.lt_mul (t:=0) p0;have k:=Zm.gd_pos (a:=0) p0
 have h0:Zm.lt 0 P=0:=by
  rcases Int.mul_eq_zero.mp e1 with q|q
  .exact q
  .omega
 have g:=Zm.gd_low (t:=0) p0;have b:=Zm.lb_pos (t:=0) h;rw[h0]at g;unfold Zm.gd at g;rw[Int.gcd_zero_left]at g;exact⟨h0,by omega⟩
abbrev Ax(P:Int)(s:Str×List Int):T:=.tup [.str s.1,.lst (Bc P s.2)]
def BG(M:Mc):Str×List Int:=(M.nm.headD "",M.ws.map λ_=>0)
theorem zge(p1:0<P){M:Mc}(h:McOk M):Lk [AL M]=some (.ok (Ax P (BG M))):=by
 have sm:=C9 h;have rm:Eh [AL M]=some (.ok (.own (M.nm.map T.str))):=Nc h;have ww:=Kb h
 have lc:=Bv (b:=AD 0) (me:=Py) T.str (λ_=>fr 0 1) (λτ=>∃x,τ=[x]) M.ws [none] ⟨none,rfl⟩ λx hx τ hI=>by
  obtain⟨y,rfl⟩:=hI;exact⟨[some (.str x)],by simp![],by unfold Py;simp![],_,rfl⟩
 have l7:M.ws.length<=100000:=by have:=h.wl;omega
 obtain⟨a,ha⟩:∃a,A8 (M.nm.map T.str) 0=some (.str a)/\M.nm.headD ""=a:=by
  have:=h.r.l1;cases e:M.nm with
  |nil =>
   have q:=congrArg List.length e;rw[show M.nm.length=M.rs.length from ya1 _,yb0]at q
   omega
  |cons a r=>exact⟨a,show A8 ((a::r).map T.str) ((0:Nat):Int)=some (.str a) from CZ rfl,rfl⟩
 have e2:Bc P (BG M).2=M.ws.map λ_=>fr 0 1:=by
  show(M.ws.map λ_=>(0:Int)).map (Bi P)=_
  rw[yaq];refine ybk λx _=>?_
  show Bi P 0=fr 0 1;unfold Bi;rw[(Kw p1).1,(Kw p1).2]
 have e1:(BG M).1=a:=ha.2;have s1:A3 (M.ws.map λ_=>fr 0 1)=true:=BB λ_ _=>rfl
 unfold Ax;rw[e1,e2];unfold Lk Nk
 simp![-Bh,Cf,sm,Ao _ sm,rm,ww,ha.1,AW,A6,ya1,l7,lc,s1,AG _ s1]
abbrev SV:Stmt:=AO 45
def Ny:AI :=
 (AX (AS JU (AB (AS Hx (AB (AA 0) (AB (Bl A5 Ag FG (AA 0) (AB (AA 1) AE)) AE))) (AB (AA 2) AE))))
def IA:List T->Option Ru:=Ac 3 3 Ny
abbrev LM:Fn:=⟨6,["machine","room","values"],IA⟩
abbrev zcx:Gx:=⟨[],[],[("stay",A5,Ag,LO)],[],false,true,true,none,[],[],[],true,[],[],[],[],[],[],[],[]⟩
abbrev zd6:Gm:=⟨["machine","room","values"],(A2 SV).names,[],5,[("holds",PU),("placed",PH)],[],[],[],[],false,[],[],[],zcx⟩
theorem zdg:Ck zd6 LM SV Ny:={}
def Bg(P:Int)(M:Mc)(r:Str)(vs:List Int):Bool:=(BU M r).all (Br P M.ws vs)
theorem KA:∀y∈Fg,y∈DR:=by decide +kernel
theorem C0.wide{wd':List Str}(h:C0 ws wd l)(hw:∀y∈wd,y∈wd'):C0 ws wd' l:=λt ht=>by
 obtain⟨x,y,n,e,h1,h2,h3⟩:=h t ht;exact⟨x,y,n,e,h1,hw y h2,h3⟩
theorem O6(p1:0<P)(p2:P<=100){M:Mc}(h:McOk M){r:Str}(hr:r∈M.nm)(hv:vs.length=M.ws.length):IA [AL M,.str r,.lst (Bc P vs)]=some (.ok (.bl (Bg P M r vs))):=by
 have sm:=C9 h;obtain⟨g1,g2,g3,g4⟩:=Fe h hr;have pl:=Tj h g4 KA g3;have hd:=GC p1 p2 hv (g4.wide KA) g3;have vsh:=Di P vs;have ps:=NX M.ws (BU M r);unfold Bg;generalize Bc P vs=L at *;unfold IA Ny
 simp![-Bh,Cf,sm,Ao _ sm,g1,g2,AG _ g2,pl,hd,vsh,AG _ vsh,ps,AG _ ps]
abbrev Rq:Stmt:=AO 47
def Pz:AJ :=
 (DX (m2 CY (AA 0) (AA 2)) (B5 (AB (mC (.int 0)) (AB (mC (.int 1)) AE))) (AA 1))
def Kh:AI :=
 (AF (AU (Bl A5 Ag E4 (AA 0) AE) (AD 5))
 (AF (Af (Ay (Eb EI (CI λi j=>decide (i<j)) (mC (.int 0)) (AA 3) (m1 B0 (AA 5)))) (AX (mC .non)) Ae)
 (AF (AU (AY (AA 5) (AA 3)) (AD 6))
 (AF (Af (Bu (m2 By (B7 Ah Am 0 (AA 6)) (AA 1)) (CP (AA 4) (m2 By (B7 Ah Am 4 (AA 6)) (mC (.str ""))))) (AX (mC .non)) Ae)
 (AF (Af (Ay (AS JU (AB (AS Hx (AB (AA 0) (AB (Bl Ah Am GQ (AA 6) AE) AE))) (AB (AA 2) AE)))) (AX (mC .non)) Ae)
 (AF (AU (AS Lp (AB (AA 0) (AB (AA 6) AE))) (AD 7))
 (AF (AU (Ar 2 [7] (GB (AB (AA 2) AE)) (Ap 2 (AQ (AD 0) (AQ (AD 1) Aq))) (mC (.bl true)) Pz) (AD 8))
 (AF (Af (Ay (AS IA (AB (AA 0) (AB (B7 Ah Am 1 (AA 6)) (AB (AA 8) AE))))) (AX (mC .non)) Ae)
 (AX (B5 (AB (B7 Ah Am 1 (AA 6)) (AB (AA 8) AE))))))))))))
def Lm:List T->Option Ru:=Ac 5 9 Kh
abbrev Wq:Fn:=⟨7,["machine","room","values","number","alone"],Lm⟩
abbrev zao:Gx:=⟨[],[("Door",Ah,Am)],[("doors",A5,Ag,JD),("asks",Ah,Am,LV)],[],false,true,true,none,[],[],[],true,[],[],[],[],[],[],[],[]⟩
abbrev zat:Gm:=⟨["machine","room","values","number","alone","doors","door","noughts","after"],(A2 Rq).names,["noughts"],6,[("holds",PU),("placed",PH),("nought_places",Wy),("is_legal",LM)],["len","enumerate"],[],[],[],false,[],[],[],zao⟩
theorem zaw:Ck zat Wq Rq Kh:={}
def BM(M:Mc)(d:Dr)(vs:List Int):List Int:=(M.ws.zip vs).map λx=>if x.1∈d.n then 0 else x.2
theorem IG{M:Mc}{d:Dr}(hv:vs.length=M.ws.length):(BM M d vs).length=M.ws.length:=by
 unfold BM;rw[ya1,ydv,hv,Nat.min_self]
abbrev Ii(P:Int):Option (Str×List Int)->T
 |none=>.non
 |some s=>Ax P s
def EL(P:Int)(M:Mc)(r:Str)(vs:List Int)(k:Int)(al:Bool):Option (Str×List Int) :=
 if 0<=k/\k<(M.ds.length:Int) then (if (M.ds.getD k.toNat d0).s=r/\(al=true->(M.ds.getD k.toNat d0).z="")/\(M.ds.getD k.toNat d0).g.all (Br P M.ws vs)=true/\Bg P M (M.ds.getD k.toNat d0).e (BM M (M.ds.getD k.toNat d0) vs)=true then some ((M.ds.getD k.toNat d0).e,BM M (M.ds.getD k.toNat d0) vs) else none) else none
theorem zng{M:Mc}(h:McOk M){d:Dr}(hd:d∈M.ds)(hi:i<M.ws.length):(1+i∈ED M.ws d.n) ↔ M.ws[i]∈d.n:=by
 have D:=h.d d hd;unfold ED;rw[yag];constructor
 .rintro⟨x,hx,e⟩;obtain⟨j,ej,hj,ex⟩:=Gj (D.n x hx);rw[ej,ybe]at e;have:j=i:=by omega
  subst this;rw[ex];exact hx
 .intro hx;exact⟨_,hx,by rw[WS h.wd hi,ybe];omega⟩
theorem zr_lc(p1:0<P){M:Mc}(h:McOk M){d:Dr}(hd:d∈M.ds)(hv:vs.length=M.ws.length):BD (Ap 2 (AQ (AD 0) (AQ (AD 1) Aq))) (mC (.bl true)) Pz (CV 1 (Bc P vs)) [none,none,some (.lst (Es (ED M.ws d.n)))]=some (Bc P (BM M d vs)):=by
 have e1:CV 1 (Bc P vs)=(List.range vs.length).map λi=>T.tup [.int ((1+i:Nat):Int),Bi P (vs.getD i 0)]:=by
  refine ybq λi=>?_
  rw[LW,ya3,ya3]
  by_cases hi:i<vs.length
  .have e:vs.getD i 0=vs[i]:=by rw[ya2,ya0 hi];rfl
   rw[ybh hi,ya0 hi,yb1,yb1,yb1,e]
  .rw[yai (by omega),yai (by rw[yb6];omega)]
   rfl
 have e2:Bc P (BM M d vs)=(List.range vs.length).map λi=>Bi P (if M.ws.getD i ""∈d.n then 0 else vs.getD i 0):=by
  unfold BM;refine ybq λi=>?_
  rw[ya3,ya3,ya3,List.zip,ydp]
  by_cases hi:i<vs.length
  .have hw:i<M.ws.length:=by omega
   have e:vs.getD i 0=vs[i]:=by rw[ya2,ya0 hi];rfl
   have w:M.ws.getD i ""=M.ws[i]:=by rw[ya2,ya0 hw];rfl
   rw[ybh hi,ya0 hi,ya0 hw,yb1,yb1,yb1,e,w]
  .rw[yai (l:=vs) (by omega),yai (l:=M.ws) (by omega),yai (by rw[yb6];omega)]
   rfl
 rw[e1,e2];refine Bv _ _ (λτ=>∃x y,τ=[x,y,some (.lst (Es (ED M.ws d.n)))]) _ _ ⟨none,none,rfl⟩ λi hi τ hI=>?_
 obtain⟨x,y,rfl⟩:=hI;have hi:=ybb.mp hi;have hw:i<M.ws.length:=by omega
 have q:=zo4 (ED M.ws d.n) (1+i);rw[show decide (1+i∈ED M.ws d.n)=decide (M.ws[i]∈d.n) from decide_eq_decide.mpr (zng h hd hw)]at q;have wi:M.ws.getD i ""=M.ws[i]:=by rw[ya2,ya0 hw];rfl
 have sn:=V0 (ED M.ws d.n);refine⟨[some (.int ((1+i:Nat):Int)),some (Bi P (vs.getD i 0)),some (.lst (Es (ED M.ws d.n)))],by simp![],?_,_,_,rfl⟩
 rw[wi];unfold Pz;generalize Es (ED M.ws d.n)=L at *
 by_cases hm:M.ws[i]∈d.n
 .rw[if_pos hm];rw[yf6 hm]at q;have f0:Bi P 0=fr 0 1:=by unfold Bi;rw[(Kw p1).1,(Kw p1).2]
  rw[f0]
  simp![sn,AG _ sn,q]
 .rw[if_neg hm];rw[yeo hm]at q
  simp![sn,AG _ sn,q]
theorem Nb(hx:PyData.strOk x=true)(hy:PyData.strOk y=true):By (.str x) (.str y)=some (.bl (!decide (x=y))):=by
 have e:=F9 hx hy;unfold Bn at e;unfold By
 by_cases h:Ey (.str x) (.str y)=true
 .rw[if_pos h]at e ⊢;injection e with e
  injection e with e
  rw[e]
 .rw[if_neg h]at e;cases e
abbrev sB(P:Int)(M:Mc)(r:Str)(vs:List Int)(k:Int)(al:Bool)(x5 x6 x7 x8:Option T):AN:=[some (AL M),some (.str r),some (.lst (Bc P vs)),some (.int k),some (.bl al),x5,x6,x7,x8]
theorem sb_ok(p1:0<P)(p2:P<=100){M:Mc}(h:McOk M){r:Str}(hr:r∈M.nm)(hv:vs.length=M.ws.length)(k:Int)(al:Bool):Lm [AL M,.str r,.lst (Bc P vs),.int k,.bl al]=some (.ok (Ii P (EL P M r vs k al))):=by
 have sm:=C9 h;have md:E4 [AL M]=some (.ok (.own (M.ds.map AM))):=Nd h;have sd:A3 (M.ds.map AM)=true:=h.sd;have vsh:=Di P vs
 suffices key:Kh (sB P M r vs k al none none none none)=some (.rt (Ii P (EL P M r vs k al))) by
  unfold Lm;unfold sB at key;generalize Bc P vs=L at *
  simp![sm,Ao _ sm,vsh,AG _ vsh,key]
 unfold Kh;refine sq (by simp![-Bh,Cf,sm,Ao _ sm,md,AG _ sd];rfl) ?_
 by_cases hk:0<=k/\k<(M.ds.length:Int)
 .have hb:EL P M r vs k al=_:=if_pos hk;rw[hb];have hi:k.toNat<M.ds.length:=by omega
  have ek:M.ds.getD k.toNat d0=M.ds[k.toNat]:=by rw[ya2,ya0 hi];rfl
  have hd:M.ds.getD k.toNat d0∈M.ds:=by rw[ek];exact yau hi
  have av:A8 (M.ds.map AM) k=some (AM (M.ds.getD k.toNat d0)):=Hs hk.1 (by rw[ya3,ya0 hi,ek];rfl)
  have k1:=yf6 hk.1;have k2:=yf6 hk.2;refine DJ (by simp![k1,k2,AG _ sd,ya1]) ?_
  generalize M.ds.getD k.toNat d0=d at *;have D:=h.d d hd;have sg:=D.g.sh;refine sq (by simp![sd,av,sg,AG _ sg,AW,A6];rfl) ?_
  have er:=Nb (h.tn _ D.s) (h.tn r hr);have ez:=Nb (KI D.z) Xg;have dsh:(AM d).sh=true:=by simp![sg,AW]
  have ask:=Pf (d:=d) sg;have pl:=Tj h D.g (λ_ q=>q) D.gl
  have GC:=GC p1 p2 hv D.g D.gl;have ps:=NX M.ws d.g
  by_cases c1:d.s=r/\(al=true->d.z="")
  .have st1:Af (Bu (m2 By (B7 Ah Am 0 (AA 6)) (AA 1)) (CP (AA 4) (m2 By (B7 Ah Am 4 (AA 6)) (mC (.str ""))))) (AX (mC .non)) Ae (sB P M r vs k al (some (.lst (M.ds.map AM))) (some (AM d)) none none)=some (.nx (sB P M r vs k al (some (.lst (M.ds.map AM))) (some (AM d)) none none)):=by
    have q1:=yf6 c1.1;cases al with
    |false=>simp![sg,AW,er,q1]
    |true =>
     have q2:=yf6 (show d.z=Str.ofString "" from c1.2 rfl)
     simp![sg,AW,er,q1,ez,q2]
   refine DJ st1 ?_
   clear st1 er ez
   cases c2:d.g.all (Br P M.ws vs) with
   |false =>
    rw[c2]at GC;have hb:(if d.s=r/\(al=true->d.z="")/\false=true/\Bg P M d.e (BM M d vs)=true then some (d.e,BM M d vs) else none)=none:=if_neg λz=>by cases z.2.2.1
    rw[hb];refine sr ?_
    simp![-Bh,Cf,sm,Ao _ sm,sg,AG _ sg,AW,A6,ask,pl,GC,vsh,AG _ vsh,ps,AG _ ps]
   |true =>
    rw[c2]at GC;refine DJ (by simp![-Bh,Cf,sm,Ao _ sm,sg,AG _ sg,AW,A6,ask,pl,GC,vsh,AG _ vsh,ps,AG _ ps]) ?_
    clear GC pl ask ps
    have np:=np_ok h hd;have ns:=V0 (ED M.ws d.n);refine sq (by simp![sm,Ao _ sm,sg,AG _ sg,AW,A6,np,ns,AG _ ns];rfl) ?_
    have zl:=zr_lc p1 h hd hv;have zs:=Di P (BM M d vs);have vl:vs.length<=100000:=by have:=h.wl;omega
    refine sq (by simp![vsh,AG _ vsh,ns,AG _ ns,zl,zs,AG _ zs,P7,ya1,vl];rfl) ?_
    have lg:=O6 p1 p2 h (r:=d.e) D.e (IG (d:=d) hv);cases c3:Bg P M d.e (BM M d vs) with
    |false =>
     rw[c3]at lg;rw[if_neg λz=>by cases z.2.2.2]
     exact sr (by simp![sm,Ao _ sm,sg,AW,zs,AG _ zs,lg])
    |true =>
     rw[c3]at lg;rw[if_pos ⟨c1.1,c1.2,rfl,rfl⟩];exact DJ (by simp![sm,Ao _ sm,sg,AW,zs,AG _ zs,lg]) (by simp![sg,AW,zs,AG _ zs])
  .rw[if_neg λz=>c1 ⟨z.1,z.2.1⟩]
   refine sr ?_
   by_cases q:d.s=r
   .have q1:=yf6 q;cases al with
    |false=>exact absurd ⟨q,λz=>by cases z⟩ c1
    |true =>
     have q2:=yeo (show ¬ d.z=Str.ofString "" from λz=>c1 ⟨q,λ_=>z⟩)
     simp![sg,AW,er,q1,ez,q2]
   .have q1:=yeo q
    simp![sg,AW,er,q1]
 .have hb:EL P M r vs k al=none:=if_neg hk;rw[hb];refine sr ?_
  by_cases k1:0<=k
  .have k2:=yeo (show ¬ k<(M.ds.length:Int) from λz=>hk ⟨k1,z⟩)
   have k1:=yf6 k1
   simp![k1,k2,AG _ sd,ya1]
  .have k1:=yeo k1
   simp![k1,AG _ sd,ya1]
abbrev Rt:Stmt:=AO 46
def QA:AJ :=
 (AS Lo (AB (AA 0) (AB (AA 1) AE)))
def Ki:AI :=
 (AF (AU (AY (AA 1) (mC (.int 0))) (AD 4))
 (AF (AU (AY (AA 2) (mC (.int 0))) (AD 5))
 (AF (Af (AS Hu (AB (AA 5) (AB (B5 (AB (mC (.int 0)) (AB (mC (.int 1)) AE))) AE))) (AX (mC .non)) Ae)
 (AF (AU (Ar 1 [5] (Al (AY (AA 1) (mC (.int 1)))) (AD 0) (mC (.bl true)) QA) (AD 6))
 (AF (Af (Ay (AS IA (AB (AA 0) (AB (AA 4) (AB (AA 6) AE))))) (AX (mC .non)) Ae)
 (AF (Af (m2 (Cc false) (AY (AA 2) (mC (.int 1))) (mC .non)) (AX (B5 (AB (AA 4) (AB (AA 6) AE)))) Ae)
 (AX (AS Lm (AB (AA 0) (AB (AA 4) (AB (AA 6) (AB (AY (AA 2) (mC (.int 1))) (AB (AA 3) AE)))))))))))))
def Ln:List T->Option Ru:=Ac 4 7 Ki
abbrev Ws:Fn:=⟨8,["machine","stand","step","alone"],Ln⟩
abbrev zap:Gx:=⟨[],[],[],[],false,true,true,none,[],[],[],true,[],[],[],[],[],[],[],[]⟩
abbrev zau:Gm:=⟨["machine","stand","step","alone","room","wait","values"],(A2 Rt).names,["wait"],7,[("under",PD),("plus",Wv),("is_legal",LM),("stand_beyond",Wq)],[],[],[],[],false,[],[],[],zap⟩
theorem zax:Ck zau Ws Rt Ki:={}
abbrev DL:Option Int->T
 |none=>.non
 |some k=>.int k
abbrev BW(P:Int)(s:Int×Option Int):T:=.tup [Bi P s.1,DL s.2]
def DC(P:Int)(M:Mc)(s:Str×List Int)(w:Int×Option Int)(al:Bool):Option (Str×List Int) :=
 if 0<=w.1/\Bg P M s.1 (s.2.map (·+w.1))=true then (match w.2 with
  |none=>some (s.1,s.2.map (·+w.1))
  |some k=>EL P M s.1 (s.2.map (·+w.1)) k al) else none
abbrev sH(P:Int)(M:Mc)(s:Str×List Int)(w:Int×Option Int)(al:Bool)(x4 x5 x6:Option T):AN:=[some (AL M),some (Ax P s),some (BW P w),some (.bl al),x4,x5,x6]
theorem HW(o:Option Int):(DL o).sh=true:=by cases o<;>rfl
theorem N8(o:Option Int):(DL o).share=DL o:=by cases o<;>rfl
theorem hb_ok(p1:0<P)(p2:P<=100){M:Mc}(h:McOk M)(hr:s.1∈M.nm)(hv:s.2.length=M.ws.length)(w:Int×Option Int)(al:Bool):Ln [AL M,Ax P s,BW P w,.bl al]=some (.ok (Ii P (DC P M s w al))):=by
 obtain⟨r,vs⟩:=s;obtain⟨wt,k⟩:=w;have sm:=C9 h;have vsh:=Di P vs;have ks:=HW k;have kq:=N8 k
 suffices key:Ki (sH P M (r,vs) (wt,k) al none none none)=some (.rt (Ii P (DC P M (r,vs) (wt,k) al))) by
  unfold Ln;unfold sH at key
  simp![sm,Ao _ sm,vsh,AG _ vsh,ks,kq,key]
 unfold Ki;refine sq (by simp![vsh];rfl) ?_
 refine sq (by simp![ks];rfl) ?_
 have un:=Mb (a:=Zm.lt wt P) (b:=Zm.lb wt P) (c:=0) (d:=1) (FU (Ce (by decide) (by decide))) (FU (Kz (v:=wt) p1 p2).2.2)
 rw[Int.mul_one,Int.zero_mul]at un
 have lz:(Zm.lt wt P<0) ↔ wt<0:=by
  have e:=Zm.lt_mul (t:=wt) (show P≠0 by omega)
  have g:=Zm.gd_pos (a:=wt) (show P≠0 by omega)
  constructor
  .intro z;have:=Int.mul_neg_of_neg_of_pos z g
   omega
  .intro z
   rcases Int.lt_or_le (Zm.lt wt P) 0 with q|q
   .exact q
   .have:=yda q (Int.le_of_lt g)
    omega
 rw[show decide (Zm.lt wt P<0)=decide (wt<0) from decide_eq_decide.mpr lz]at un
 by_cases w0:0<=wt
 .have d0:=yeo (show ¬ wt<0 by omega)
  rw[d0]at un;refine DJ (by simp![un]) ?_
  have lc:=Bv (b:=AD 0) (me:=QA) (Bi P) (λv=>Bi P (v+wt)) (λτ=>∃x,τ=[x,some (Bi P wt)]) vs [none,some (Bi P wt)] ⟨none,rfl⟩ λv hv τ hI=>by
   obtain⟨y,rfl⟩:=hI;have pl:=plP (v:=v) (w:=wt) p1 p2;refine⟨[some (Bi P v),some (Bi P wt)],by simp![],?_,_,rfl⟩
   unfold QA
   simp![pl]
  have e1:(vs.map λv=>Bi P (v+wt))=Bc P (vs.map (·+wt)):=by
   unfold Bc;rw[yaq]
   rfl
  rw[e1]at lc;have s1:=Di P (vs.map (·+wt));have vl:vs.length<=100000:=by have:=h.wl;have:vs.length=M.ws.length:=hv;omega
  have hv1:(vs.map (·+wt)).length=M.ws.length:=by rw[ya1];exact hv
  refine sq (by simp![vsh,AG _ vsh,lc,s1,AG _ s1,ya1,vl];rfl) ?_
  have lg:=O6 p1 p2 h hr hv1;cases c1:Bg P M r (vs.map (·+wt)) with
  |false =>
   rw[show Bg P M (r,vs).1 (vs.map (·+wt))=false from c1]at lg;have hb:DC P M (r,vs) (wt,k) al=none:=if_neg λz=>by rw[show Bg P M (r,vs).1 ((r,vs).2.map (·+(wt,k).1))=false from c1]at z;cases z.2
   rw[hb];exact sr (by simp![sm,Ao _ sm,s1,AG _ s1,lg])
  |true =>
   rw[show Bg P M (r,vs).1 (vs.map (·+wt))=true from c1]at lg;have hb:DC P M (r,vs) (wt,k) al=_:=if_pos ⟨w0,c1⟩;rw[hb];refine DJ (by simp![sm,Ao _ sm,s1,AG _ s1,lg]) ?_
   cases k with
   |none=>exact sr (by simp![s1,AG _ s1])
   |some k =>
    have sb:=sb_ok p1 p2 h hr hv1 k al;refine DJ (by simp![]) ?_
    simp![sm,Ao _ sm,s1,AG _ s1,sb]
 .have d0:=yf6 (show wt<0 by omega)
  rw[d0]at un;have hb:DC P M (r,vs) (wt,k) al=none:=if_neg λz=>w0 z.1
  rw[hb];exact sr (by simp![un])
abbrev KN:Stmt:=AO 44
def MU:AI :=
 (AF (AU (AS Ln (AB (AA 0) (AB (AA 3) (AB (AA 6) (AB (AA 2) AE))))) (AD 3))
 (AF (Af (m2 (Cc false) (AA 3) (mC .non)) HS Ae)
 (C6 4 (AA 3))))
def Kg:AI :=
 (AF (AU (AS Lk (AB (AA 0) AE)) (AD 3))
 (AF (Af (Ay (AS IA (AB (AA 0) (AB (AY (AA 3) (mC (.int 0))) (AB (AY (AA 3) (mC (.int 1))) AE))))) HS Ae)
 (AF (CJ 4 (BJ (BC (AA 3) AE)))
 (AF (B3 (DB (AB (AA 1) AE)) (Ap 2 (AQ (AD 5) (AQ (AD 6) Aq))) MU)
 (AX (AA 4))))))
def E3:List T->Option Ru:=Ac 3 7 Kg
abbrev PF:Fn:=⟨9,["machine","run","alone"],E3⟩
abbrev zf6:Gx:=⟨[],[],[],[],false,true,true,none,[],[],[],true,[],[],[],[],[],[],[],[]⟩
abbrev WX:Gm:=⟨["machine","run","alone","here","told","number","step"],(A2 KN).names,[],8,[("start",Wo),("is_legal",LM),("stand_behind",Ws)],["enumerate"],[],["told"],[],false,[],[],[],zf6⟩
theorem YA:Ck WX PF KN Kg:={}
def Fl(P:Int)(M:Mc)(al:Bool):Str×List Int->List (Int×Option Int)->Option (List (Str×List Int))
 |_,[]=>some []
 |s,w::r=>(DC P M s w al).bind λs1=>(Fl P M al s1 r).map (s1::·)
theorem zoh{M:Mc}(h:McOk M){r:Str}(hv:vs.length=M.ws.length){k:Int}(e:EL P M r vs k al=some s):s.1∈M.nm/\s.2.length=M.ws.length:=by
 unfold EL at e;split at e
 .rename_i hk;split at e
  .cases e;have hi:k.toNat<M.ds.length:=by omega
   have hd:M.ds.getD k.toNat d0∈M.ds:=by rw[ya2,ya0 hi];exact yau hi
   exact⟨(h.d _ hd).e,IG hv⟩
  .cases e
 .cases e
theorem zoi{M:Mc}(h:McOk M)(hr:s.1∈M.nm)(hv:s.2.length=M.ws.length){w:Int×Option Int}{s1:Str×List Int}(e:DC P M s w al=some s1):s1.1∈M.nm/\s1.2.length=M.ws.length:=by
 have hv1:(s.2.map (·+w.1)).length=M.ws.length:=by rw[ya1];exact hv
 unfold DC at e;split at e
 .split at e
  .cases e;exact⟨hr,hv1⟩
  .exact zoh h hv1 e
 .cases e
theorem TC{P:Int}{M:Mc}(h:McOk M){al:Bool}:∀{ws:List (Int×Option Int)} {s:Str×List Int} {l:List (Str×List Int)},s.1∈M.nm->s.2.length=M.ws.length->Fl P M al s ws=some l->l.length=ws.length/\(∀x∈s::l,x.1∈M.nm/\x.2.length=M.ws.length)/\∀i,∀hi:i<ws.length,DC P M ((s::l).getD i s) ws[i] al=some ((s::l).getD (i+1) s)
 |[],s,l,h1,h2,e=>by
  cases e;exact⟨rfl,λx hx=>by rw[ya8.mp hx];exact⟨h1,h2⟩,λi hi=>absurd hi (Nat.not_lt_zero i)⟩
 |w::ws,s,l,h1,h2,e=>by
  unfold Fl at e;obtain⟨s1,e1,e⟩:=Option.bind_eq_some_iff.mp e;obtain⟨l1,e2,rfl⟩:=yah.mp e;obtain⟨k1,k2⟩:=zoi h h1 h2 e1;obtain⟨q1,q2,q3⟩:=TC h k1 k2 e2;refine⟨by rw[yaj,yaj,q1],λx hx=>?_,λi hi=>?_⟩
  .rcases ya9.mp hx with rfl|hx
   .exact⟨h1,h2⟩
   .exact q2 x hx
  .cases i with
   |zero=>exact e1
   |succ i =>
    have hi':i<ws.length:=by rw[yaj]at hi;omega
    have:=q3 i hi';rw[List.getD_cons_succ,List.getD_cons_succ,List.getElem_cons_succ]
    have g:∀(j:Nat) (d:Str×List Int),j<(s1::l1).length->(s1::l1).getD j d=(s1::l1).getD j s1:=λj d hj=>by
     rw[ya2,ya2,ya0 hj]
     rfl
    rw[g i s (by rw[yaj];omega),g (i+1) s (by rw[yaj];omega)]
    exact this
abbrev sN(P:Int)(M:Mc)(ws:List (Int×Option Int))(al:Bool)(x3 x4 x5 x6:Option T):AN:=[some (AL M),some (.lst (ws.map (BW P))),some (.bl al),x3,x4,x5,x6]
theorem IT(P:Int)(ws:List (Int×Option Int)):A3 (ws.map (BW P))=true:=BB λw _=>by
 have:=HW w.2
 simp![this]
theorem Dy(P:Int)(s:Str×List Int):(Ax P s).sh=true:=by
 have:=Di P s.2
 simp![this]
theorem RZ(p1:0<P)(p2:P<=100){M:Mc}(h:McOk M){ws:List (Int×Option Int)}(hw:ws.length<=1000){l:List (Str×List Int)}(h0:Bg P M (BG M).1 (BG M).2=true)(e:Fl P M al (BG M) ws=some l):E3 [AL M,.lst (ws.map (BW P)),.bl al]=some (.ok (.own ((BG M::l).map (Ax P)))):=by
 have sm:=C9 h
 have n0:(BG M).1∈M.nm:=by
  have:=h.r.l1;unfold BG;cases q:M.nm with
  |nil =>
   have q:=congrArg List.length q;rw[show M.nm.length=M.rs.length from ya1 _,yb0]at q
   omega
  |cons a r=>exact ya5 ..
 have v0:(BG M).2.length=M.ws.length:=ya1 _;obtain⟨q1,q2,q3⟩:=TC h n0 v0 e;have ss:=IT P ws;have st:=zge p1 h;have lg:=O6 p1 p2 h n0 v0;rw[h0]at lg;generalize BG M=s0 at *
 obtain⟨τ,ef,y5,y6,rfl⟩:=Du (b:=Ap 2 (AQ (AD 5) (AQ (AD 6) Aq))) (body:=MU) (ts:=CV 0 (ws.map (BW P))) (τ:=sN P M ws al (some (Ax P s0)) (some (.own [Ax P s0])) none none) (λi τ=>∃y5 y6,τ=sN P M ws al (some (Ax P ((s0::l).getD i s0))) (some (.own (((s0::l).take (i+1)).map (Ax P)))) y5 y6) ⟨none,none,rfl⟩ λi t τ h1 h2=>by
  obtain⟨y5,y6,rfl⟩:=h2;rw[LW,ya3]at h1
  have hi:i<ws.length:=by
   rcases yek i ws.length with z|z
   .exact z
   .rw[yai z]at h1;cases h1
  rw[ya0 hi]at h1;cases h1;have b:=q3 i hi
  have c:(s0::l).getD i s0∈s0::l:=by
   have:i<(s0::l).length:=by rw[yaj,q1];omega
   rw[ya2,ya0 this];exact yau this
  obtain⟨c1,c2⟩:=q2 _ c;have hb:=hb_ok p1 p2 h c1 c2 ws[i] al;rw[b]at hb;have hl:i+1<(s0::l).length:=by rw[yaj,q1];omega
  have tk:(s0::l).take (i+1+1)=(s0::l).take (i+1)++[(s0::l).getD (i+1) s0]:=by
   rw[List.take_succ,ya0 hl,ya2,ya0 hl]
   rfl
  have tl:((s0::l).take (i+1)).length<100000:=by rw[ybi];omega
  rw[tk,yar];have sa:=Dy P ((s0::l).getD i s0);have sb:=Dy P ((s0::l).getD (i+1) s0);have sw:(BW P ws[i]).sh=true:=by have:=HW ws[i].2;simp![this]
  refine⟨sN P M ws al (some (Ax P ((s0::l).getD i s0))) (some (.own (((s0::l).take (i+1)).map (Ax P)))) (some (.int ((0+i:Nat):Int))) (some (BW P ws[i])),by simp![],_,?_,some (.int ((0+i:Nat):Int)),some (BW P ws[i]),rfl⟩
  unfold MU;generalize hA:Ax P ((s0::l).getD i s0)=A at *;have ob:Ii P (some ((s0::l).getD (i+1) s0))=Ax P ((s0::l).getD (i+1) s0):=rfl;rw[ob]at hb;have nn:Cc false (Ax P ((s0::l).getD (i+1) s0)) .non=some (.bl false):=rfl;generalize hB:Ax P ((s0::l).getD (i+1) s0)=B at *;generalize BW P ws[i]=W at *;refine sq (by simp![sm,Ao _ sm,sa,Ao _ sa,sw,Ao _ sw,hb,sb,Ao _ sb];rfl) ?_
  refine DJ (by simp![-Cc,sb,Ao _ sb,nn]) ?_
  simp![sb,Ao _ sb,ya1,tl]
  rw[hB]
 have s0s:=Dy P s0;have BE:(CV 0 (ws.map (BW P))).length=ws.length:=by rw[P7,ya1]
 rw[BE,List.take_of_length_le (by rw[yaj,q1];exact yae _)]at ef
 have key:Kg (sN P M ws al none none none none)=some (.rt (.own ((s0::l).map (Ax P)))):=by
  unfold Kg;have z0:s0=(s0.1,s0.2):=rfl;have vs0:=Di P s0.2;refine sq (by simp![sm,Ao _ sm,st,vs0,AG _ vs0];rfl) ?_
  refine DJ (by simp![sm,Ao _ sm,vs0,AG _ vs0,lg]) ?_
  refine sq (by simp![vs0,AG _ vs0];rfl) ?_
  refine sq (τ':=_) (by rw[<- ef];simp![DB,ss,AG _ ss]) ?_
  simp![]
 unfold E3;unfold sN at key
 simp![sm,Ao _ sm,ss,AG _ ss,key]
abbrev Su:Stmt:=AO 73
def HM:AJ :=
 (m2 By (AA 1) (mC (.int 0)))
def M7:AI :=
 (IZ 0 1 (AB (AA 1) (AB (m2 BO (AA 0) (AA 1)) AE)))
def OY:AI :=
 (AF (Em HM M7)
 (AX (m1 Gq (AA 0))))
def MG:List T->Option Ru:=Ac 2 2 OY
abbrev X0:Fn:=⟨1,["_law_one","_law_other"],MG⟩
abbrev zd1:Gx:=⟨[],[],[],[],false,true,true,none,[],[],[],true,[],[],[],[],[],[],[],[]⟩
abbrev zd9:Gm:=⟨["_law_one","_law_other"],(A2 Su).names,[],0,[],["abs"],[],[],[],false,[],[],[],zd1⟩
theorem zdj:Ck zd9 X0 Su OY:={}
theorem zka(a b:Int):MG [.int a,.int b]=some (.ok (.int (Zm.gd a b))):=by
 have loop:=Sx (mc:=HM) (body:=M7)
  (τ:=[some (.int a),some (.int b)])
  (λτ=>∃(g l:Int),τ=[some (.int g),some (.int l)]/\Zm.gd g l=Zm.gd a b)
  (λτ=>match τ with|[_,some (.int l)]=>l.natAbs|_=>0)
  ⟨_,_,rfl,rfl⟩ (by
   rintro τ ⟨g,l,rfl,e⟩
   by_cases h0:l=0
   .right;exact⟨false,by unfold HM;simp![E8,h0]⟩
   .left;exact⟨false,by unfold HM;simp![E8];simp[h0],[some (.int l),some (.int (g.fmod l))],by unfold M7;simp![h0],⟨_,_,rfl,Zm.gd_turn e⟩,Zm.fmod_less g h0⟩)
 obtain⟨τ',e1,⟨g,l,rfl,e⟩,bb,e2⟩:=loop
 have hl0:l=0:=by
  have e3:HM [some (.int g),some (.int l)]=some (.v (.bl (!(l == 0))) false):=by unfold HM;simp![E8]
  rw[e3]at e2;exact(by simpa using e2:l=0/\bb=false).1
 unfold MG OY
 simp![e1]
 rw[Zm.gd_end e hl0]
abbrev Sr:Stmt:=AO 74
def OX:AI :=
 (AF (AU (AS MG (AB (AA 0) (AB (AA 1) AE))) (AD 2))
 (AX (B5 (AB (m2 CN (AA 0) (AA 2)) (AB (m2 CN (AA 1) (AA 2)) AE)))))
def JX:List T->Option Ru:=Ac 2 3 OX
abbrev XY:Fn:=⟨2,["_law_number","_law_parts_here"],JX⟩
abbrev zca:Gx:=⟨[],[],[],[],false,true,true,none,[],[],[],true,[],[],[],[],[],[],[],[]⟩
abbrev zci:Gm:=⟨["_law_number","_law_parts_here","_law_share"],(A2 Sr).names,[],1,[("_law_divisor",X0)],[],[],[],[],false,[],[],[],zca⟩
theorem zcn:Ck zci XY Sr OX:={}
theorem Vo(p1:0<P)(p2:P<=100)(v:Int):JX [.int v,.int P]=some (.ok (Bi P v)):=by
 have ld:=zka v P;have k:=Zm.gd_pos (a:=v) (show P≠0 by omega)
 have k2:=Zm.gd_le (a:=v) p1;have n0:(Zm.gd v P=0)=False:=eq_false (by omega)
 have s0:CD (Zm.gd v P)=true:=Co (Int.lt_trans (show(-(10 ^ 70):Int)<0 by decide +kernel) k) (ye3 (Int.le_trans k2 p2) (by decide +kernel))
 unfold Bi Zm.lt Zm.lb;unfold JX OX
 simp![ld,n0,s0]
abbrev Sq:Stmt:=AO 67
def Jj:AI :=
 (Af (m2 By (AA 1) (BJ AE)) (AF (AU (m2 BO (m2 CN (AA 0) (m2 BL (mC (.int 5)) (m2 Be (mC (.int 3)) (AA 5)))) (mC (.int 1000003))) (AD 6))
 (C6 4 (B5 (AB (AY (AA 1) (m2 BO (AA 6) (m1 B0 (AA 1)))) (AB (AY (AA 2) (m2 BO (m2 CN (AA 6) (mC (.int 7))) (m1 B0 (AA 2)))) (AB (m2 Be (m2 BO (m2 CN (AA 6) (mC (.int 35))) (mC (.int 4))) (AA 3)) AE)))))) Ae)
def OW:AI :=
 (AF (CJ 4 (BJ AE))
 (AF (B3 (CM (AB (AY (BJ (BC (mC (.int 0)) (BC (mC (.int 0)) (BC (mC (.int 1)) (BC (mC (.int 1)) (BC (mC (.int 2)) AE)))))) (m2 BO (AA 0) (mC (.int 5)))) AE)) (AD 5) Jj)
 (AX (AA 4))))
def Gw:List T->Option Ru:=Ac 4 7 OW
abbrev XX:Fn:=⟨1,["_law_number","_law_watches","_law_words","_law_unit"],Gw⟩
abbrev zfc:Gx:=⟨[],[],[],[],false,true,true,none,[],[],[],true,[],[],[],[],[],[],[],[]⟩
abbrev zfj:Gm:=⟨["_law_number","_law_watches","_law_words","_law_unit","_law_looks_here","_law_k","_law_one"],(A2 Sq).names,[],0,[],["range","len"],[],["_law_looks_here"],[],false,[],[],[],zfc⟩
theorem zfv:Ck zfj XX Sq OW:={}
theorem EX(l:List α)(hl:l≠[])(i:Int):∃x∈l,A8 l (i.fmod (l.length:Int))=some x:=by
 have hp:0<l.length:=List.length_pos_iff.mpr hl;have h0:=yb3 i (show(0:Int)<(l.length:Int) by omega)
 have h1:=ybn i (show(0:Int)<(l.length:Int) by omega)
 have h2:(i.fmod (l.length:Int)).toNat<l.length:=by omega
 exact⟨l[(i.fmod (l.length:Int)).toNat],yau h2,Hs h0 (ya0 h2)⟩
theorem E2(f:α->T){l:List α}{i:Int}{x:α}(h:A8 l i=some x):A8 (l.map f) i=some (f x):=by
 unfold A8 at h ⊢;rw[ya1];cases hi:DN l.length i with
 |none=>rw[hi]at h;cases h
 |some j =>
  rw[hi]at h;have h':l[j]?=some x:=h;show(l.map f)[j]?=some (f x);rw[ya3,h']
  rfl
theorem Kx{l:List α}(h:l≠[]):((l.length:Nat):Int)≠0:=λz=>h (List.length_eq_zero_iff.mp (yeb z))
theorem Sy{a b:Int}(h1:0<=a)(h2:a<=100)(h3:0<=b)(h4:b<=100):CD (a+b)=true:=Co (Int.lt_of_lt_of_le (show(-(10 ^ 70):Int)<0 by decide +kernel) (Int.add_nonneg h1 h3)) (ye3 (Int.add_le_add h2 h4) (by decide +kernel))
theorem zht{l:List Str}(h:Bw l):Fit (.lst (l.map T.str)) 1:=Fit.nd λt ht=>by
 obtain⟨x,hx,rfl⟩:=yag.mp ht;exact Fit.str (h x hx) 0
theorem zne{l:List Str}(h:Bw l):By (.lst (l.map T.str)) (.lst [])=some (.bl (!decide (l=[]))):=by
 cases l with
 |nil=>rfl
 |cons a r =>
  rw[(Xb (zht h) (Fit.nd (o:=false) (k:=.lst) (l:=[]) (n:=0) λ_ z=>by cases z) (by decide)).2,yeo (yem a r)]
  have e:¬ ((T.lst ((a::r).map T.str)).data=(T.lst []).data):=λz=>by
   have z':PyData.list (BQ ((a::r).map T.str))=PyData.list (BQ []):=z;injection z' with z'
   cases z'
  rw[@decide_eq_false _ (Classical.propDecidable _) e]
abbrev sL(x:Int)(ws wd:List Str)(u:Int)(x4 x5 x6:Option T):AN:=[some (.int x),some (.lst (ws.map T.str)),some (.lst (wd.map T.str)),some (.int u),x4,x5,x6]
theorem Vk(tw:Bw ws)(hd:wd≠[])(x:Int)(hu:0<=u):∃g:List T,C0 ws wd g/\g.length<=2/\Gw [.int x,.lst (ws.map T.str),.lst (wd.map T.str),.int u]=some (.ok (.own g)):=by
 have hne:=zne tw;obtain⟨q,hq,eq⟩:=EX [0,0,1,1,2] (by decide) x
 have hq2:q<=2:=(show ∀q∈[0,0,1,1,2],q<=2 by decide) q hq
 have eq:A8 [T.int 0,T.int 0,T.int 1,T.int 1,T.int 2] (x.fmod 5)=some (.int (q:Int)):=E2 (λn:Nat=>T.int (n:Int)) eq
 obtain⟨τ,e,g,hl,hg,y5,y6,rfl⟩:=Du (b:=AD 5) (body:=Jj) (ts:=mT q λi=>.int (i:Int)) (τ:=sL x ws wd u (some (.own [])) none none)
  (λi τ=>∃g:List T,g.length<=i/\C0 ws wd g/\∃y5 y6,τ=sL x ws wd u (some (.own g)) y5 y6) ⟨[],yae 0,λ_ z=>(by cases z),none,none,rfl⟩ λi t τ h1 h2=>by
   obtain⟨hi,rfl⟩:=Ft h1;obtain⟨g,hl,hg,y5,y6,rfl⟩:=h2
   by_cases h0:ws=[]
   .refine⟨sL x ws wd u (some (.own g)) (some (.int (i:Int))) y6,(by simp![]),sL x ws wd u (some (.own g)) (some (.int (i:Int))) y6,?_,g,Nat.le_succ_of_le hl,hg,_,_,rfl⟩
    rw[yf6 h0]at hne;unfold Jj
    simp![A6,AW,hne]
   .rw[yeo h0]at hne;have m4:CA 3 (i:Int)=true:=E9 (Ce (by decide) (by decide))
    have n0:(5+3 * (i:Int)=0)=False:=eq_false (by omega)
    have s0:CD (5+3 * (i:Int))=true:=Sy (by decide) (by decide) (by lia) (by lia)
    obtain⟨b,hb⟩:∃b,(x.fdiv (5+3 * (i:Int))).fmod 1000003=b:=⟨_,rfl⟩;obtain⟨w,hw,ew⟩:=EX ws h0 b;obtain⟨o,ho,eo⟩:=EX wd hd (b.fdiv 7);have ew':=E2 T.str ew;have eo':=E2 T.str eo;have l0:=Kx h0;have l1:=Kx hd;have s7:CD 7=true:=Co (by decide) (by decide)
    have s35:CD 35=true:=Co (by decide) (by decide)
    have r0:=yb3 (b.fdiv 35) (show(0:Int)<4 by decide)
    have r1:=ybn (b.fdiv 35) (show(0:Int)<4 by decide)
    have m5:CA ((b.fdiv 35).fmod 4) u=true:=E9 (Ce (by omega) (by omega))
    have nn:0<=(b.fdiv 35).fmod 4 * u:=yda r0 hu;have ll:g.length<100000:=by omega
    refine⟨sL x ws wd u (some (.own g)) (some (.int (i:Int))) y6,(by simp![]),sL x ws wd u (some (.own (g++[.tup [.str w,.str o,.int ((b.fdiv 35).fmod 4 * u)]]))) (some (.int (i:Int))) (some (.int b)),?_,_,(by rw[yac,ybg];exact yeg hl),λt ht=>?_,_,_,rfl⟩
    .unfold Jj
     simp![A6,AW,hne,m4,n0,s0,hb,ya1,l0,l1,s7,s35,ew',eo',m5,ll]
    .rcases yba.mp ht with ht|ht
     .exact hg t ht
     .rw[ya8.mp ht];exact⟨w,o,_,rfl,hw,ho,nn⟩
 rw[Ca]at hl;have ok:Cq (q:Int)=true:=EV (by omega)
 have er:DT 0 q=mT q λi=>.int (i:Int):=Dm
 refine⟨g,hg,by omega,?_⟩
 unfold Gw OW
 simp![eq,ok,er,e,A6,AW]
abbrev Sl:Stmt:=AO 68
def Ou:AJ :=
 (m2 (CI λi j=>decide (j<i)) (AY (AA 0) (mC (.int 2))) (mC (.int 0)))
def QW:AJ :=
 (AA 0)
def Jg:AI :=
 (C6 6 (B5 (AB (AY (AA 1) (AA 7)) (AB (Ar 1 [] (Al (AS Gw (AB (AY (AA 5) (AA 7)) (AB (AA 2) (AB (BJ (BC (mC (.str "<")) (BC (mC (.str "<=")) AE))) (AB (AA 4) AE)))))) (AD 0) Ou QW) AE))))
def Ot:AJ :=
 (m2 Bn (m2 BO (m2 CN (AY (AA 2) (mC (.int 2))) (m2 BL (mC (.int 3)) (AA 0))) (mC (.int 2))) (mC (.int 1)))
def QV:AJ :=
 (AY (AA 1) (AA 0))
def Jf:AI :=
 (AF (AU (AS IF (AB (m2 CN (AA 0) (mC (.int 18))) (AB (AA 7) (AB (mC (.int 6)) AE)))) (AD 9))
 (AF (AU (Ar 1 [2,9] (CM (AB (m1 B0 (AA 2)) AE)) (AD 0) Ot QV) (AD 10))
 (AF (AU (AY (BJ (BC (mC (.str "")) (BC (m2 BL (AY (AA 3) (m2 BO (m2 CN (AY (AA 9) (mC (.int 4))) (mC (.int 4))) (mC (.int 2)))) (mC (.str "!"))) (BC (m2 BL (AY (AA 3) (m2 BO (m2 CN (AY (AA 9) (mC (.int 4))) (mC (.int 4))) (mC (.int 2)))) (mC (.str "?"))) (BC (mC (.str "")) AE))))) (m2 BO (AY (AA 9) (mC (.int 4))) (mC (.int 4)))) (AD 11))
 (AF (AU (AS Gw (AB (AY (AA 9) (mC (.int 3))) (AB (AA 2) (AB (BJ (BC (mC (.str "<=")) (BC (mC (.str ">=")) (BC (mC (.str ">")) (BC (mC (.str "=")) (BC (mC (.str "<")) AE)))))) (AB (AA 4) AE))))) (AD 12))
 (C6 8 (Fv Gy [] (AB (AY (AY (AA 6) (m2 BO (AY (AA 9) (mC (.int 0))) (m1 B0 (AA 6)))) (mC (.int 0))) (AB (AY (AY (AA 6) (m2 BO (AY (AA 9) (mC (.int 1))) (m1 B0 (AA 6)))) (mC (.int 0))) (AB (AA 12) (AB (AA 10) (AB (AA 11) AE)))))))))))
def Kq:AI :=
 (AF (AU (AS Ei (AB (AA 0) (AB (mC (.int 3)) AE))) (AD 5))
 (AF (CJ 6 (BJ AE))
 (AF (B3 (CM (AB (m2 BL (mC (.int 1)) (m2 BO (AA 0) (mC (.int 3)))) AE)) (AD 7) Jg)
 (AF (CJ 8 (BJ AE))
 (AF (B3 (CM (AB (m2 BO (m2 CN (AA 0) (mC (.int 3))) (mC (.int 6))) AE)) (AD 7) Jf)
 (AF (Dk 6) (AF (Dk 8) (AX (Fv GO [] (AB (m1 CK (AA 2)) (AB (AA 6) (AB (AA 8) AE))))))))))))
def MF:List T->Option Ru:=Ac 5 13 Kq
abbrev XT:Fn:=⟨8,["_law_cell","_law_names_here","_law_watches","_law_signs","_law_unit"],MF⟩
abbrev zhl:Gx:=⟨[],[],[],[("Door",P1,[(5,[])]),("Machine",PZ,[(3,[])])],false,true,true,none,[],[],[],true,[],[],[],[],[],[],[],[]⟩
abbrev zhp:Gm:=⟨["_law_cell","_law_names_here","_law_watches","_law_signs","_law_unit","_law_xs","_law_rooms","_law_k","_law_doors","_law_ys","_law_noughts","_law_sign","_law_guard"],(A2 Sl).names,["_law_watches","_law_ys"],7,[("_law_stream",LQ),("_law_looks",XX),("_law_draws",XZ)],["range","len","list"],[],["_law_rooms","_law_doors"],[],false,[],[],[],zhl⟩
theorem zi2:Ck zhp XT Sl Kq:={}
def DF(x:Str):Prop:=FD x/\1<=x.cps.size/\x.cps.size<=8
theorem Mu(h:DF x):Gr x:=.inr h
theorem zik(h:FD x):Ht x:=λi hi=>.inr (h i hi)
theorem zgj(ws:List Str):(List.range ws.length).map (λj=>ws.getD j "")=ws:=by
 refine ybq λi=>?_
 rw[ya3]
 by_cases hi:i<ws.length
 .rw[ybh hi,ya0 hi,yb1,ya2,ya0 hi]
  rfl
 .rw[yai (by simpa using hi),yai (by omega)]
  rfl
theorem zlq(h:FD y)(h1:1<=y.cps.size)(h8:y.cps.size<=8)(hz:z=""\/z=y++"!"\/z=y++"?"):Fb z:=by
 rcases hz with rfl|rfl|rfl
 .exact .inl rfl
 .exact .inr ⟨y,33,h,h1,h8,.inl rfl,by rw[Tx.cs_app,show Tx.cs (Str.ofString "!")=[33] by decide +kernel]⟩
 .exact .inr ⟨y,63,h,h1,h8,.inr rfl,by rw[Tx.cs_app,show Tx.cs (Str.ofString "?")=[63] by decide +kernel]⟩
abbrev sQ(c:Int)(nms ws:List Str)(n1 n2:Str)(u:Int)(x5 x6 x7 x8 x9 x10 x11 x12:Option T):AN:=[some (.int c),some (.lst (nms.map T.str)),some (.lst (ws.map T.str)),some (.lst [.str n1,.str n2]),some (.int u),x5,x6,x7,x8,x9,x10,x11,x12]
def Lg(ws:List Str)(r:Str×List T):Prop:=C0 ws Fg r.2/\r.2.length<=2/\∀t∈r.2,0<CT t
theorem zdp(tw:Bw ws)(nl:3<=nms.length){n1 n2:Str}(c:Int)(hu:0<=u)(xs:Nat->Int)(hi:i<3)(h1:rs.map (·.1)=nms.take i)(h2:∀r∈rs,Lg ws r):∃r:Str×List T,(rs++[r]).map (·.1)=nms.take (i+1)/\Lg ws r/\Jg (sQ c nms ws n1 n2 u (some (.lst (mT 3 λi=>.int (xs i)))) (some (.own (rs.map BX))) (some (.int (i:Int))) none none none none none)=some (.nx (sQ c nms ws n1 n2 u (some (.lst (mT 3 λi=>.int (xs i)))) (some (.own ((rs++[r]).map BX))) (some (.int (i:Int))) none none none none none)):=by
 obtain⟨g,hg,gl,eg⟩:=Vk tw (wd:=Fg) (by decide) (xs i) hu
 have eg:Gw [.int (xs i),.lst (ws.map T.str),.lst [.str "<",.str "<="],.int u]=some (.ok (.own g)):=eg;have hn:i<nms.length:=by omega
 have ax:A8 (mT 3 λi=>T.int (xs i)) (i:Int)=some (.int (xs i)):=FV hi
 have an:A8 (nms.map T.str) (i:Int)=some (.str nms[i]):=CZ (by rw[ya3,ya0 hn];rfl)
 have sg:=hg.sh
 have lc:=Ky (b:=AD 0) (mt:=Ou) (me:=QW) (λt:T=>t) (λt=>t) (λt=>decide (0<CT t)) (λτ=>∃a,τ=[a]) g [none] ⟨none,rfl⟩ λt ht τ hI=>by
  obtain⟨a,rfl⟩:=hI;obtain⟨x,y,n,rfl,_⟩:=hg t ht;refine⟨[some (.tup [.str x,.str y,.int n])],false,by simp![],?_,λ_=>?_,_,rfl⟩
  .unfold Ou
   simp![CT]
   rfl
  .unfold QW
   simp![]
 rw[ydw,ydw]at lc
 have gs:A3 (g.filter λt=>decide (0<CT t))=true:=by
  rw[DK,yal]at sg ⊢;exact λt ht=>sg t (ych.mp ht).1
 have gl2:=List.length_filter_le (λt=>decide (0<CT t)) g
 have l1:g.length<=100000:=by omega
 have rl:rs.length<100000:=by
  have:=congrArg List.length h1;rw[ya1,ybi]at this
  omega
 refine⟨(nms[i],g.filter λt=>decide (0<CT t)),?_,⟨λt ht=>hg t (ych.mp ht).1,by show(g.filter _).length<=2;omega,λt ht=>yfh (ych.mp ht).2⟩,?_⟩
 .rw[yar,h1,List.take_succ,ya0 hn]
  rfl
 .rw[yar];unfold Jg
  simp![A6,AW,an,ax,eg,sg,AG _ sg,lc,gs,AG _ gs,l1,ya1,rl]
theorem zfm{rn:List Str}(hw:∀x∈ws,DF x)(wd:ws.Nodup)(wl:ws.length<=2)(er:rs.map (·.1)=rn)(r0:rs≠[])(rl:rs.length<=3)(hr:∀r∈rs,Lg ws r){n1 n2:Str}(s1:DF n1)(s2:DF n2)(c:Int)(hu:0<=u){k:Nat}(hk:k<6){ds:List Dr}(dl:ds.length<100000)(x5:Option T){y9 y10 y11 y12:Option T}:∃d:Dr,DrOk ws rn d/\d.g.length<=2/\d.n.length<=2/\∃z9 z10 z11 z12,Jf (sQ c nms ws n1 n2 u x5 (some (.own (rs.map BX))) (some (.int (k:Int))) (some (.own (ds.map AM))) y9 y10 y11 y12)=some (.nx (sQ c nms ws n1 n2 u x5 (some (.own (rs.map BX))) (some (.int (k:Int))) (some (.own ((ds++[d]).map AM))) z9 z10 z11 z12)):=by
 have tw:Bw ws:=λy hy=>HF (Mu (hw y hy))
 obtain⟨ys,ed⟩:=zhv (c.fdiv 18) (k:=k) (m:=6) (by omega) (by omega) (by decide)
 have ed:IF [.int (c.fdiv 18),.int (k:Int),.int 6]=some (.ok (.own (mT 6 λi=>.int (ys i)))):=ed
 have a0:A8 (mT 6 λi=>T.int (ys i)) 0=some (.int (ys 0)):=FV (k:=0) (by decide)
 have a1:A8 (mT 6 λi=>T.int (ys i)) 1=some (.int (ys 1)):=FV (k:=1) (by decide)
 have a2:A8 (mT 6 λi=>T.int (ys i)) 2=some (.int (ys 2)):=FV (k:=2) (by decide)
 have a3:A8 (mT 6 λi=>T.int (ys i)) 3=some (.int (ys 3)):=FV (k:=3) (by decide)
 have a4:A8 (mT 6 λi=>T.int (ys i)) 4=some (.int (ys 4)):=FV (k:=4) (by decide)
 obtain⟨y,hy,ey⟩:=EX [n1,n2] (by simp) ((ys 4).fdiv 4)
 have ey':A8 [T.str n1,T.str n2] (((ys 4).fdiv 4).fmod 2)=some (.str y):=E2 T.str ey
 have sy:DF y:=by
  rcases ya9.mp hy with rfl|hy
  .exact s1
  .rw[ya8.mp hy];exact s2
 obtain⟨z,hz,ez⟩:=EX [(Str.ofString ""),y++"!",y++"?",""] (by simp) (ys 4)
 have ez':A8 [T.str (Str.ofString ""),T.str (y++Str.ofString "!"),T.str (y++Str.ofString "?"),T.str (Str.ofString "")] ((ys 4).fmod 4)=some (.str z):=E2 T.str ez
 have sz:Fb z:=zlq sy.1 sy.2.1 sy.2.2 (by
  simp only[ya9,yb7,yfe]at hz
  rcases hz with h|h|h|h
  .exact .inl h
  .exact .inr (.inl h)
  .exact .inr (.inr h)
  .exact .inl h)
 have yl:y.length<=8:=sy.2.2;have q1:y.length+(Str.ofString "!").length<=100000:=by rw[show(Str.ofString "!").length=1 by decide +kernel];omega
 have q2:y.length+(Str.ofString "?").length<=100000:=by rw[show(Str.ofString "?").length=1 by decide +kernel];omega
 obtain⟨b,hb,eb⟩:=EX rs r0 (ys 0);obtain⟨e,he,ee⟩:=EX rs r0 (ys 1);have eb':=E2 BX eb;have ee':=E2 BX ee;have l0:=Kx r0;obtain⟨g,hg,gl,eg⟩:=Vk tw (wd:=[Str.ofString "<=",Str.ofString ">=",Str.ofString ">",Str.ofString "=",Str.ofString "<"]) (by decide) (ys 3) hu
 have eg:Gw [.int (ys 3),.lst (ws.map T.str),.lst [.str "<=",.str ">=",.str ">",.str "=",.str "<"],.int u]=some (.ok (.own g)):=eg;have hg:C0 ws DR g:=hg.wide (by decide +kernel)
 have s4:CD 4=true:=Co (by decide) (by decide)
 have s18:CD 18=true:=Co (by decide) (by decide)
 have ok:Cq (ws.length:Int)=true:=EV (by omega)
 have er0:DT 0 ws.length=(List.range ws.length).map λ(k:Nat)=>T.int (k:Int):=Dm
 have lc:BD (AD 0) Ot QV ((List.range ws.length).map λ(k:Nat)=>T.int (k:Int)) [none,some (.lst (ws.map T.str)),some (.lst (mT 6 λi=>T.int (ys i)))]=some (((List.range ws.length).filter λ(j:Nat)=>((ys 2).fdiv (3+(j:Int))).fmod 2 == 1).map λj=>T.str (ws.getD j "")):=Ky (λ(k:Nat)=>T.int (k:Int)) (λj=>T.str (ws.getD j "")) (λ(j:Nat)=>((ys 2).fdiv (3+(j:Int))).fmod 2 == 1) (λτ=>∃a,τ=[a,some (.lst (ws.map T.str)),some (.lst (mT 6 λi=>T.int (ys i)))]) _ _ ⟨none,rfl⟩ λj hj τ hI=>by
  obtain⟨a,rfl⟩:=hI;have hj:=ybb.mp hj;have n0:(3+(j:Int)=0)=False:=eq_false (by omega)
  have s0:CD (3+(j:Int))=true:=Sy (by decide) (by decide) (by lia) (by lia)
  have aj:A8 (ws.map T.str) (j:Int)=some (.str (ws.getD j "")):=CZ (by rw[ya3,ya0 hj,ya2,ya0 hj];rfl)
  refine⟨[some (.int (j:Int)),some (.lst (ws.map T.str)),some (.lst (mT 6 λi=>T.int (ys i)))],false,by simp![],?_,λ_=>?_,_,rfl⟩
  .unfold Ot
   simp![a2,n0,s0,GJ]
  .unfold QV
   simp![AW,aj]
 obtain⟨ns,hns⟩:∃ns,((List.range ws.length).filter λ(j:Nat)=>((ys 2).fdiv (3+(j:Int))).fmod 2 == 1).map (λj=>ws.getD j "")=ns:=⟨_,rfl⟩
 have sub:ns.Sublist ws:=by
  rw[<- hns]
  conv=>rhs;rw[<- zgj ws]
  exact List.Sublist.map _ List.filter_sublist
 have en:((List.range ws.length).filter λ(j:Nat)=>((ys 2).fdiv (3+(j:Int))).fmod 2 == 1).map (λj=>T.str (ws.getD j ""))=ns.map T.str:=by rw[<- hns,yaq];rfl
 rw[en]at lc;have wl1:ws.length<=100000:=by omega
 have nl:ns.length<=2:=yak sub.length_le wl;have sg:=hg.sh;have hin:∀r∈rs,r.1∈rn:=λr hr=>by rw[<- er];exact yag.mpr ⟨r,hr,rfl⟩
 have D:DrOk ws rn ⟨b.1,e.1,g,ns,z⟩:=⟨hin b hb,hin e he,hg,yak gl (by decide),λx hx=>sub.subset hx,wd.sublist sub,yak nl (by decide),sz⟩
 have di:=di_ok D;have sb:=(hr b hb).1.sh;have se:=(hr e he).1.sh
 have srs:A3 (rs.map BX)=true:=BB λr hr'=>by
  have:=(hr r hr').1.sh
  simp![this]
 refine⟨_,D,gl,nl,some (.lst (mT 6 λi=>T.int (ys i))),some (.lst (ns.map T.str)),some (.str z),some (.lst g),?_⟩
 rw[yar];unfold Jf;refine sq (by simp![s18,ed];rfl) ?_
 refine sq (by simp![AW,A6,ya1,yb6,ok,er0,lc,wl1];rfl) ?_
 refine sq (by simp![a4,s4,ey',q1,q2,ez'];rfl) ?_
 refine sq (by simp![a3,eg,AW,A6,sg,AG _ sg];rfl) ?_
 simp![a0,a1,l0,eb',ee',AW,A6,sg,AG _ sg,srs,AG _ srs,sb,se,di,ya1,dl]
structure PtD(ws nms:List Str)(M:Mc):Prop where
 m:McOk M
 w:M.ws=ws
 n:∃b,b<3/\M.nm=nms.take (1+b)
 r:∀r∈M.rs,r.2.length<=2/\∀t∈r.2,0<CT t
 d:∀d∈M.ds,d.g.length<=2/\d.n.length<=2
theorem zji(hw:∀x∈ws,DF x)(wd:ws.Nodup)(wl:ws.length<=2)(hn:∀x∈nms.take 3,DF x)(nd:(nms.take 3).Nodup)(nl:3<=nms.length){n1 n2:Str}(s1:DF n1)(s2:DF n2)(c:Int)(hu:0<=u):∃M:Mc,PtD ws nms M/\MF [.int c,.lst (nms.map T.str),.lst (ws.map T.str),.lst [.str n1,.str n2],.int u]=some (.ok (AL M)):=by
 have tw:Bw ws:=λy hy=>HF (Mu (hw y hy))
 obtain⟨xs,ex⟩:=KC c (m:=3) (by decide)
 have ex:Ei [.int c,.int 3]=some (.ok (.own (mT 3 λi=>.int (xs i)))):=ex
 obtain⟨b,hb⟩:=yby (yb3 c (show(0:Int)<3 by decide))
 have b3:=ybn c (show(0:Int)<3 by decide)
 rw[hb]at b3;obtain⟨p,hp⟩:=yby (yb3 (c.fdiv 3) (show(0:Int)<6 by decide))
 have p6:=ybn (c.fdiv 3) (show(0:Int)<6 by decide)
 rw[hp]at p6
 obtain⟨τ,e,rs,q1,q2,y7,rfl⟩:=Du (b:=AD 7) (body:=Jg) (ts:=mT (1+b) λi=>.int (i:Int)) (τ:=sQ c nms ws n1 n2 u (some (.lst (mT 3 λi=>.int (xs i)))) (some (.own [])) none none none none none none)
  (λi τ=>∃rs:List (Str×List T),rs.map (·.1)=nms.take i/\(∀r∈rs,Lg ws r)/\∃y7,τ=sQ c nms ws n1 n2 u (some (.lst (mT 3 λi=>.int (xs i)))) (some (.own (rs.map BX))) y7 none none none none none) ⟨[],rfl,λ_ z=>(by cases z),none,rfl⟩ λi t τ h1 h2=>by
   obtain⟨hi,rfl⟩:=Ft h1;obtain⟨rs,k1,k2,y7,rfl⟩:=h2;obtain⟨r,r1,r2,er⟩:=zdp (n1:=n1) (n2:=n2) tw nl c hu xs (i:=i) (by omega) k1 k2
   refine⟨sQ c nms ws n1 n2 u (some (.lst (mT 3 λi=>.int (xs i)))) (some (.own (rs.map BX))) (some (.int (i:Int))) none none none none none,by simp![],_,er,rs++[r],r1,λx hx=>?_,some (.int (i:Int)),rfl⟩
   rcases yba.mp hx with hx|hx
   .exact k2 x hx
   .rw[ya8.mp hx];exact r2
 rw[Ca]at q1
 have rl:rs.length=1+b:=by
  have:=congrArg List.length q1;rw[ya1,ybi]at this
  omega
 have r0:rs≠[]:=λz=>by rw[z,yb0]at rl;omega
 obtain⟨τ2,e2,ds,d1,d2,z7,z9,z10,z11,z12,rfl⟩:=Du (b:=AD 7) (body:=Jf) (ts:=mT p λi=>.int (i:Int)) (τ:=sQ c nms ws n1 n2 u (some (.lst (mT 3 λi=>.int (xs i)))) (some (.own (rs.map BX))) y7 (some (.own [])) none none none none)
  (λi τ=>∃ds:List Dr,(∀d∈ds,DrOk ws (nms.take (1+b)) d/\d.g.length<=2/\d.n.length<=2)/\ds.length=i/\∃z7 z9 z10 z11 z12,τ=sQ c nms ws n1 n2 u (some (.lst (mT 3 λi=>.int (xs i)))) (some (.own (rs.map BX))) z7 (some (.own (ds.map AM))) z9 z10 z11 z12) ⟨[],λ_ z=>(by cases z),rfl,y7,none,none,none,none,rfl⟩ λi t τ h1 h2=>by
   obtain⟨hi,rfl⟩:=Ft h1;obtain⟨ds,k1,k2,z7,z9,z10,z11,z12,rfl⟩:=h2;obtain⟨d,g1,g2,g3,w9,w10,w11,w12,ed⟩:=zfm (nms:=nms) hw wd wl q1 r0 (by omega) q2 s1 s2 c hu (k:=i) (by omega) (ds:=ds) (by omega) (some (.lst (mT 3 λi=>.int (xs i)))) (y9:=z9) (y10:=z10) (y11:=z11) (y12:=z12)
   refine⟨sQ c nms ws n1 n2 u (some (.lst (mT 3 λi=>.int (xs i)))) (some (.own (rs.map BX))) (some (.int (i:Int))) (some (.own (ds.map AM))) z9 z10 z11 z12,by simp![],sQ c nms ws n1 n2 u (some (.lst (mT 3 λi=>.int (xs i)))) (some (.own (rs.map BX))) (some (.int (i:Int))) (some (.own ((ds++[d]).map AM))) w9 w10 w11 w12,ed,ds++[d],λx hx=>?_,by rw[yac,k2];rfl,some (.int (i:Int)),w9,w10,w11,w12,rfl⟩
   rcases yba.mp hx with hx|hx
   .exact k1 x hx
   .rw[ya8.mp hx];exact⟨g1,g2,g3⟩
 rw[Ca]at d2;have sub:∀x∈nms.take (1+b),x∈nms.take 3:=λx hx=>(List.take_subset_take_left nms (show 1+b<=3 by omega)) hx
 obtain⟨N,e1,e2',e3⟩:∃N:Mc,N.ws=ws/\N.rs=rs/\N.ds=ds:=⟨⟨ws,rs,ds⟩,rfl,rfl,rfl⟩
 have M:McOk N:=by
  refine⟨by rw[e1];exact λx hx=>Mu (hw x hx),by rw[e1];exact wd,by rw[e1];exact yak wl (by decide),?_,by rw[e1,e2',e3,q1];exact λd hd=>(d1 d hd).1,by rw[e3];omega⟩
  rw[e1,e2'];refine⟨by omega,by omega,λr hr=>?_,by rw[q1];exact nd.sublist (List.take_sublist_take_left (show 1+b<=3 by omega)),λr hr=>⟨(q2 r hr).1,yak (q2 r hr).2.1 (by decide)⟩⟩
  have:r.1∈nms.take (1+b):=by rw[<- q1];exact yag.mpr ⟨r,hr,rfl⟩
  obtain⟨k1,k2,k3⟩:=hn _ (sub _ this);exact⟨zik k1,k2,yak k3 (by decide)⟩
 refine⟨N,⟨M,e1,⟨b,by omega,by show N.rs.map (·.1)=_;rw[e2'];exact q1⟩,by rw[e2'];exact λr hr=>(q2 r hr).2,by rw[e3];exact λd hd=>(d1 d hd).2⟩,?_⟩
 have mi:GO [.lst (N.ws.map T.str),ET N.rs,.lst (N.ds.map AM)]=some (.ok (AL N)):=V7 M;have srs:=NR M.r;have sds:A3 (N.ds.map AM)=true:=M.sd;rw[e2']at srs;rw[e3]at sds;rw[e1,e2',e3]at mi;have s3:CD 3=true:=Co (by decide) (by decide)
 have ok1:Cq (1+(b:Int))=true:=EV (n:=1+b) (by omega)
 have t1:(1+(b:Int)).toNat=1+b:=by omega
 have er1:DT 0 (1+b)=mT (1+b) λi=>.int (i:Int):=Dm
 have ok2:Cq (p:Int)=true:=EV (by omega)
 have er2:DT 0 p=mT p λi=>.int (i:Int):=Dm
 have run:Kq (sQ c nms ws n1 n2 u none none none none none none none none)=some (.rt (AL N)):=by
  unfold Kq;refine sq (by simp![ex];rfl) ?_
  refine sq (by simp![];rfl) ?_
  refine sq (by simp![hb,ok1,t1,er1,e];rfl) ?_
  refine sq (by simp![];rfl) ?_
  refine sq (by simp![s3,hp,ok2,er2,e2];rfl) ?_
  simp![AW,A6,srs,AG _ srs,sds,AG _ sds,mi]
 unfold MF;unfold sQ at run
 simp![AW,A6,run]
abbrev Sj:Stmt:=AO 69
def M6:AI :=
 (AF (AU (AS FH (AB (AA 0) (AB (m2 BL (mC (.int 3)) (AA 4)) AE))) (AD 5))
 (AF (AU (Cb (Dt (AA 2) (some (m2 BL (mC (.int 12)) (m2 Be (mC (.int 2)) (AA 4)))) (some (m2 BL (m2 BL (mC (.int 12)) (m2 Be (mC (.int 2)) (AA 4))) (m2 BO (AA 5) (mC (.int 3)))))) (Ds (AA 2) (some (m2 BL (mC (.int 12)) (m2 Be (mC (.int 2)) (AA 4)))) (some (m2 BL (m2 BL (mC (.int 12)) (m2 Be (mC (.int 2)) (AA 4))) (m2 BO (AA 5) (mC (.int 3))))))) (AD 6))
 (AF (AU (AY (BJ (BC (mC (.int 0)) (BC (m2 Be (mC (.int 3)) (AA 4)) AE))) (m2 BO (m2 CN (AS FH (AB (AA 0) (AB (mC (.int 1)) AE))) (mC (.int 3))) (mC (.int 2)))) (AD 7))
 (C6 3 (AS MF (AB (m2 CN (AA 5) (mC (.int 3))) (AB (Cb (Dt (AA 2) (some (AA 7)) none) (Ds (AA 2) (some (AA 7)) none)) (AB (AA 6) (AB (Cb (Dt (AA 2) (some (mC (.int 20))) (some (mC (.int 22)))) (Ds (AA 2) (some (mC (.int 20))) (some (mC (.int 22))))) (AB (AA 1) AE))))))))))
def Kp:AI :=
 (AF (AU (AS JW (AB (AS FH (AB (AA 0) (AB (mC (.int 0)) AE))) (AB (mC (.int 26)) AE))) (AD 2))
 (AF (CJ 3 (BJ AE))
 (AF (B3 (CM (AB (m2 BL (mC (.int 1)) (m2 BO (AS FH (AB (AA 0) (AB (mC (.int 1)) AE))) (mC (.int 3)))) AE)) (AD 4) M6)
 (AX (AA 3)))))
def MD:List T->Option Ru:=Ac 2 8 Kp
abbrev XR:Fn:=⟨9,["_law_script","_law_unit"],MD⟩
abbrev zf9:Gx:=⟨[],[],[],[],false,true,true,none,[],[],[],true,[],[],[],[],[],[],[],[]⟩
abbrev zfg:Gm:=⟨["_law_script","_law_unit","_law_names_here","_law_parts_here","_law_i","_law_cell","_law_watches","_law_first"],(A2 Sj).names,[],8,[("_law_names",XU),("_law_cell_at",P0),("_law_part",XT)],["range"],[],["_law_parts_here"],[],false,[],[],[],zf9⟩
theorem zfs:Ck zfg XR Sj Kp:={}
def Cz(c:Int)(a n:Nat):List Str:=(List.range' a n).map (Bq c)
theorem N9(c:Int)(k:Nat):DF (Bq c k):=by
 refine⟨λi hi=>?_,znc c k,zjz c k⟩
 refine znd c k _ ?_;show(Bq c k).cps.getD i 0∈(Bq c k).cps.toList;rw[yc0,yb9 hi];exact Array.getElem_mem_toList hi
theorem Na(h:x∈Cz c a n):DF x:=by
 obtain⟨k,_,rfl⟩:=yag.mp h;exact N9 c k
theorem Vc{l:List Nat}(h:l.Nodup)(hl:∀k∈l,k<26):(l.map (Bq c)).Nodup:=by
 refine yee.mpr (h.imp_of_mem λ{a b} ha hb hab e=>hab (zh8 (hl a ha) (hl b hb) e))
theorem TN(a n:Nat):(List.range' a n).Nodup:=List.nodup_range'
theorem VX(h:a+n<=26):(Cz c a n).Nodup:=Vc (TN a n) λk hk=>by
 have:=(yef.mp hk)
 omega
theorem VY(c:Int)(a n:Nat):(Cz c a n).length=n:=by unfold Cz;rw[ya1,yd9]
theorem Xw(c:Int)(h:a+n<=26):CH (((List.range 26).map (Bq c)).map T.str) (some (a:Int)) (some ((a:Int)+(n:Int)))=(Cz c a n).map T.str:=by
 rw[JG,JG];unfold Cz
 congr 2
 unfold CH;have e1:HT.sIx (List.range 26).length 0 (some (a:Int))=a:=by rw[yb6];simp[HT.sIx];omega
 have e2:HT.sIx (List.range 26).length (List.range 26).length (some ((a:Int)+(n:Int)))=a+n:=by rw[yb6];simp[HT.sIx];omega
 rw[e1,e2];refine ybq λi=>?_
 by_cases hi:i<n
 .rw[yc5 (by omega),ycf,ybh (by omega),List.getElem?_range' hi]
  simp
 .rw[yai (by rw[ybi];omega),yai (by rw[yd9];omega)]
theorem zga(ts:List (List Str))(rs:List Str):(Bj ts rs).length=ts.length * rs.length:=by
 unfold Bj
 induction ts with
 |nil=>rw[yc3,yb0,Nat.zero_mul]
 |cons t ts ih=>rw[yat,yac,ih,ya1,yaj,ye2,ydi,ydt]
theorem zh7(c:Int):(mT 26 λk=>T.str (Bq c k))=((List.range 26).map (Bq c)).map T.str:=by rw[yaq];rfl
theorem zkt(c:Int)(h:a<=26):CH (((List.range 26).map (Bq c)).map T.str) (some (a:Int)) none=(Cz c a (26 - a)).map T.str:=by
 rw[JG,JG];unfold Cz
 congr 2
 unfold CH;have e1:HT.sIx (List.range 26).length 0 (some (a:Int))=a:=by rw[yb6];simp[HT.sIx];omega
 have e2:HT.sIx (List.range 26).length (List.range 26).length none=26:=rfl;rw[e1,e2];refine ybq λi=>?_
 by_cases hi:i<26 - a
 .rw[yc5 (by omega),ycf,ybh (by omega),List.getElem?_range' hi]
  simp
 .rw[yai (by rw[ybi];omega),yai (by rw[yd9];omega)]
structure PsJ(c:Int)(i:Nat)(Ms:List Mc):Prop where
 l:Ms.length=i
 m:∀M∈Ms,McOk M
 s:∀M∈Ms,M.nm.length<=3/\∀x∈M.nm,DF x
 r:∀M∈Ms,∀r∈M.rs,r.2.length<=2/\∀t∈r.2,0<CT t
 d:∀M∈Ms,∀d∈M.ds,d.g.length<=2/\d.n.length<=2
 w:∃ks:List Nat,Ms.flatMap Mc.ws=ks.map (Bq c)/\ks.Nodup/\(∀k∈ks,12<=k/\k<12+2 * i)/\ks.length<=2 * i
theorem zgv{f:Nat}(hi:i<3)(ha:a<3){Ms:List Mc}(h:PsJ c i Ms){M:Mc}(hM:PtD (Cz c (12+2 * i) a) (Cz c f (26 - f)) M):PsJ c (i+1) (Ms++[M]):=by
 obtain⟨ks,e,k1,k2,k3⟩:=h.w;obtain⟨b,b3,en⟩:=hM.n;have spl:∀{Q:Mc->Prop},(∀M∈Ms,Q M)->Q M->∀N∈Ms++[M],Q N:=λh1 h2 N hN=>(yba.mp hN).elim (h1 N) λz=>by rw[ya8.mp z];exact h2
 refine⟨by rw[yac,h.l];rfl,spl h.m hM.m,spl h.s ⟨by rw[en,ybi];omega,λx hx=>?_⟩,spl h.r hM.r,spl h.d hM.d,ks++List.range' (12+2 * i) a,?_,?_,λk hk=>?_,?_⟩
 .rw[en]at hx;exact Na (ycz hx)
 .rw[List.flatMap_append,e,yar,yat,yc3,yay,hM.w]
  rfl
 .refine yde.mpr ⟨k1,TN _ _,λx hx y hy=>?_⟩
  have h1:=k2 x hx;have h2:=yef.mp hy
  omega
 .rcases yba.mp hk with hk|hk
  .have:=k2 k hk
   omega
  .have:=yef.mp hk
   omega
 .rw[yac,yd9]
  omega
abbrev sP(ns:List Int)(c u:Int)(Ms:List Mc)(x4 x5 x6 x7:Option T):AN:=[some (Cn ns),some (.int u),some (.lst (((List.range 26).map (Bq c)).map T.str)),some (.own (Ms.map AL)),x4,x5,x6,x7]
theorem zh1{ns:List Int}(u0:0<=u):∃(c:Int) (n:Nat) (Ms:List Mc),1<=n/\n<=3/\PsJ c n Ms/\MD [Cn ns,.int u]=some (.ok (.own (Ms.map AL))):=by
 obtain⟨c,hc⟩:∃c,ns.getD 0 0=c:=⟨_,rfl⟩;obtain⟨c1v,hc1⟩:∃c,ns.getD 1 0=c:=⟨_,rfl⟩;have c0:=L4 ns (k:=0) (by decide)
 have c1:=L4 ns (k:=1) (by decide)
 rw[show(0:Int).toNat=0 from rfl,hc]at c0;rw[show(1:Int).toNat=1 from rfl,hc1]at c1;have nm:=zh9 c (m:=26) (by decide)
 have nm:JW [.int c,.int 26]=some (.ok (.own (mT 26 λk=>.str (Bq c k)))):=nm
 rw[zh7]at nm;obtain⟨q,hq⟩:=yby (yb3 c1v (show(0:Int)<3 by decide))
 have hq3:=ybn c1v (show(0:Int)<3 by decide)
 rw[hq]at hq3;have F:=Mw ns;have F2:=Mv ns;have tn:BF (((List.range 26).map (Bq c)).map T.str)=((List.range 26).map (Bq c)).map T.str:=A6 _;have sn:=AW ((List.range 26).map (Bq c));have s3:CD 3=true:=Co (by decide) (by decide)
 obtain⟨τ,e,Ms,hM,y4,y5,y6,y7,rfl⟩:=Du (b:=AD 4) (body:=M6) (ts:=mT (1+q) λi=>.int (i:Int)) (τ:=sP ns c u [] none none none none)
  (λi τ=>∃Ms:List Mc,PsJ c i Ms/\∃y4 y5 y6 y7,τ=sP ns c u Ms y4 y5 y6 y7) ⟨[],⟨rfl,λ_ z=>(by cases z),λ_ z=>(by cases z),λ_ z=>(by cases z),λ_ z=>(by cases z),[],rfl,List.nodup_nil,λ_ z=>(by cases z),ybr _⟩,none,none,none,none,rfl⟩ λi t τ h1 h2=>by
   obtain⟨hi,rfl⟩:=Ft h1;obtain⟨Ms,hM,y4,y5,y6,y7,rfl⟩:=h2;have i3:i<3:=by omega
   have ci:=L4 ns (k:=3+(i:Int)) (by omega)
   obtain⟨x,hx⟩:∃x,ns.getD (3+(i:Int)).toNat 0=x:=⟨_,rfl⟩;rw[hx]at ci;obtain⟨a,ea⟩:=yby (yb3 x (show(0:Int)<3 by decide))
   have ha:=ybn x (show(0:Int)<3 by decide)
   rw[ea]at ha;obtain⟨f,hf,ef⟩:=EX [0,3 * i] (by simp) (c1v.fdiv 3)
   have f6:f<=6:=by
    simp only[ya9,yb7,yfe]at hf
    omega
   have ef:A8 [T.int 0,T.int (3 * (i:Int))] ((c1v.fdiv 3).fmod 2)=some (.int (f:Int)):=by
    have:=E2 (λn:Nat=>T.int (n:Int)) ef
    rw[yad,yad,yc6,show((3 * i:Nat):Int)=3 * (i:Int) by omega]at this
    exact this
   have k1:=Xw c (a:=12+2 * i) (n:=a) (by omega)
   rw[show((12+2 * i:Nat):Int)=12+2 * (i:Int) by omega]at k1
   have k2:=zkt c (a:=f) (by omega)
   have k3:=Xw c (a:=20) (n:=2) (by omega)
   have k3:CH (((List.range 26).map (Bq c)).map T.str) (some 20) (some 22)=[.str (Bq c 20),.str (Bq c 21)]:=k3;have m2:CA 2 (i:Int)=true:=E9 (Ce (by decide) (by decide))
   have m3:CA 3 (i:Int)=true:=E9 (Ce (by decide) (by decide))
   have nd3:((Cz c f (26 - f)).take 3).Nodup:=(VX (c:=c) (a:=f) (n:=26 - f) (by omega)).sublist (List.take_sublist _ _)
   obtain⟨M,dM,em⟩:=zji (nms:=Cz c f (26 - f)) (ws:=Cz c (12+2 * i) a) (λx hx=>Na hx) (VX (by omega)) (by rw[VY];omega) (λx hx=>Na (ycz hx)) nd3 (by rw[VY];omega) (N9 c 20) (N9 c 21) (x.fdiv 3) u0
   have sm:=C9 dM.m;have ll:Ms.length<100000:=by rw[hM.l];omega
   refine⟨sP ns c u Ms (some (.int (i:Int))) y5 y6 y7,by simp![],sP ns c u (Ms++[M]) (some (.int (i:Int))) (some (.int x)) (some (.lst ((Cz c (12+2 * i) a).map T.str))) (some (.int (f:Int))),?_,Ms++[M],zgv i3 (by omega) hM dM,some (.int (i:Int)),some (.int x),some (.lst ((Cz c (12+2 * i) a).map T.str)),some (.int (f:Int)),rfl⟩
   unfold sP;rw[yar];unfold M6;refine sq (τ':=sP ns c u Ms (some (.int (i:Int))) (some (.int x)) y6 y7) (by simp![F,F2,ci]) ?_
   refine sq (τ':=sP ns c u Ms (some (.int (i:Int))) (some (.int x)) (some (.lst ((Cz c (12+2 * i) a).map T.str))) y7) (by simp![sn,tn,m2,ea,k1,A6]) ?_
   refine sq (τ':=sP ns c u Ms (some (.int (i:Int))) (some (.int x)) (some (.lst ((Cz c (12+2 * i) a).map T.str))) (some (.int (f:Int)))) (by simp![F,F2,c1,m3,s3,ef]) ?_
   simp![sn,tn,s3,k2,k3,AW,A6,em,sm,Ao _ sm,ya1,ll]
 rw[Ca]at hM;have ok:Cq (1+(q:Int))=true:=EV (n:=1+q) (by omega)
 have tq:(1+(q:Int)).toNat=1+q:=by omega
 have er:DT 0 (1+q)=mT (1+q) λi=>.int (i:Int):=Dm
 refine⟨c,1+q,Ms,by omega,by omega,hM,?_⟩
 have run:Kp [some (Cn ns),some (.int u),none,none,none,none,none,none]=some (.rt (.own (Ms.map AL))):=by
  unfold Kp;refine sq (τ':=[some (Cn ns),some (.int u),some (.lst (((List.range 26).map (Bq c)).map T.str)),none,none,none,none,none]) (by simp![F,F2,c0,nm,A6]) ?_
  refine sq (τ':=sP ns c u [] none none none none) (by simp![];rfl) ?_
  refine sq (by simp![F,F2,c1,hq,ok,tq,er,e];rfl) ?_
  simp![]
 unfold MD
 simp![F,F2,run]
theorem zie{ts:List (List Str)}{rs:List Str}(h1:ts.Nodup)(h2:rs.Nodup):(Bj ts rs).Nodup:=by
 unfold Bj;refine List.pairwise_flatMap.mpr ⟨λt _=>yee.mpr (h2.imp λ{a b} hab e=>hab ?_),h1.imp λ{a b} hab x hx y hy e=>hab ?_⟩
 .have:=List.append_cancel_left e;injection this
 .obtain⟨r,_,rfl⟩:=yag.mp hx;obtain⟨r',_,rfl⟩:=yag.mp hy;exact(List.append_inj' e rfl).1
theorem Wg:∀(rss ts:List (List Str)),ts.Nodup->(∀rs∈rss,rs.Nodup)->(rss.foldl Bj ts).Nodup
 |[],_,h,_=>h
 |rs::rss,ts,h,hr=>Wg rss (Bj ts rs) (zie h (hr rs (ya5 ..))) λx hx=>hr x (ya4 _ hx)
theorem LB(t:List Str):Tx.cs (Av t)=Tx.joinL 47 (t.map Tx.cs):=by
 have e:(Str.ofString "/")=⟨#[47]⟩:=Tx.cs_ext (by decide +kernel)
 have j:Av t=Str.join (Str.ofString "/") t:=eq_of_beq (PyProof.Rows.join_plain_closes _ _);rw[j,e,Tx.cs_join]
theorem WB{c x:Nat}:∀{l:List (List Nat)},x∈Tx.joinL c l->x=c\/∃p∈l,x∈p
 |[],h=>by cases h
 |[a],h=>.inr ⟨a,ya8.mpr rfl,h⟩
 |a::b::r,h=>by
  have h':x∈a++c::Tx.joinL c (b::r):=h
  rcases yba.mp h' with h'|h'
  .exact .inr ⟨a,ya5 ..,h'⟩
  .rcases ya9.mp h' with h'|h'
   .exact .inl h'
   .rcases WB h' with h'|⟨p,hp,h'⟩
    .exact .inl h'
    .exact .inr ⟨p,ya4 _ hp,h'⟩
theorem WC{c m:Nat}:∀{l:List (List Nat)},(∀p∈l,p.length<=m)->(Tx.joinL c l).length<=l.length * (m+1)
 |[],_=>ybr _
 |[a],h=>by
  have:=h a (ya8.mpr rfl);show a.length<=1 * (m+1)
  omega
 |a::b::r,h=>by
  have h1:=h a (ya5 ..);have h2:=WC (c:=c) (l:=b::r) λp hp=>h p (ya4 _ hp)
  show(a++c::Tx.joinL c (b::r)).length<=_;rw[yac,yaj,yaj (a:=a),ye2,ydi]
  omega
theorem R9(h:DF x):∀c∈Tx.cs x,c≠47:=λc hc z=>by
 have:=IV h.1 c hc
 omega
theorem jn_ok{t:List Str}(h0:t≠[])(hl:t.length<=6)(h:∀r∈t,DF r):Ht (Av t)/\1<=(Av t).cps.size/\(Av t).cps.size<=60:=by
 have sz:(Av t).cps.size=(Tx.joinL 47 (t.map Tx.cs)).length:=by rw[<- LB];rfl
 refine⟨λi hi=>?_,?_,?_⟩
 .have hm:(Av t).cps.getD i 0∈Tx.cs (Av t):=by
   rw[yc0,yb9 hi];exact Array.getElem_mem_toList hi
  rw[LB]at hm
  rcases WB hm with hm|⟨p,hp,hm⟩
  .exact .inl hm
  .obtain⟨r,hr,rfl⟩:=yag.mp hp;exact .inr (IV (h r hr).1 _ hm)
 .rw[sz];cases t with
  |nil=>exact absurd rfl h0
  |cons a r =>
   have ha:1<=(Tx.cs a).length:=(h a (ya5 ..)).2.1;cases r with
   |nil=>exact ha
   |cons b r =>
    show 1<=(Tx.cs a++47::Tx.joinL 47 ((b::r).map Tx.cs)).length;rw[yac]
    omega
 .rw[sz]
  have:=WC (c:=47) (m:=8) (l:=t.map Tx.cs) λp hp=>by
   obtain⟨r,hr,rfl⟩:=yag.mp hp;exact(h r hr).2.2
  rw[ya1]at this
  omega
theorem znw{t u:List Str}(ht:t≠[])(hu:u≠[])(h1:∀r∈t,DF r)(h2:∀r∈u,DF r)(e:Av t=Av u):t=u:=by
 have e':=congrArg Tx.cs e;rw[LB,LB]at e';refine Tx.map_cs_inj (Tx.joinL_inj (by simpa using ht) (by simpa using hu) (λp hp z=>?_) (λp hp z=>?_) e')
 .obtain⟨r,hr,rfl⟩:=yag.mp hp;exact R9 (h1 r hr) 47 z rfl
 .obtain⟨r,hr,rfl⟩:=yag.mp hp;exact R9 (h2 r hr) 47 z rfl
theorem Wj:∀(rss ts:List (List Str)),(∀rs∈rss,rs.length<=3)->(rss.foldl Bj ts).length<=ts.length * 3 ^ rss.length
 |[],ts,_=>by simp
 |rs::rss,ts,h=>by
  have q:=Wj rss (Bj ts rs) λx hx=>h x (ya4 _ hx)
  rw[yds,yaj,Nat.pow_succ];rw[zga]at q;refine yak q ?_;have:=Nat.mul_le_mul_left ts.length (h rs (ya5 ..));have:=Nat.mul_le_mul_right (3 ^ rss.length) this;rw[Nat.mul_comm (3 ^ rss.length) 3,<- Nat.mul_assoc];exact this
section
variable {Ms:List Mc}(h1:1<=n)(h3:n<=3)(h:PsJ c n Ms)
include h1 h3 h
theorem ms_ok:MsOk Ms:=by
 obtain⟨ks,e,k1,k2,k4⟩:=h.w;exact⟨by rw[h.l];exact h1,by rw[h.l];omega,h.m,by rw[e,ya1];omega,by rw[e];exact Vc k1 λk hk=>by have:=k2 k hk;omega⟩
theorem zl9:∀t∈tak (Ms.map Mc.nm),t≠[]/\t.length<=6/\∀r∈t,DF r:=λt ht=>by
 obtain⟨k1,k2⟩:=Mf ht;rw[ya1,h.l]at k1;refine⟨λz=>by rw[z,yb0]at k1;omega,by omega,λr hr=>?_⟩
 obtain⟨i,e⟩:=yck.mp hr;obtain⟨rs,e1,e2⟩:=k2 i r e;rw[ya3]at e1;obtain⟨M,e3,rfl⟩:=yah.mp e1;exact(h.s M (yab e3)).2 r e2
theorem rm_ok:RmOk Ms:=by
 have key:=zl9 h1 h3 h;refine⟨λi hi=>?_,λM hM r hr=>yak ((h.s M hM).2 r hr).2.2 (by decide),λt ht=>?_,?_⟩
 .have q:=Wj ((Ms.take i).map Mc.nm) [[]] λrs hrs=>by
   obtain⟨M,hM,rfl⟩:=yag.mp hrs;exact(h.s M (ycz hM)).1
  have l:=h.l;have:3 ^ ((Ms.take i).map Mc.nm).length<=3 ^ 3:=Nat.pow_le_pow_right (by decide) (by rw[ya1,ybi];omega)
  unfold tak;rw[ybg,ydi]at q;exact yak q (yak this (by decide))
 .obtain⟨k1,k2,k3⟩:=key t ht;exact jn_ok k1 k2 k3
 .have nd:(tak (Ms.map Mc.nm)).Nodup:=Wg _ _ (by simp) λrs hrs=>by
   obtain⟨M,hM,rfl⟩:=yag.mp hrs;exact(h.m M hM).r.nd
  exact yee.mpr (nd.imp_of_mem λ{a b} ha hb hab e=>hab (znw (key a ha).1 (key b hb).1 (key a ha).2.2 (key b hb).2.2 e))
theorem fw_ok:FwOk Ms:=⟨λM hM r hr=>yak (h.r M hM r hr).1 (by decide),λM hM d hd=>yak (h.d M hM d hd).1 (by decide),λM hM d hd=>yak (h.d M hM d hd).2 (by decide)⟩
end
abbrev So:Stmt:=AO 70
def Kr:AI :=
 (AF (AU (AA 0) (Ap 3 (AQ (AD 6) (AQ (AD 7) (AQ (AD 8) Aq)))))
 (AF (AU (AY (AA 2) (Gg (AA 1) (AA 6))) (AD 4))
 (AF (AU (m2 Be (AA 8) (AA 3)) (AD 5))
 (AX (Bu (CP (m2 (CI λi j=>decide (i<j)) (AA 4) (AA 5)) (m2 CY (mC (.str "<")) (AA 7))) (Bu (CP (m2 (CI λi j=>decide (j<i)) (AA 4) (AA 5)) (m2 CY (mC (.str ">")) (AA 7))) (CP (m2 Bn (AA 4) (AA 5)) (m2 CY (mC (.str "=")) (AA 7)))))))))
def IE:List T->Option Ru:=Ac 4 9 Kr
abbrev XW:Fn:=⟨1,["_law_look","_law_watches","_law_values","_law_parts_here"],IE⟩
abbrev zfb:Gx:=⟨[],[],[],[],false,true,true,none,[],[],[],true,[],[],[],[],[],[],[],[]⟩
abbrev zfi:Gm:=⟨["_law_look","_law_watches","_law_values","_law_parts_here","_law_value","_law_far","_law_watch","_law_word","_law_number"],(A2 So).names,[],0,[],[],[],[],[],false,[],[],[],zfb⟩
theorem zfu:Ck zfi XW So Kr:={}
theorem Q0{m m':AJ}{x y b:Bool}(h:m τ=some (.v (.bl x) b))(h':m' τ=some (.v (.bl y) false)):CP m m' τ=some (.v (.bl (x && y)) false):=by
 unfold CP DX;rw[h];cases x
 .rfl
 .exact h'
theorem Tw{m m':AJ}{x y b:Bool}(h:m τ=some (.v (.bl x) b))(h':m' τ=some (.v (.bl y) false)):Bu m m' τ=some (.v (.bl (x || y)) false):=by
 unfold Bu DX;rw[h];cases x
 .exact h'
 .rfl
theorem ret_v{m:AJ}{t:T}{b:Bool}(h:m τ=some (.v t b)):AX m τ=some (.rt t):=by
 unfold AX;rw[h]
theorem Va(p1:0<P)(p2:P<=100)(wl:ws.length<=7)(hv:vs.length=ws.length){t:T}(ht:∃x y n,t=.tup [.str x,.str y,.int n]/\x∈ws/\y∈DR/\0<=n):IE [t,.lst (ws.map T.str),.lst (vs.map T.int),.int P]=some (.ok (.bl (Br P ws vs t))):=by
 obtain⟨x,y,n,rfl,hx,hy,hn⟩:=ht;obtain⟨j,ej,hj,_⟩:=Gj hx;have hv':j<vs.length:=by omega
 have av:A8 (vs.map T.int) (j:Int)=some (.int vs[j]):=CZ (by rw[ya3,ya0 hv'];rfl)
 have ev:Br P ws vs (.tup [.str x,.str y,.int n])=Cm y n vs[j] P:=by
  unfold Br Cu;show Cm y n (vs.getD ((Bm ws x).getD 0) 0) P=_;rw[ej,ybe,ya2,ya0 hv']
  rfl
 have m1:CA n P=true:=FU (Ce (by omega) (by omega))
 have l1:ws.length<1000000:=by omega
 have si:A3 (vs.map T.int)=true:=BB λ_ _=>rfl
 rw[ev];generalize vs[j]=v at *
 have eb:(v == n * P)=(!decide (v<n * P) && !decide (n * P<v)):=by
  rw[yc8,yfb,ya7,ybs,ybs,yfr,yfr]
  omega
 have no:decide (v<n * P)=true->decide (n * P<v)=false:=λh=>yeo (by have:=yfh h;omega)
 suffices key:∀a b c:Bool,CY (.str "<") (.str y)=some (.bl a)->CY (.str ">") (.str y)=some (.bl b)->CY (.str "=") (.str y)=some (.bl c)->((decide (v<n * P) && a) || ((decide (n * P<v) && b) || ((v == n * P) && c)))=Cm y n v P->IE [.tup [.str x,.str y,.int n],.lst (ws.map T.str),.lst (vs.map T.int),.int P]=some (.ok (.bl (Cm y n v P))) by
  have c5:y=Str.ofString "<"\/y=Str.ofString "<="\/y=Str.ofString ">"\/y=Str.ofString ">="\/y=Str.ofString "=":=by
   simpa[DR] using hy
  rw[eb]at key
  rcases c5 with rfl|rfl|rfl|rfl|rfl
  .refine key true false false (by ext) (by ext) (by ext) ?_
   rw[show Cm (Str.ofString "<") n v P=decide (v<n * P) from rfl];cases decide (v<n * P)<;>cases decide (n * P<v)<;>rfl
  .refine key true false true (by ext) (by ext) (by ext) ?_
   rw[show Cm (Str.ofString "<=") n v P=!decide (n * P<v) from rfl];cases h:decide (v<n * P)<;>cases h2:decide (n * P<v)<;>first|rfl|(have:=no h;rw[h2]at this;cases this)
  .refine key false true false (by ext) (by ext) (by ext) ?_
   rw[show Cm (Str.ofString ">") n v P=decide (n * P<v) from rfl];cases decide (v<n * P)<;>cases decide (n * P<v)<;>rfl
  .refine key false true true (by ext) (by ext) (by ext) ?_
   rw[show Cm (Str.ofString ">=") n v P=!decide (v<n * P) from rfl];cases h:decide (v<n * P)<;>cases h2:decide (n * P<v)<;>first|rfl|(have:=no h;rw[h2]at this;cases this)
  .refine key false false true (by ext) (by ext) (by ext) ?_
   rw[show Cm (Str.ofString "=") n v P=(!decide (v<n * P) && !decide (n * P<v)) from rfl];cases decide (v<n * P)<;>cases decide (n * P<v)<;>rfl
 intro a b c i1 i2 i3 hs;rw[<- hs]
 have run:Kr [some (.tup [.str x,.str y,.int n]),some (.lst (ws.map T.str)),some (.lst (vs.map T.int)),some (.int P),none,none,none,none,none]=some (.rt (.bl ((decide (v<n * P) && a) || ((decide (n * P<v) && b) || ((v == n * P) && c))))):=by
  unfold Kr;refine sq (by simp![];rfl) ?_
  refine sq (by simp![Gg,HQ,AW,ej,l1,av,si];rfl) ?_
  refine sq (by simp![m1];rfl) ?_
  exact ret_v (Tw (Q0 (b:=false) (by simp![]) (by simp![i1])) (Tw (Q0 (b:=false) (by simp![]) (by simp![i2])) (Q0 (b:=false) (by simp![GJ]) (by simp![i3]))))
 unfold IE
 simp![AW,A6,si,AG _ si,run]
abbrev Sg:Stmt:=AO 71
def QT:AJ :=
 (m2 BL (AA 0) (AA 1))
def Jc:AI :=
 (Af (Ay (AS IE (AB (AA 7) (AB (AA 5) (AB (AA 6) (AB (AA 4) AE)))))) (AX (mC .non)) Ae)
def QS:AJ :=
 (DX (m2 CY (AY (AA 3) (AA 0)) (Bl Ah Am GP (AA 1) AE)) (mC (.int 0)) (AY (AA 2) (AA 0)))
def L8:AJ :=
 (AS IE (AB (AA 0) (AB (AA 3) (AB (AA 2) (AB (AA 1) AE)))))
def Km:AI :=
 (AF (AU (Bl A5 Ag Eg (AA 0) AE) (AD 5))
 (AF (AU (Ar 1 [2] (Al (AY (AA 1) (mC (.int 1)))) (AD 0) (mC (.bl true)) QT) (AD 6))
 (AF (Af (m2 By (B7 Ah Am 0 (AA 3)) (AY (AA 1) (mC (.int 0)))) (AX (mC .non)) Ae)
 (AF (B3 (Al (m2 BL (Bl A5 Ag FG (AA 0) (AB (AY (AA 1) (mC (.int 0))) AE)) (Bl Ah Am GQ (AA 3) AE))) (AD 7) Jc)
 (AF (AU (Ar 1 [3,6,5] (CM (AB (m1 B0 (AA 5)) AE)) (AD 0) (mC (.bl true)) QS) (AD 6))
 (AF (Af (Ay (m1 DE (Ar 1 [4,6,5] (Al (Bl A5 Ag FG (AA 0) (AB (B7 Ah Am 1 (AA 3)) AE))) (AD 0) (mC (.bl true)) L8))) (AX (mC .non)) Ae)
 (AX (B5 (AB (B7 Ah Am 1 (AA 3)) (AB (AA 6) AE))))))))))
def MC:List T->Option Ru:=Ac 5 8 Km
abbrev XN:Fn:=⟨2,["_law_whole","_law_stand","_law_wait","_law_door","_law_parts_here"],MC⟩
abbrev zd0:Gx:=⟨[],[("Door",Ah,Am)],[("watches",A5,Ag,Hi),("stay",A5,Ag,LO),("asks",Ah,Am,LV),("sets",Ah,Am,LU)],[],false,true,true,none,[],[],[],true,[],[],[],[],[],[],[],[]⟩
abbrev zd8:Gm:=⟨["_law_whole","_law_stand","_law_wait","_law_door","_law_parts_here","_law_watches","_law_values","_law_look"],(A2 Sg).names,["_law_wait","_law_door","_law_parts_here","_law_watches","_law_values"],1,[("_law_meets",XW)],["range","len","all"],[],[],[],false,[],[],[],zd0⟩
theorem zdi:Ck zd8 XN Sg Km:={}
theorem We{α:Type}{b:T->AN->Option AN}{body:AI}(f:α->T)(p:α->Bool)(t0:T)(I:AN->Prop):∀(L:List α) (τ:AN),I τ->(∀x∈L,∀τ,I τ->∃τ1,b (f x) τ=some τ1/\(p x=true->∃τ2,body τ1=some (.nx τ2)/\I τ2)/\(p x=false->body τ1=some (.rt t0)))->(L.all p=true->∃τ',B9 b body (L.map f) τ=some (.nx τ')/\I τ')/\(L.all p=false->B9 b body (L.map f) τ=some (.rt t0))
 |[],τ,h,_=>⟨λ_=>⟨τ,rfl,h⟩,λz=>by cases z⟩
 |x::L,τ,h,hs=>by
  obtain⟨τ1,e1,h1,h2⟩:=hs x (ya5 ..) τ h;rw[yad,List.all_cons];unfold B9;rw[e1];cases hp:p x with
  |false =>
   refine⟨λz=>(by cases z),λ_=>?_⟩
   simp only[h2 hp]
  |true =>
   obtain⟨τ2,e2,i2⟩:=h1 hp;rw[Bool.true_and];simp only[e2];exact We f p t0 I L τ2 i2 λy hy=>hs y (ya4 _ hy)
abbrev BZ(s:Str×List Int):T:=.tup [.str s.1,.lst (s.2.map T.int)]
abbrev N0:Option (Str×List Int)->T
 |none=>.non
 |some s=>BZ s
theorem DA(vs:List Int):A3 (vs.map T.int)=true:=BB λ_ _=>rfl
def Dj(P:Int)(M:Mc)(s:Str×List Int)(w:Int)(d:Dr):Option (Str×List Int) :=
 if d.s=s.1/\((BU M s.1)++d.g).all (Br P M.ws (s.2.map (·+w)))=true/\Bg P M d.e (BM M d (s.2.map (·+w)))=true then some (d.e,BM M d (s.2.map (·+w))) else none
abbrev sT(P:Int)(M:Mc)(s:Str×List Int)(w:Int)(d:Dr)(x5 x6 x7:Option T):AN:=[some (AL M),some (BZ s),some (.int w),some (AM d),some (.int P),x5,x6,x7]
theorem WO(d:Dr):Bh Ah Am (AM d)=some [.str d.s,.str d.e,.lst d.g,.lst (d.n.map T.str),.str d.z]:=(show Bh Ah Am (AM d)=(if Ah=Ah/\Am=Am then some [.str d.s,.str d.e,.lst d.g,.lst (d.n.map T.str),.str d.z] else none) from rfl).trans (if_pos ⟨rfl,rfl⟩)
theorem zlb(p1:0<P)(p2:P<=100){M:Mc}(h:McOk M)(hr:s.1∈M.nm)(hv:s.2.length=M.ws.length)(w:Int){d:Dr}(hd:d∈M.ds):MC [AL M,BZ s,.int w,AM d,.int P]=some (.ok (N0 (Dj P M s w d))):=by
 obtain⟨r,vs⟩:=s;have sm:=C9 h;have ww:=Kb h;have D:=h.d d hd;have sg:=D.g.sh;have vi:=DA vs;have wl:=h.wl;have hv:vs.length=M.ws.length:=hv;have hv1:(vs.map (·+w)).length=M.ws.length:=by rw[ya1];exact hv
 have v1:=DA (vs.map (·+w))
 suffices key:Km (sT P M (r,vs) w d none none none)=some (.rt (N0 (Dj P M (r,vs) w d))) by
  unfold MC;unfold sT at key
  simp![sm,Ao _ sm,vi,AG _ vi,sg,AG _ sg,AW,A6,key]
 unfold Km;refine sq (by simp![-Bh,Cf,sm,Ao _ sm,ww,A6];rfl) ?_
 have lc:=Bv (b:=AD 0) (me:=QT) T.int (λv=>T.int (v+w)) (λτ=>∃x,τ=[x,some (.int w)]) vs [none,some (.int w)] ⟨none,rfl⟩ λv _ τ hI=>by
  obtain⟨y,rfl⟩:=hI;exact⟨[some (.int v),some (.int w)],by simp![],by unfold QT;simp![],_,rfl⟩
 have e1:(vs.map λv=>T.int (v+w))=(vs.map (·+w)).map T.int:=by rw[yaq];rfl
 rw[e1]at lc;have vl:vs.length<=100000:=by omega
 refine sq (by simp![vi,AG _ vi,lc,v1,AG _ v1,ya1,vl];rfl) ?_
 have er:=Nb (h.tn _ D.s) (h.tn r hr)
 by_cases c1:d.s=r
 .rw[yf6 c1]at er;refine DJ (by simp![sg,AW,vi,er]) ?_
  obtain⟨g1,g2,g3,g4⟩:=Fe h hr;have ask:=Pf (d:=d) sg;have lks:∀t∈BU M r++d.g,∃x y n,t=.tup [.str x,.str y,.int n]/\x∈M.ws/\y∈DR/\0<=n:=λt ht=>(yba.mp ht).elim (g4.wide KA t) (D.g t)
  obtain⟨fa,fb⟩:=We (b:=AD 7) (body:=Jc) (λt:T=>t) (Br P M.ws (vs.map (·+w))) .non (λτ=>∃y,τ=sT P M (r,vs) w d (some (.lst (M.ws.map T.str))) (some (.lst ((vs.map (·+w)).map T.int))) y) (BU M r++d.g) (sT P M (r,vs) w d (some (.lst (M.ws.map T.str))) (some (.lst ((vs.map (·+w)).map T.int))) none) ⟨none,rfl⟩ λt ht τ hI=>by
   obtain⟨y,rfl⟩:=hI;have me:=Va p1 p2 wl hv1 (lks t ht);have ts:t.sh=true:=by obtain⟨x,y,n,rfl,_⟩:=lks t ht;rfl
   refine⟨sT P M (r,vs) w d (some (.lst (M.ws.map T.str))) (some (.lst ((vs.map (·+w)).map T.int))) (some t),by simp![],λhp=>⟨_,?_,some t,rfl⟩,λhp=>?_⟩
   .rw[hp]at me;unfold Jc
    simp![ts,Ao _ ts,AW,A6,v1,AG _ v1,me]
   .rw[hp]at me;unfold Jc
    simp![ts,Ao _ ts,AW,A6,v1,AG _ v1,me]
  rw[ydw]at fa fb;have al:(BU M r).length+d.g.length<=100000:=by have:=D.gl;omega
  have gsh:A3 (BU M r++d.g)=true:=by
   rw[DK,yal];intro t ht;obtain⟨x,y,n,rfl,_⟩:=lks t ht
   rfl
  cases c2:(BU M r++d.g).all (Br P M.ws (vs.map (·+w))) with
  |false =>
   have hb:Dj P M (r,vs) w d=none:=if_neg λz=>by rw[show(BU M (r,vs).1++d.g).all (Br P M.ws ((r,vs).2.map (·+w)))=false from c2]at z;cases z.2.1
   rw[hb];have fb:=fb c2;exact sr (by simp![-Bh,Cf,sm,Ao _ sm,vi,g1,g2,AG _ g2,sg,AG _ sg,AW,A6,ask,al,gsh,AG _ gsh,fb])
  |true =>
   obtain⟨τ',ef,y7,rfl⟩:=fa c2
   clear fa fb
   refine sq (τ':=_) (by rw[<- ef];simp![-Bh,Cf,sm,Ao _ sm,vi,g1,g2,AG _ g2,sg,AG _ sg,AW,A6,ask,al,gsh,AG _ gsh]) ?_
   have ds:=Pd (d:=d) sg
   have e2:(BM M d (vs.map (·+w))).map T.int=(List.range M.ws.length).map λi=>T.int (if M.ws.getD i ""∈d.n then 0 else (vs.map (·+w)).getD i 0):=by
    unfold BM;refine ybq λi=>?_
    rw[ya3,ya3,ya3,List.zip,ydp]
    by_cases hi:i<M.ws.length
    .have hw:i<(vs.map (·+w)).length:=by omega
     have e:(vs.map (·+w)).getD i 0=(vs.map (·+w))[i]:=by rw[ya2,ya0 hw];rfl
     have q:M.ws.getD i ""=M.ws[i]:=by rw[ya2,ya0 hi];rfl
     rw[ybh hi,ya0 hi,ya0 hw,yb1,yb1,yb1,e,q]
    .rw[yai (l:=vs.map (·+w)) (by omega),yai (l:=M.ws) (by omega),yai (by rw[yb6];omega)]
     rfl
   have zl:=IG (d:=d) hv1;have zi:=DA (BM M d (vs.map (·+w)))
   have lc2:BD (AD 0) (mC (.bl true)) QS ((List.range M.ws.length).map λ(k:Nat)=>T.int (k:Int)) [none,some (AM d),some (.lst ((vs.map (·+w)).map T.int)),some (.lst (M.ws.map T.str))]=some ((BM M d (vs.map (·+w))).map T.int):=by
    rw[e2];refine Bv _ _ (λτ=>∃x,τ=[x,some (AM d),some (.lst ((vs.map (·+w)).map T.int)),some (.lst (M.ws.map T.str))]) _ _ ⟨none,rfl⟩ λi hi τ hI=>?_
    obtain⟨y,rfl⟩:=hI;have hi:=ybb.mp hi;have hw:i<(vs.map (·+w)).length:=by omega
    have ai:A8 (M.ws.map T.str) (i:Int)=some (.str (M.ws.getD i "")):=CZ (by rw[ya3,ya0 hi,ya2,ya0 hi];rfl)
    have bi:A8 ((vs.map (·+w)).map T.int) (i:Int)=some (.int ((vs.map (·+w)).getD i 0)):=CZ (by rw[ya3,ya0 hw,ya2,ya0 hw];rfl)
    have wm:M.ws.getD i ""∈M.ws:=by rw[ya2,ya0 hi];exact yau hi
    have q:=JA (o:=false) (k:=.lst) (ys:=d.n) (λx hx=>h.tw x (D.n x hx)) (h.tw _ wm)
    refine⟨[some (.int (i:Int)),some (AM d),some (.lst ((vs.map (·+w)).map T.int)),some (.lst (M.ws.map T.str))],by simp![],?_,_,rfl⟩
    unfold QS;generalize (vs.map (·+w)).map T.int=L at *
    by_cases hm:M.ws.getD i ""∈d.n
    .rw[if_pos hm];rw[yf6 hm]at q
     simp![AW,A6,sg,AG _ sg,ai,ds,q]
    .rw[if_neg hm];rw[yeo hm]at q
     simp![AW,A6,sg,AG _ sg,ai,bi,v1,ds,q]
   have okw:Cq (M.ws.length:Int)=true:=EV (by omega)
   have erw:DT 0 M.ws.length=(List.range M.ws.length).map λ(k:Nat)=>T.int (k:Int):=Dm
   have wl1:M.ws.length<=100000:=by omega
   refine sq (by simp![AW,A6,sg,AG _ sg,v1,AG _ v1,ya1,yb6,okw,erw,lc2,zi,AG _ zi,wl1];rfl) ?_
   obtain⟨k1,k2,k3,k4⟩:=Fe h (r:=d.e) D.e
   have lc3:BD (AD 0) (mC (.bl true)) L8 (BU M d.e) [none,some (.int P),some (.lst ((BM M d (vs.map (·+w))).map T.int)),some (.lst (M.ws.map T.str))]=some ((BU M d.e).map λt=>T.bl (Br P M.ws (BM M d (vs.map (·+w))) t)):=by
    have q:=Bv (b:=AD 0) (me:=L8) (λt:T=>t) (λt=>T.bl (Br P M.ws (BM M d (vs.map (·+w))) t)) (λτ=>∃x,τ=[x,some (.int P),some (.lst ((BM M d (vs.map (·+w))).map T.int)),some (.lst (M.ws.map T.str))]) (BU M d.e) [none,some (.int P),some (.lst ((BM M d (vs.map (·+w))).map T.int)),some (.lst (M.ws.map T.str))] ⟨none,rfl⟩ λt ht τ hI=>by
     obtain⟨y,rfl⟩:=hI;have me:=Va p1 p2 wl zl (k4.wide KA t ht);have ts:t.sh=true:=by obtain⟨x,y,n,rfl,_⟩:=k4 t ht;rfl
     refine⟨[some t,some (.int P),some (.lst ((BM M d (vs.map (·+w))).map T.int)),some (.lst (M.ws.map T.str))],by simp![],?_,_,rfl⟩
     unfold L8
     simp![ts,Ao _ ts,AW,A6,zi,AG _ zi,me]
    rw[ydw]at q;exact q
   have ba:=Lb (Br P M.ws (BM M d (vs.map (·+w)))) (BU M d.e);have ea:((BU M d.e).map (Br P M.ws (BM M d (vs.map (·+w))))).all id=Bg P M d.e (BM M d (vs.map (·+w))):=by unfold Bg;rw[yej];rfl
   have sl:(BU M d.e).length<=100000:=by omega
   cases c3:Bg P M d.e (BM M d (vs.map (·+w))) with
   |false =>
    have hb:Dj P M (r,vs) w d=none:=if_neg λz=>by rw[show Bg P M d.e (BM M d ((r,vs).2.map (·+w)))=false from c3]at z;cases z.2.2
    rw[hb];rw[c3]at ea;exact sr (by simp![-Bh,Cf,WO,sm,Ao _ sm,sg,AW,A6,k1,k2,AG _ k2,zi,AG _ zi,lc3,QX,ba,ea,ya1,sl])
   |true =>
    have hb:Dj P M (r,vs) w d=some (d.e,BM M d (vs.map (·+w))):=if_pos ⟨c1,c2,c3⟩;rw[hb];rw[c3]at ea;refine DJ (by simp![-Bh,Cf,WO,sm,Ao _ sm,sg,AW,A6,k1,k2,AG _ k2,zi,AG _ zi,lc3,QX,ba,ea,ya1,sl]) ?_
    simp![sg,AW,zi,AG _ zi]
 .have hb:Dj P M (r,vs) w d=none:=if_neg λz=>c1 z.1
  rw[hb];rw[yeo c1]at er;exact sr (by simp![sg,AW,vi,er])
abbrev Si:Stmt:=AO 72
def QU:AJ :=
 (mC (.int 0))
def HI:AI :=
 (Af (m2 (Cc false) (AA 11) (mC .non)) (AF (AU (m2 BO (m2 BL (AY (AA 9) (mC (.int 2))) (AA 13)) (m1 B0 (AA 5))) (AD 14))
 (AF (AU (AS MC (AB (AA 0) (AB (AA 4) (AB (AA 12) (AB (AY (AA 5) (AA 14)) (AB (AA 3) AE)))))) (AD 15))
 (Af (m2 (Cc true) (AA 15) (mC .non)) (AU (B5 (AB (AA 12) (AB (AA 14) (AB (AA 15) AE)))) (AD 11)) Ae))) Ae)
def HG:AI :=
 (B3 (CM (AB (m1 B0 (AA 5)) AE)) (AD 13) HI)
def HH:AI :=
 (AF (AU (AS Ei (AB (AA 8) (AB (mC (.int 3)) AE))) (AD 9))
 (AF (AU (AY (BJ (BC (mC (.int 0)) (BC (m2 Be (AA 2) (AA 3)) (BC (m2 BO (AY (AA 9) (mC (.int 0))) (m2 BL (m2 Be (AA 2) (AA 3)) (mC (.int 1)))) (BC (m2 Be (m2 Be (mC (.int 2)) (AA 2)) (AA 3)) AE))))) (m2 BO (AY (AA 9) (mC (.int 1))) (mC (.int 4)))) (AD 10))
 (AF (AU (mC .non) (AD 11))
 (AF (B3 (Al (BJ (BC (AA 10) (BC (m2 Be (m2 Be (m2 BO (AY (AA 9) (mC (.int 0))) (mC (.int 4))) (AA 2)) (AA 3)) (BC (mC (.int 0)) AE))))) (AD 12) HG)
 (AF (Af (m2 (Cc false) (AA 11) (mC .non)) (C6 6 (B5 (AB (mC (.int 0)) (AB (mC .non) AE)))) (AF (C6 6 (B5 (AB (AY (AA 11) (mC (.int 0))) (AB (AY (AA 11) (mC (.int 1))) AE))))
 (AU (AY (AA 11) (mC (.int 2))) (AD 4))))
 (C6 7 (AA 4)))))))
def Ko:AI :=
 (AF (AU (B5 (AB (AY (Bl A5 Ag Eh (AA 0) AE) (mC (.int 0))) (AB (Ar 1 [] (Al (Bl A5 Ag Eg (AA 0) AE)) (AD 0) (mC (.bl true)) QU) AE))) (AD 4))
 (AF (AU (Bl A5 Ag E4 (AA 0) AE) (AD 5))
 (AF (CJ 6 (BJ AE))
 (AF (CJ 7 (BJ (BC (AA 4) AE)))
 (AF (B3 (Al (AA 1)) (AD 8) HH)
 (AF (Dk 6) (AF (Dk 7) (AX (B5 (AB (AA 6) (AB (AA 7) AE)))))))))))
def Gv:List T->Option Ru:=Ac 4 16 Ko
abbrev XO:Fn:=⟨3,["_law_whole","_law_cells","_law_unit","_law_parts_here"],Gv⟩
abbrev zki:Gx:=⟨[],[],[("rooms",A5,Ag,LP),("watches",A5,Ag,Hi),("doors",A5,Ag,JD)],[],false,true,true,none,[],[],[],true,[],[],[],[],[],[],[],[]⟩
abbrev zkm:Gm:=⟨["_law_whole","_law_cells","_law_unit","_law_parts_here","_law_stand","_law_doors","_law_run_here","_law_due","_law_cell","_law_xs","_law_wait","_law_chosen","_law_far","_law_k","_law_number","_law_after"],(A2 Si).names,[],2,[("_law_stream",LQ),("_law_through",XN)],["range","len"],[],["_law_due","_law_run_here"],[],false,[],[],[],zki⟩
theorem zkw:Ck zkm XO Si Ko:={}
def JO(P:Int)(M:Mc)(s:Str×List Int)(w:Int×Option Int)(s':Str×List Int):Prop:=(w=(0,none)/\s'=s)\/∃(n:Nat) (d:Dr),w.2=some (n:Int)/\M.ds[n]?=some d/\0<=w.1/\Dj P M s w.1 d=some s'
def Dd(P:Int)(M:Mc):Str×List Int->List (Int×Option Int)->List (Str×List Int)->Prop
 |_,[],[]=>True
 |s,w::ws,s'::l=>JO P M s w s'/\Dd P M s' ws l
 |_,_,_=>False
theorem Dd.snoc{P:Int}{M:Mc}{w:Int×Option Int}{s':Str×List Int}:∀{ws:List (Int×Option Int)} {l:List (Str×List Int)} {s:Str×List Int},Dd P M s ws l->JO P M (l.getLastD s) w s'->Dd P M s (ws++[w]) (l++[s'])
 |[],[],s,_,h=>⟨h,trivial⟩
 |v::ws,s1::l,s,h,k=>⟨h.1,Dd.snoc h.2 (by
   cases l with
   |nil=>exact k
   |cons a r=>exact k)⟩
 |[],_::_,_,h,_=>h.elim
 |_::_,[],_,h,_=>h.elim
abbrev Cv(w:Int×Option Int):T:=.tup [.int w.1,DL w.2]
def GV(P:Int)(M:Mc)(s:Str×List Int)(t:T):Prop:=t=.non\/∃(w:Int) (n:Nat) (d:Dr) (s':Str×List Int),t=.tup [.int w,.int (n:Int),BZ s']/\0<=w/\M.ds[n]?=some d/\Dj P M s w d=some s'
abbrev sV(P u:Int)(M:Mc)(cs:List Int)(s:Str×List Int)(x6 x7 x8 x9 x10 x11 x12 x13 x14 x15:Option T):AN:=[some (AL M),some (.lst (cs.map T.int)),some (.int u),some (.int P),some (BZ s),some (.lst (M.ds.map AM)),x6,x7,x8,x9,x10,x11,x12,x13,x14,x15]
theorem KD(s:Str×List Int):(BZ s).sh=true:=by
 have:=DA s.2
 simp![this]
theorem zl7(p1:0<P)(p2:P<=100){M:Mc}(h:McOk M)(hr:s.1∈M.nm)(hv:s.2.length=M.ws.length){cs:List Int}{w:Int}(w0:0<=w){k:Nat}(hk:k<M.ds.length){t:T}(ht:GV P M s t)(x6 x7 x8 x10:Option T)(y14 y15:Option T):∃t' z14 z15,GV P M s t'/\HI (sV P u M cs s x6 x7 x8 (some (.lst (mT 3 λi=>.int (xs i)))) x10 (some t) (some (.int w)) (some (.int (k:Int))) y14 y15)=some (.nx (sV P u M cs s x6 x7 x8 (some (.lst (mT 3 λi=>.int (xs i)))) x10 (some t') (some (.int w)) (some (.int (k:Int))) z14 z15)):=by
 have sm:=C9 h;have ss:=KD s;have sd:A3 (M.ds.map AM)=true:=h.sd
 rcases ht with rfl|⟨w1,n,d,s',rfl,hg⟩
 .have d0:M.ds≠[]:=λz=>by rw[z]at hk;cases hk
  obtain⟨d,hd,ed⟩:=EX M.ds d0 (xs 2+(k:Int));have ed':=E2 AM ed;have l0:=Kx d0;obtain⟨n,hn⟩:=yby (yb3 (xs 2+(k:Int)) (show(0:Int)<(M.ds.length:Int) by omega))
  have hn2:=ybn (xs 2+(k:Int)) (show(0:Int)<(M.ds.length:Int) by omega)
  rw[hn]at hn2 ed ed'
  have gn:M.ds[n]?=some d:=by
   have q:=Hs (l:=M.ds) (k:=(n:Int)) (by omega) (ya0 (show(n:Int).toNat<M.ds.length by omega))
   rw[q]at ed;rw[ya0 (show n<M.ds.length by omega)]
   exact ed
  have a2:A8 (mT 3 λi=>T.int (xs i)) 2=some (.int (xs 2)):=FV (k:=2) (by decide)
  have D:=h.d d hd;have sg:=D.g.sh;have th:=zlb p1 p2 h hr hv w hd;have dsh:(AM d).sh=true:=by simp![sg,AW]
  cases ht:Dj P M s w d with
  |none =>
   rw[ht]at th;refine⟨.non,some (.int (n:Int)),some .non,.inl rfl,?_⟩;generalize AM d=DD at *;have is1:=DA s.2;unfold HI
   simp![a2,sd,AG _ sd,ya1,l0,hn,ed',sm,Ao _ sm,is1,AG _ is1,dsh,Ao _ dsh,th]
  |some s' =>
   rw[ht]at th;have s2:=KD s';refine⟨.tup [.int w,.int (n:Int),BZ s'],some (.int (n:Int)),some (BZ s'),.inr ⟨w,n,d,s',rfl,w0,gn,ht⟩,?_⟩;have nn:Cc true (BZ s') .non=some (.bl true):=rfl;have oi:N0 (some s')=BZ s':=rfl;rw[oi]at th;generalize AM d=DD at *;have is1:=DA s.2;have is2:=DA s'.2;unfold HI
   simp![a2,sd,AG _ sd,ya1,l0,hn,ed',sm,Ao _ sm,is1,AG _ is1,is2,AG _ is2,dsh,Ao _ dsh,th]
 .have s2:=KD s';refine⟨.tup [.int w1,.int (n:Int),BZ s'],y14,y15,.inr ⟨w1,n,d,s',rfl,hg⟩,?_⟩;have s3:=DA s'.2;unfold HI
  simp![s3]
theorem zko(p1:0<P)(p2:P<=100){M:Mc}(h:McOk M)(hr:s.1∈M.nm)(hv:s.2.length=M.ws.length){cs:List Int}{w:Int}(w0:0<=w){t:T}(ht:GV P M s t)(x6 x7 x8 x10:Option T)(y13 y14 y15:Option T):∃t' z13 z14 z15,GV P M s t'/\HG (sV P u M cs s x6 x7 x8 (some (.lst (mT 3 λi=>.int (xs i)))) x10 (some t) (some (.int w)) y13 y14 y15)=some (.nx (sV P u M cs s x6 x7 x8 (some (.lst (mT 3 λi=>.int (xs i)))) x10 (some t') (some (.int w)) z13 z14 z15)):=by
 obtain⟨τ,e,t',z13,z14,z15,h1,rfl⟩:=Oz (b:=AD 13) (body:=HI) (n:=M.ds.length) (g:=λi=>.int (i:Int)) (τ:=sV P u M cs s x6 x7 x8 (some (.lst (mT 3 λi=>.int (xs i)))) x10 (some t) (some (.int w)) y13 y14 y15)
  (λ_ τ=>∃t' z13 z14 z15,GV P M s t'/\τ=sV P u M cs s x6 x7 x8 (some (.lst (mT 3 λi=>.int (xs i)))) x10 (some t') (some (.int w)) z13 z14 z15)
  ⟨t,y13,y14,y15,ht,rfl⟩ (by
   rintro i τ hi ⟨t1,z13,z14,z15,g,rfl⟩;obtain⟨t2,q14,q15,g2,e⟩:=zl7 (u:=u) p1 p2 h hr hv (cs:=cs) (xs:=xs) w0 hi g x6 x7 x8 x10 z14 z15;exact⟨sV P u M cs s x6 x7 x8 (some (.lst (mT 3 λi=>.int (xs i)))) x10 (some t1) (some (.int w)) (some (.int (i:Int))) z14 z15,rfl,_,e,t2,_,q14,q15,g2,rfl⟩)
 refine⟨t',z13,z14,z15,h1,?_⟩;have sd:A3 (M.ds.map AM)=true:=h.sd;have o1:Cq (M.ds.length:Int)=true:=EV (by have:=h.dl;omega)
 unfold HG
 simp![sd,AG _ sd,ya1,o1,Dm,e]
theorem zg4(p1:0<P)(p2:P<=100){M:Mc}(h:McOk M)(hr:s.1∈M.nm)(hv:s.2.length=M.ws.length){cs:List Int}(L:List Int)(hL:∀w∈L,0<=w){t:T}(ht:GV P M s t)(x6 x7 x8 x10:Option T)(y12 y13 y14 y15:Option T):∃t' z12 z13 z14 z15,GV P M s t'/\B9 (AD 12) HG (L.map T.int) (sV P u M cs s x6 x7 x8 (some (.lst (mT 3 λi=>.int (xs i)))) x10 (some t) y12 y13 y14 y15)=some (.nx (sV P u M cs s x6 x7 x8 (some (.lst (mT 3 λi=>.int (xs i)))) x10 (some t') z12 z13 z14 z15)):=by
 obtain⟨τ,e,t',z12,z13,z14,z15,h1,rfl⟩:=Du (b:=AD 12) (body:=HG) (ts:=L.map T.int) (τ:=sV P u M cs s x6 x7 x8 (some (.lst (mT 3 λi=>.int (xs i)))) x10 (some t) y12 y13 y14 y15)
  (λ_ τ=>∃t' z12 z13 z14 z15,GV P M s t'/\τ=sV P u M cs s x6 x7 x8 (some (.lst (mT 3 λi=>.int (xs i)))) x10 (some t') z12 z13 z14 z15)
  ⟨t,y12,y13,y14,y15,ht,rfl⟩ (by
   rintro i v τ hi ⟨t1,z12,z13,z14,z15,g,rfl⟩;rw[ya3]at hi;cases q:L[i]? with
   |none=>rw[q]at hi;cases hi
   |some w =>
    rw[q]at hi;cases hi;obtain⟨t2,q13,q14,q15,g2,e⟩:=zko (u:=u) p1 p2 h hr hv (cs:=cs) (xs:=xs) (hL w (yab q)) g x6 x7 x8 x10 z13 z14 z15;exact⟨sV P u M cs s x6 x7 x8 (some (.lst (mT 3 λi=>.int (xs i)))) x10 (some t1) (some (.int w)) z13 z14 z15,rfl,_,e,t2,_,q13,q14,q15,g2,rfl⟩)
 exact⟨t',z12,z13,z14,z15,h1,e⟩
theorem zg8{M:Mc}(h:McOk M){w:Int}{d:Dr}(hd:d∈M.ds)(hv:s.2.length=M.ws.length)(e:Dj P M s w d=some s'):s'.1∈M.nm/\s'.2.length=M.ws.length:=by
 unfold Dj at e
 by_cases q:d.s=s.1/\((BU M s.1)++d.g).all (Br P M.ws (s.2.map (·+w)))=true/\Bg P M d.e (BM M d (s.2.map (·+w)))=true
 .rw[if_pos q]at e;cases e;exact⟨(h.d d hd).e,IG (by rw[ya1];exact hv)⟩
 .rw[if_neg q]at e;cases e
theorem zeg{M:Mc}(h:McOk M){w:Int×Option Int}(hr:s.1∈M.nm)(hv:s.2.length=M.ws.length)(e:JO P M s w s'):s'.1∈M.nm/\s'.2.length=M.ws.length:=by
 rcases e with ⟨-,rfl⟩|⟨n,d,-,hd,-,e⟩
 .exact⟨hr,hv⟩
 .exact zg8 h (yab hd) hv e
theorem zgl(p1:0<P)(p2:P<=100)(u0:0<=u){M:Mc}(h:McOk M)(hr:s.1∈M.nm)(hv:s.2.length=M.ws.length){cs:List Int}{ws:List (Int×Option Int)}{l:List (Str×List Int)}(wl:ws.length<1000)(ll:l.length<1000)(c:Int)(y9 y10 y11 y12 y13 y14 y15:Option T):∃w s' z9 z10 z11 z12 z13 z14 z15,JO P M s w s'/\HH (sV P u M cs s (some (.own (ws.map Cv))) (some (.own (l.map BZ))) (some (.int c)) y9 y10 y11 y12 y13 y14 y15)=some (.nx (sV P u M cs s' (some (.own ((ws++[w]).map Cv))) (some (.own ((l++[s']).map BZ))) (some (.int c)) z9 z10 z11 z12 z13 z14 z15)):=by
 obtain⟨xs,ex⟩:∃xs:Nat->Int,Ei [.int c,.int 3]=some (.ok (.own (mT 3 λi=>.int (xs i)))):=KC c (m:=3) (by decide)
 have up:0<=u * P:=yda u0 (by omega)
 have a0:A8 (mT 3 λi=>T.int (xs i)) 0=some (.int (xs 0)):=FV (k:=0) (by decide)
 have a1:A8 (mT 3 λi=>T.int (xs i)) 1=some (.int (xs 1)):=FV (k:=1) (by decide)
 have mp:∀i,CA i P=true:=λi=>FU (Ce (by omega) (by omega))
 have mm2:CA 2 u=true:=E9 (Ce (by decide) (by decide))
 have f0:=yb3 (xs 0) (show(0:Int)<4 by decide)
 have f1:=ybn (xs 0) (show(0:Int)<4 by decide)
 have m4:CA ((xs 0).fmod 4) u=true:=E9 (Ce (by omega) (by omega))
 have n0:u * P+1≠0:=by omega
 obtain⟨wt,hw,ew⟩:=EX [0,u * P,(xs 0).fmod (u * P+1),2 * u * P] (by simp) (xs 1)
 have w0:0<=wt:=by
  simp only[ya9,yb7,yfe]at hw
  rcases hw with rfl|rfl|rfl|rfl
  .omega
  .exact up
  .exact yb3 _ (by omega)
  .rw[ycl];omega
 have ew':A8 [T.int 0,T.int (u * P),T.int ((xs 0).fmod (u * P+1)),T.int (2 * u * P)] ((xs 1).fmod 4)=some (.int wt):=E2 T.int ew;have w1:0<=(xs 0).fmod 4 * u * P:=yda (yda f0 u0) (by omega)
 obtain⟨t,z12,z13,z14,z15,ht,e⟩:=zg4 (u:=u) p1 p2 h hr hv (cs:=cs) (xs:=xs) [wt,(xs 0).fmod 4 * u * P,0] (by
  intro w hw;simp only[ya9,yb7,yfe]at hw
  rcases hw with rfl|rfl|rfl
  .exact w0
  .exact w1
  .omega) (t:=.non) (.inl rfl) (some (.own (ws.map Cv))) (some (.own (l.map BZ))) (some (.int c)) (some (.int wt)) y12 y13 y14 y15
 have e':B9 (AD 12) HG [T.int wt,T.int ((xs 0).fmod 4 * u * P),T.int 0] _=_:=e;have is1:=DA s.2;have wl2:ws.length<100000:=by omega
 have ll2:l.length<100000:=by omega
 have step:∀r,AF (Af (m2 (Cc false) (AA 11) (mC .non)) (C6 6 (B5 (AB (mC (.int 0)) (AB (mC .non) AE)))) (AF (C6 6 (B5 (AB (AY (AA 11) (mC (.int 0))) (AB (AY (AA 11) (mC (.int 1))) AE)))) (AU (AY (AA 11) (mC (.int 2))) (AD 4)))) (C6 7 (AA 4)) (sV P u M cs s (some (.own (ws.map Cv))) (some (.own (l.map BZ))) (some (.int c)) (some (.lst (mT 3 λi=>.int (xs i)))) (some (.int wt)) (some t) z12 z13 z14 z15)=r->HH (sV P u M cs s (some (.own (ws.map Cv))) (some (.own (l.map BZ))) (some (.int c)) y9 y10 y11 y12 y13 y14 y15)=r:=by
  intro r hr;unfold HH;refine sq (by simp![ex];rfl) ?_
  refine sq (by simp![a0,a1,mp,mm2,n0,ew'];rfl) ?_
  refine sq (by simp![];rfl) ?_
  refine sq (by simp![a0,mp,m4];exact e') hr
 rcases ht with rfl|⟨w,n,d,s',rfl,g0,g1,g2⟩
 .refine⟨(0,none),s,some (.lst (mT 3 λi=>.int (xs i))),some (.int wt),some .non,z12,z13,z14,z15,.inl ⟨rfl,rfl⟩,step _ ?_⟩
  rw[yar,yar]
  simp![is1,AG _ is1,ya1,wl2,ll2]
 .have is2:=DA s'.2;refine⟨(w,some (n:Int)),s',some (.lst (mT 3 λi=>.int (xs i))),some (.int wt),some (.tup [.int w,.int (n:Int),BZ s']),z12,z13,z14,z15,.inr ⟨n,d,rfl,g1,g0,g2⟩,step _ ?_⟩
  rw[yar,yar]
  simp![is2,AG _ is2,ya1,wl2,ll2]
theorem zdv(l:List α)(x s:α):(l++[x]).getLastD s=x:=by
 rw[List.getLastD_eq_getLast?,List.getLast?_append]
 rfl
theorem zem(p1:0<P)(p2:P<=100)(u0:0<=u){M:Mc}(h:McOk M){s0:Str×List Int}(hr:s0.1∈M.nm)(hv:s0.2.length=M.ws.length){cs:List Int}(hc:cs.length<=500):∃ws l s z8 z9 z10 z11 z12 z13 z14 z15,Dd P M s0 ws l/\ws.length=cs.length/\l.length=cs.length/\B9 (AD 8) HH (cs.map T.int) (sV P u M cs s0 (some (.own [])) (some (.own [BZ s0])) none none none none none none none none)=some (.nx (sV P u M cs s (some (.own (ws.map Cv))) (some (.own ((s0::l).map BZ))) z8 z9 z10 z11 z12 z13 z14 z15)):=by
 obtain⟨τ,e,ws,l,s,z8,z9,z10,z11,z12,z13,z14,z15,h1,h2,h3,-,-,-,rfl⟩:=Du (b:=AD 8) (body:=HH) (ts:=cs.map T.int) (τ:=sV P u M cs s0 (some (.own [])) (some (.own [BZ s0])) none none none none none none none none)
  (λi τ=>∃ws l s z8 z9 z10 z11 z12 z13 z14 z15,Dd P M s0 ws l/\ws.length=i/\l.length=i/\s=l.getLastD s0/\s.1∈M.nm/\s.2.length=M.ws.length/\τ=sV P u M cs s (some (.own (ws.map Cv))) (some (.own ((s0::l).map BZ))) z8 z9 z10 z11 z12 z13 z14 z15)
  ⟨[],[],s0,none,none,none,none,none,none,none,none,trivial,rfl,rfl,rfl,hr,hv,rfl⟩ (by
   rintro i v τ hi ⟨ws,l,s,z8,z9,z10,z11,z12,z13,z14,z15,h1,h2,h3,h4,h5,h6,rfl⟩;rw[ya3]at hi;cases q:cs[i]? with
   |none=>rw[q]at hi;cases hi
   |some c =>
    rw[q]at hi;cases hi
    have il:i<cs.length:=by
     obtain⟨k,-⟩:=ya6.mp q;exact k
    obtain⟨w,s',q9,q10,q11,q12,q13,q14,q15,g,e⟩:=zgl (u:=u) p1 p2 u0 h h5 h6 (cs:=cs) (ws:=ws) (l:=s0::l) (by omega) (by rw[yaj];omega) c z9 z10 z11 z12 z13 z14 z15
    obtain⟨k1,k2⟩:=zeg h h5 h6 g;refine⟨sV P u M cs s (some (.own (ws.map Cv))) (some (.own ((s0::l).map BZ))) (some (.int c)) z9 z10 z11 z12 z13 z14 z15,rfl,_,e,ws++[w],l++[s'],s',_,q9,q10,q11,q12,q13,q14,q15,h1.snoc (h4▸g),?_,?_,(zdv l s' s0).symm,k1,k2,rfl⟩
    .rw[yac,h2];rfl
    .rw[yac,h3];rfl)
 rw[ya1]at h2 h3;exact⟨ws,l,s,z8,z9,z10,z11,z12,z13,z14,z15,h1,h2,h3,e⟩
theorem zm0(p1:0<P)(p2:P<=100)(u0:0<=u){M:Mc}(h:McOk M){cs:List Int}(hc:cs.length<=500):∃ws l,Dd P M (BG M) ws l/\ws.length=cs.length/\l.length=cs.length/\Gv [AL M,.lst (cs.map T.int),.int u,.int P]=some (.ok (.tup [.lst (ws.map Cv),.lst ((BG M::l).map BZ)])):=by
 have sm:=C9 h;have rm:Eh [AL M]=some (.ok (.own (M.nm.map T.str))):=Nc h;have md:E4 [AL M]=some (.ok (.own (M.ds.map AM))):=Nd h;have ww:=Kb h;have sd:A3 (M.ds.map AM)=true:=h.sd
 obtain⟨a,ha,hb,hr⟩:∃a,A8 (M.nm.map T.str) 0=some (.str a)/\M.nm.headD ""=a/\M.nm.headD ""∈M.nm:=by
  have:=h.r.l1;cases e:M.nm with
  |nil =>
   have q:=congrArg List.length e;rw[show M.nm.length=M.rs.length from ya1 _,yb0]at q
   omega
  |cons a r=>exact⟨a,show A8 ((a::r).map T.str) ((0:Nat):Int)=some (.str a) from CZ rfl,rfl,ya5 ..⟩
 obtain⟨ws,l,s,z8,z9,z10,z11,z12,z13,z14,z15,h1,h2,h3,e⟩:=zem (u:=u) p1 p2 u0 h (s0:=BG M) hr (show(M.ws.map λ_=>(0:Int)).length=_ from ya1 ..) hc
 refine⟨ws,l,h1,h2,h3,?_⟩
 have lc:=Bv (b:=AD 0) (me:=QU) T.str (λ_=>T.int 0) (λτ=>∃x,τ=[x]) M.ws [none] ⟨none,rfl⟩ λx hx τ hI=>by
  obtain⟨y,rfl⟩:=hI;exact⟨[some (.str x)],by simp![],by unfold QU;simp![],_,rfl⟩
 have l7:M.ws.length<=100000:=by have:=h.wl;omega
 have e1:BZ (BG M)=.tup [.str a,.lst (M.ws.map λ_=>T.int 0)]:=by
  rw[<- hb];show T.tup [_,.lst ((M.ws.map λ_=>(0:Int)).map T.int)]=_
  rw[yaq]
  rfl
 have s1:A3 (M.ws.map λ_=>T.int 0)=true:=BB λ_ _=>rfl
 have s2:=DA (BG M).2;have ci:=DA cs
 have w1:A3 (ws.map Cv)=true:=BB λw _=>by
  have:=HW w.2
  simp![this]
 have w2:A3 ((BG M::l).map BZ)=true:=BB λx _=>KD x
 have go:Ko [some (AL M),some (.lst (cs.map T.int)),some (.int u),some (.int P),none,none,none,none,none,none,none,none,none,none,none,none]=some (.rt (.tup [.lst (ws.map Cv),.lst ((BG M::l).map BZ)])):=by
  unfold Ko;refine sq (τ':=[some (AL M),some (.lst (cs.map T.int)),some (.int u),some (.int P),some (BZ (BG M)),none,none,none,none,none,none,none,none,none,none,none]) (by rw[e1];simp![-Bh,Cf,sm,Ao _ sm,rm,ww,ha,l7,lc,AW,A6,s1,AG _ s1,ya1]) ?_
  refine sq (by simp![-Bh,Cf,sm,Ao _ sm,md,sd,AG _ sd];rfl) ?_
  refine sq (by simp![];rfl) ?_
  refine sq (by simp![s2,AG _ s2];rfl) ?_
  refine sq (by simp![ci,AG _ ci];exact e) ?_
  clear e
  generalize (BG M::l).map BZ=L at *
  simp![w1,AG _ w1,w2,AG _ w2]
 unfold Gv;generalize (BG M::l).map BZ=L at *
 simp![sm,Ao _ sm,ci,AG _ ci,go]
theorem zgc{M:Mc}(hz:∀d∈M.ds,d.z=""){w:Int×Option Int}(hl:Bg P M s.1 s.2=true)(e:JO P M s w s'):DC P M s w true=some s'/\Bg P M s'.1 s'.2=true:=by
 rcases e with ⟨rfl,rfl⟩|⟨n,d,hn,hd,w0,e⟩
 .have q:s'.2.map (·+(0:Int))=s'.2:=by
   rw[show(λx:Int=>x+0)=id from funext λx=>Int.add_zero x,List.map_id]
  refine⟨?_,hl⟩;unfold DC;show(if (0:Int)<=0/\Bg P M s'.1 (s'.2.map (·+(0:Int)))=true then some (s'.1,s'.2.map (·+(0:Int))) else none)=some s'
  rw[q,if_pos ⟨Int.le_refl 0,hl⟩]
 .unfold Dj at e;split at e
  .rename_i k;obtain⟨k1,k2,k3⟩:=k;cases e;rw[List.all_append,ya7]at k2;refine⟨?_,k3⟩
   have hi:n<M.ds.length:=by
    obtain⟨k,-⟩:=ya6.mp hd;exact k
   have eg:M.ds.getD ((n:Int)).toNat d0=d:=by
    rw[ybt,ya2,hd]
    rfl
   unfold DC;rw[if_pos ⟨w0,k2.1⟩,hn];show EL P M s.1 _ (n:Int) true=_;unfold EL;rw[if_pos ⟨by omega,by omega⟩,eg,if_pos ⟨k1,λ_=>hz d (yab hd),k2.2,k3⟩]
  .cases e
theorem TB{P:Int}{M:Mc}(hz:∀d∈M.ds,d.z=""):∀{ws:List (Int×Option Int)} {l:List (Str×List Int)} {s:Str×List Int},Bg P M s.1 s.2=true->Dd P M s ws l->Fl P M true s ws=some l
 |[],[],_,_,_=>rfl
 |w::ws,s'::l,s,hl,h=>by
  obtain⟨e,k⟩:=zgc hz hl h.1;unfold Fl;rw[e,ydm,TB hz k h.2]
  rfl
 |[],_::_,_,_,h=>h.elim
 |_::_,[],_,_,h=>h.elim
theorem RU{M:Mc}{r:Str}{t:T}(h:t∈BU M r):∃x∈M.rs,t∈x.2:=by
 unfold BU at h;cases q:M.rs.find? λx=>decide (x.1=r) with
 |none=>rw[q]at h;cases h
 |some x=>rw[q]at h;exact⟨x,yd3 q,h⟩
theorem O7(p1:0<P){M:Mc}(h:McOk M)(hn:∀r∈M.rs,∀t∈r.2,0<CT t)(r:Str):Bg P M r (M.ws.map λ_=>0)=true:=by
 unfold Bg;rw[yal];intro t ht;obtain⟨x,hx,hxt⟩:=RU ht;obtain⟨a,y,n,rfl,-,hy,-⟩:=(h.r.lk x hx).1 t hxt;have n0:0<n:=hn x hx _ hxt
 have v0:Cu M.ws (M.ws.map λ_=>0) a=0:=by
  unfold Cu;rw[ya2,ya3];cases M.ws[(Bm M.ws a).getD 0]?<;>rfl
 show Cm y n (Cu M.ws (M.ws.map λ_=>0) a) P=true
 rw[v0];have nb:0<n * P:=Int.mul_pos n0 p1;unfold Cm;unfold Fg at hy
 rcases ya9.mp hy with rfl|hy
 .rw[if_pos rfl];exact yf6 nb
 .rw[ya8.mp hy,if_neg (by decide +kernel),if_pos rfl]
  rw[ybs,yfr]
  omega
theorem X6{α:Type}{f:α->Str}{g:α->List T}:∀{L:List α},(L.map f).Nodup->∀{a:α},a∈L->(((L.map λa=>(f a,g a)).find? λx=>decide (x.1=f a)).map (·.2)).getD []=g a
 |[],_,_,h=>by cases h
 |b::L,hn,a,h=>by
  rw[yad,ybv]at hn;rw[yad,ycj]
  by_cases q:f b=f a
  .have:b=a:=by
    rcases ya9.mp h with e|e
    .exact e.symm
    .exact absurd (q▸yd2 e) hn.1
   subst this;rw[yf6 rfl]
   rfl
  .rw[yeo q]
   rcases ya9.mp h with rfl|e
   .exact absurd rfl q
   .exact X6 hn.2 e
theorem zii{Ms:List Mc}(h:RmOk Ms){t:List Str}(ht:t∈Aa Ms):BU (BS Ms) (Av t)=EM Ms t:=X6 (f:=Av) (g:=EM Ms) h.d ht
theorem zi8{Ms:List Mc}(hn:∀M∈Ms,∀r∈M.rs,∀t∈r.2,0<CT t):∀r∈(BS Ms).rs,∀t∈r.2,0<CT t:=by
 intro r hr t ht;obtain⟨k,-,rfl⟩:=yag.mp hr;obtain⟨x,hx,hxt⟩:=yap.mp ht;obtain⟨y,hy,hyt⟩:=RU hxt;exact hn x.1 (yct hx).1 y hy t hyt
theorem whl_z{Ms:List Mc}:∀d∈(BS Ms).ds,d.z="":=by
 intro d hd;obtain⟨w,-,rfl⟩:=yag.mp hd
 rfl
theorem zi9{a b:List Str}{u v:List Int}(hx:x∈a)(hl:u.length=a.length):Cu (a++b) (u++v) x=Cu a u x:=by
 obtain⟨j,ej,hj,-⟩:=Gj hx
 have e2:Bm (a++b) x=some j:=by
  unfold Bm at ej ⊢;rw[List.findIdx?_append,ej]
  rfl
 unfold Cu;rw[ej,e2,ybe,ya2,ya2,yaz (by omega)]
theorem zg5{a b:List Str}{u v:List Int}(ha:x∉a)(hx:x∈b)(hl:u.length=a.length):Cu (a++b) (u++v) x=Cu b v x:=by
 obtain⟨j,ej,hj,-⟩:=Gj hx
 have e1:Bm a x=none:=by
  unfold Bm;refine List.findIdx?_eq_none_iff.mpr λy hy=>?_
  refine @decide_eq_false _ (Classical.propDecidable _) λe=>ha (e▸hy)
 have e2:Bm (a++b) x=some (j+a.length):=by
  unfold Bm at ej e1 ⊢;rw[List.findIdx?_append,ej,e1]
  rfl
 unfold Cu;rw[ej,e2,ybe,ybe,ya2,ya2,yb2 (by omega),hl,Nat.add_sub_cancel]
def Jn:List Mc->List (Str×List Int)->Prop
 |[],[]=>True
 |M::Ms,s::L=>s.1∈M.nm/\s.2.length=M.ws.length/\Jn Ms L
 |_,_=>False
theorem Jn.len:∀{Ms:List Mc} {L:List (Str×List Int)},Jn Ms L->Ms.length=L.length
 |[],[],_=>rfl
 |_::Ms,_::L,h=>congrArg (·+1) (Jn.len h.2.2)
 |[],_::_,h=>h.elim
 |_::_,[],h=>h.elim
theorem Jn.at:∀{Ms:List Mc} {L:List (Str×List Int)},Jn Ms L->∀{i:Nat} {M:Mc} {s:Str×List Int},Ms[i]?=some M->L[i]?=some s->s.1∈M.nm/\s.2.length=M.ws.length
 |[],[],_,_,_,_,h,_=>by cases h
 |N::Ms,v::L,h,0,M,s,e1,e2=>by
  cases e1;cases e2;exact⟨h.1,h.2.1⟩
 |N::Ms,v::L,h,i+1,M,s,e1,e2=>Jn.at h.2.2 (i:=i) e1 e2
 |[],_::_,h,_,_,_,_,_=>h.elim
 |_::_,[],h,_,_,_,_,_=>h.elim
theorem Jn.vlen:∀{Ms:List Mc} {L:List (Str×List Int)},Jn Ms L->(L.flatMap (·.2)).length=(Ms.flatMap Mc.ws).length
 |[],[],_=>rfl
 |M::Ms,s::L,h=>by rw[yat,yat,yac,yac,h.2.1,Jn.vlen h.2.2]
 |[],_::_,h=>h.elim
 |_::_,[],h=>h.elim
theorem Qo:∀{Ms:List Mc} {L:List (Str×List Int)},Jn Ms L->(Ms.flatMap Mc.ws).Nodup->∀{i:Nat} {M:Mc} {s:Str×List Int},Ms[i]?=some M->L[i]?=some s->∀{x:Str},x∈M.ws->Cu (Ms.flatMap Mc.ws) (L.flatMap (·.2)) x=Cu M.ws s.2 x
 |[],[],_,_,_,_,_,h,_,_,_=>by cases h
 |N::Ms,v::L,h,hn,0,M,s,e1,e2,x,hx=>by
  cases e1;cases e2;rw[yat,yat];exact zi9 hx h.2.1
 |N::Ms,v::L,h,hn,i+1,M,s,e1,e2,x,hx=>by
  rw[yat]at hn;obtain⟨-,n2,n3⟩:=yde.mp hn;have hm:x∈Ms.flatMap Mc.ws:=yap.mpr ⟨M,yab (i:=i) e1,hx⟩;rw[yat,yat,zg5 (λq=>n3 x q x hm rfl) hm h.2.1]
  exact Qo h.2.2 n2 (i:=i) e1 e2 hx
 |[],_::_,h,_,_,_,_,_,_,_,_=>h.elim
 |_::_,[],h,_,_,_,_,_,_,_,_=>h.elim
theorem Vm{Ms:List Mc}(h:Jn Ms L)(hn:(Ms.flatMap Mc.ws).Nodup){M:Mc}(e1:Ms[i]?=some M)(e2:L[i]?=some s)(hl:C0 M.ws wd l):l.all (Br P (Ms.flatMap Mc.ws) (L.flatMap (·.2)))=l.all (Br P M.ws s.2):=by
 rw[yc8,yal,yal]
 have q:∀t∈l,Br P (Ms.flatMap Mc.ws) (L.flatMap (·.2)) t=Br P M.ws s.2 t:=λt ht=>by
  obtain⟨x,y,n,rfl,hx,-,-⟩:=hl t ht;unfold Br;rw[Qo h hn e1 e2 (x:=FX (.tup [.str x,.str y,.int n])) hx]
 exact⟨λk t ht=>q t ht▸k t ht,λk t ht=>(q t ht).symm▸k t ht⟩
noncomputable abbrev HE(w:Int)(L:List (Str×List Int)):List (Str×List Int):=L.map λs=>(s.1,s.2.map (·+w))
theorem Jn.wait(w:Int):∀{Ms:List Mc} {L:List (Str×List Int)},Jn Ms L->Jn Ms (HE w L)
 |[],[],_=>trivial
 |_::Ms,_::L,h=>⟨h.1,by rw[ya1];exact h.2.1,Jn.wait w h.2.2⟩
 |[],_::_,h=>h.elim
 |_::_,[],h=>h.elim
theorem MQ(w:Int)(L:List (Str×List Int)):(HE w L).flatMap (·.2)=(L.flatMap (·.2)).map (·+w):=by
 rw[List.map_flatMap,yen]
theorem Qd(w:Int)(L:List (Str×List Int)):(HE w L).map (·.1)=L.map (·.1):=by
 rw[yaq]
 rfl
theorem Jn.fold:∀{Ms:List Mc} {L:List (Str×List Int)},Jn Ms L->∀{ts:List (List Str)} {u:List Str},u∈ts->u++L.map (·.1)∈(Ms.map Mc.nm).foldl Bj ts
 |[],[],_,ts,u,hu=>by
  show u++[]∈ts;rw[yay];exact hu
 |M::Ms,s::L,h,ts,u,hu=>by
  have q:=Jn.fold h.2.2 (ts:=Bj ts M.nm) (u:=u++[s.1]) (yap.mpr ⟨u,hu,yag.mpr ⟨s.1,h.1,rfl⟩⟩);rw[ybp]at q;exact q
 |[],_::_,h,_,_,_=>h.elim
 |_::_,[],h,_,_,_=>h.elim
theorem Jn.tak{Ms:List Mc}(h:Jn Ms L):L.map (·.1)∈Aa Ms:=h.fold (ts:=[[]]) (ya8.mpr rfl)
theorem VZ{α β:Type}{f:α->β}:∀{l:List α},(l.map f).Nodup->∀{a b:α},a∈l->b∈l->f a=f b->a=b
 |[],_,_,_,h,_,_=>by cases h
 |c::l,hn,a,b,ha,hb,e=>by
  rw[yad,ybv]at hn
  rcases ya9.mp ha with qa|qa
  .rcases ya9.mp hb with qb|qb
   .rw[qa,qb]
   .exact absurd (qa▸e▸yd2 qb) hn.1
  .rcases ya9.mp hb with qb|qb
   .exact absurd (qb▸e▸yd2 qa) hn.1
   .exact VZ hn.2 qa qb e
def Dw(P:Int):List Mc->List (Str×List Int)->Prop
 |M::Ms,s::L=>Bg P M s.1 s.2=true/\Dw P Ms L
 |_,_=>True
theorem Dw.at{P:Int}:∀{Ms:List Mc} {L:List (Str×List Int)},Dw P Ms L->∀{i:Nat} {M:Mc} {s:Str×List Int},Ms[i]?=some M->L[i]?=some s->Bg P M s.1 s.2=true
 |[],_,_,_,_,_,h,_=>by cases h
 |_::_,[],_,_,_,_,_,h=>by cases h
 |N::Ms,v::L,h,0,M,s,e1,e2=>by
  cases e1;cases e2;exact h.1
 |N::Ms,v::L,h,i+1,M,s,e1,e2=>Dw.at h.2 (i:=i) e1 e2
theorem Dw.of{P:Int}:∀{Ms:List Mc} {L:List (Str×List Int)},(∀(i:Nat) (M:Mc) (s:Str×List Int),Ms[i]?=some M->L[i]?=some s->Bg P M s.1 s.2=true)->Dw P Ms L
 |[],_,_=>trivial
 |_::_,[],_=>trivial
 |N::Ms,v::L,h=>⟨h 0 N v rfl rfl,Dw.of λi M s e1 e2=>h (i+1) M s e1 e2⟩
theorem Vr{Ms:List Mc}(hm:MsOk Ms)(hr:RmOk Ms)(h:Jn Ms L):Bg P (BS Ms) (Av (L.map (·.1))) (L.flatMap (·.2))=true ↔ Dw P Ms L:=by
 have key:∀(i:Nat) (M:Mc) (s:Str×List Int),Ms[i]?=some M->L[i]?=some s->(BU M s.1).all (Br P (Ms.flatMap Mc.ws) (L.flatMap (·.2)))=Bg P M s.1 s.2:=λi M s e1 e2 =>
  Vm h hm.wd e1 e2 (Fe (hm.m M (yab e1)) (h.at e1 e2).1).2.2.2
 unfold Bg;rw[zii hr h.tak];show(EM Ms (L.map (·.1))).all (Br P (Ms.flatMap Mc.ws) (L.flatMap (·.2)))=true ↔ _
 unfold EM;rw[List.all_flatMap,yal];constructor
 .intro k;refine Dw.of λi M s e1 e2=>?_
  have q:=k (M,s.1) (yab (i:=i) (by rw[yd4];exact⟨e1,by rw[ya3,e2];rfl⟩))
  rw[<- key i M s e1 e2];exact q
 .intro k x hx;obtain⟨i,hi⟩:=List.getElem?_of_mem hx;rw[yd4,ya3]at hi;obtain⟨e1,e2⟩:=hi;cases e3:L[i]? with
  |none=>rw[e3]at e2;cases e2
  |some s =>
   rw[e3]at e2;have e4:s.1=x.2:=yao e2;rw[<- e4];show(BU x.1 s.1).all _=true;rw[key i x.1 s e1 e3];exact k.at e1 e3
abbrev Sk:Stmt:=AO 75
def Jd:AI :=
 (Af (m2 Bn (AA 7) (AA 2)) (AU (AA 8) (AD 6)) Ae)
def Je:AI :=
 (AF (AU (mC .non) (AD 6))
 (AF (Af (m2 (Cc true) (AA 5) (mC .non)) (B3 (Al (AY (AA 0) (AA 5))) (Ap 2 (AQ (AD 7) (AQ (AD 8) Aq))) Jd) Ae)
 (C6 3 (B5 (AB (AA 4) (AB (AA 6) AE))))))
def OU:AI :=
 (AF (CJ 3 (BJ AE))
 (AF (B3 (Al (AA 1)) (Ap 2 (AQ (AD 4) (AQ (AD 5) Aq))) Je)
 (AX (AA 3))))
def ME:List T->Option Ru:=Ac 3 9 OU
abbrev XS:Fn:=⟨1,["_law_told","_law_run_here","_law_part_here"],ME⟩
abbrev zc9:Gx:=⟨[],[],[],[],false,true,true,none,[],[],[],true,[],[],[],[],[],[],[],[]⟩
abbrev zch:Gm:=⟨["_law_told","_law_run_here","_law_part_here","_law_found","_law_wait","_law_number","_law_mine","_law_other","_law_door"],(A2 Sk).names,[],0,[],[],[],["_law_found"],[],false,[],[],[],zc9⟩
theorem zcm:Ck zch XS Sk OU:={}
noncomputable def Bk(p:Nat):List (Nat×Nat)->Option Int->Option Int
 |[],a=>a
 |x::s,a=>Bk p s (if x.1=p then some (x.2:Int) else a)
abbrev sR(P:Int)(S:List (List (Nat×Nat)))(ws:List (Int×Option Int))(p:Nat)(x3 x4 x5 x6 x7 x8:Option T):AN:=[some (.lst (S.map Bd)),some (.lst (ws.map (BW P))),some (.int (p:Int)),x3,x4,x5,x6,x7,x8]
theorem V5{P:Int}{S:List (List (Nat×Nat))}{ws:List (Int×Option Int)}{p:Nat}{x3 x4 x5:Option T}:∀(s:List (Nat×Nat)) (a:Option Int) (y7 y8:Option T),∃z7 z8,B9 (Ap 2 (AQ (AD 7) (AQ (AD 8) Aq))) Jd (s.map Dp) (sR P S ws p x3 x4 x5 (some (DL a)) y7 y8)=some (.nx (sR P S ws p x3 x4 x5 (some (DL (Bk p s a))) z7 z8))
 |[],a,y7,y8=>⟨y7,y8,rfl⟩
 |x::s,a,y7,y8=>by
  obtain⟨z7,z8,e⟩:=V5 s (if x.1=p then some (x.2:Int) else a) (some (.int (x.1:Int))) (some (.int (x.2:Int)))
  refine⟨z7,z8,?_⟩;rw[yad];unfold B9;have b:Ap 2 (AQ (AD 7) (AQ (AD 8) Aq)) (Dp x) (sR P S ws p x3 x4 x5 (some (DL a)) y7 y8)=some (sR P S ws p x3 x4 x5 (some (DL a)) (some (.int (x.1:Int))) (some (.int (x.2:Int)))):=by simp![]
  rw[b]
  have w:Jd (sR P S ws p x3 x4 x5 (some (DL a)) (some (.int (x.1:Int))) (some (.int (x.2:Int))))=some (.nx (sR P S ws p x3 x4 x5 (some (DL (if x.1=p then some (x.2:Int) else a))) (some (.int (x.1:Int))) (some (.int (x.2:Int))))):=by
   unfold Jd
   by_cases h:x.1=p
   .have q:((x.1:Int) == (p:Int))=true:=by rw[h];exact yff _
    rw[if_pos h]
    simp![GJ,q]
   .have q:((x.1:Int) == (p:Int))=false:=by rw[yfq];exact λz=>h (yeb z)
    rw[if_neg h]
    simp![GJ,q]
  simp only[w];exact e
def DU(S:List (List (Nat×Nat)))(p:Nat)(w:Int×Option Int):Int×Option Int:=(w.1,w.2.bind λk=>Bk p (S.getD k.toNat []) none)
theorem pr_ok{ws:List (Int×Option Int)}(hl:ws.length<=1000)(hk:∀w∈ws,∀k,w.2=some k->0<=k/\k<(S.length:Int))(p:Nat):ME [.lst (S.map Bd),.lst (ws.map (BW P)),.int (p:Int)]=some (.ok (.own ((ws.map (DU S p)).map (BW P)))):=by
 have ss:A3 (S.map Bd)=true:=BB λs _=>by
  have:A3 (s.map Dp)=true:=BB λ_ _=>rfl
  simp![this]
 have sw:=IT P ws
 obtain⟨τ,e,y4,y5,y6,y7,y8,rfl⟩:=GH (b:=Ap 2 (AQ (AD 4) (AQ (AD 5) Aq))) (body:=Je) (BW P) (λ(a:List (Int×Option Int)) τ=>∃y4 y5 y6 y7 y8,τ=sR P S ws p (some (.own (a.map (BW P)))) y4 y5 y6 y7 y8) (λw=>[DU S p w]) 1000 ws [] (sR P S ws p (some (.own [])) none none none none none) ⟨none,none,none,none,none,rfl⟩ (by
   have:=GI (g:=λw=>[DU S p w]) (m:=1) (L:=ws) λ_ _=>yae 1
   rw[yb0]
   omega) λw hw a τ hS hN=>by
  obtain⟨y4,y5,y6,y7,y8,rfl⟩:=hS;obtain⟨wt,k⟩:=w;have ks:=HW k;have kq:=N8 k;have al:a.length<100000:=by rw[ybg]at hN;omega
  rw[yar];cases k with
  |none =>
   refine⟨sR P S ws p (some (.own (a.map (BW P)))) (some (Bi P wt)) (some .non) y6 y7 y8,by simp![],_,?_,some (Bi P wt),some .non,some .non,y7,y8,rfl⟩
   unfold Je;refine sq (by simp![];rfl) ?_
   refine DJ (by simp![]) ?_
   simp![ya1,al]
   rfl
  |some k =>
   obtain⟨k0,k1⟩:=hk _ hw k rfl;have hi:k.toNat<S.length:=by omega
   have ak:A8 (S.map Bd) k=some (Bd (S.getD k.toNat [])):=Hs k0 (by rw[ya3,ya0 hi,ya2,ya0 hi];rfl)
   have s1:A3 ((S.getD k.toNat []).map Dp)=true:=BB λ_ _=>rfl
   obtain⟨z7,z8,ef⟩:=V5 (P:=P) (S:=S) (ws:=ws) (p:=p) (x3:=some (.own (a.map (BW P)))) (x4:=some (Bi P wt)) (x5:=some (.int k)) (S.getD k.toNat []) none y7 y8;refine⟨sR P S ws p (some (.own (a.map (BW P)))) (some (Bi P wt)) (some (.int k)) y6 y7 y8,by simp![],_,?_,some (Bi P wt),some (.int k),some (DL (Bk p (S.getD k.toNat []) none)),z7,z8,rfl⟩
   unfold Je;refine sq (by simp![];rfl) ?_
   refine sq (τ':=sR P S ws p (some (.own (a.map (BW P)))) (some (Bi P wt)) (some (.int k)) (some (DL (Bk p (S.getD k.toNat []) none))) z7 z8) (by rw[<- ef];simp![ss,ak,s1,AG _ s1]) ?_
   have ms:=HW (Bk p (S.getD k.toNat []) none);have mq:=N8 (Bk p (S.getD k.toNat []) none);have e2:BW P (DU S p (wt,some k))=.tup [Bi P wt,DL (Bk p (S.getD k.toNat []) none)]:=rfl;rw[yad,yc6,e2];generalize DL (Bk p (S.getD k.toNat []) none)=Z at *
   simp![ms,mq,ya1,al]
 rw[ybm]at e
 have e3:ws.flatMap (λw=>[DU S p w])=ws.map (DU S p):=by
  exact List.map_eq_flatMap.symm
 rw[e3]at e;unfold ME OU
 simp![ss,AG _ ss,sw,AG _ sw,e]
theorem V4{i:Nat}:∀{s:List (Nat×Nat)} {a:Option Int},(∀p∈s,p.1≠i)->Bk i s a=a
 |[],_,_=>rfl
 |p::s,a,h=>by
  unfold Bk;rw[if_neg (h p (ya5 ..))];exact V4 λq hq=>h q (ya4 _ hq)
theorem V3{i k:Nat}:∀{s:List (Nat×Nat)} {a:Option Int},(s.map (·.1)).Nodup->(i,k)∈s->Bk i s a=some (k:Int)
 |[],_,_,h=>by cases h
 |p::s,a,hn,h=>by
  rw[yad,ybv]at hn;unfold Bk
  rcases ya9.mp h with rfl|h
  .rw[if_pos rfl];exact V4 λq hq e=>hn.1 (e▸yd2 (f:=(·.1)) hq)
  .exact V3 hn.2 h
theorem Ka{i:Nat}:∀{s:List (Nat×Nat)} {a:Option Int},Bk i s a=a/\(∀p∈s,p.1≠i)\/∃k:Nat,(i,k)∈s/\Bk i s a=some (k:Int)
 |[],_=>.inl ⟨rfl,λ_ h=>by cases h⟩
 |p::s,a=>by
  unfold Bk
  by_cases q:p.1=i
  .rw[if_pos q]
   rcases Ka (i:=i) (s:=s) (a:=some (p.2:Int)) with ⟨e,-⟩|⟨k,hk,e⟩
   .exact .inr ⟨p.2,by rw[<- q];exact ya5 ..,e⟩
   .exact .inr ⟨k,ya4 _ hk,e⟩
  .rw[if_neg q]
   rcases Ka (i:=i) (s:=s) (a:=a) with ⟨e,h⟩|⟨k,hk,e⟩
   .refine .inl ⟨e,λx hx=>?_⟩
    rcases ya9.mp hx with rfl|hx
    .exact q
    .exact h x hx
   .exact .inr ⟨k,ya4 _ hk,e⟩
def KU(D:List (List Dr))(i:Nat)(r:Str):Option Int->Str
 |none=>r
 |some k=>(Au D i k.toNat).e
theorem Xf{D:List (List Dr)}{i:Nat}{r:Str}:∀{s:List (Nat×Nat)} {t:List Str} {a:Option Int},t[i]?=some (KU D i r a)->(Ef D s t)[i]?=some (KU D i r (Bk i s a))
 |[],_,_,h=>h
 |p::s,t,a,h=>by
  unfold Bk;show(Ef D s (t.set p.1 (Au D p.1 p.2).e))[i]?=_
  have hi:i<t.length:=by
   obtain⟨k,-⟩:=ya6.mp h;exact k
  refine Xf ?_
  by_cases q:p.1=i
  .rw[if_pos q,q,yax hi]
   rfl
  .rw[if_neg q,yb4 q];exact h
def Jk(M:Mc)(vs:List Int):Option Int->List Int
 |none=>vs
 |some k=>BM M (M.ds.getD k.toNat d0) vs
theorem Qi:∀{Ms:List Mc},(Ms.flatMap Mc.ws).Nodup->∀{i j:Nat} {M N:Mc},Ms[i]?=some M->Ms[j]?=some N->∀{x:Str},x∈M.ws->x∈N.ws->i=j
 |[],_,_,_,_,_,h,_,_,_,_=>by cases h
 |K::Ms,hn,i,j,M,N,e1,e2,x,h1,h2=>by
  rw[yat]at hn;obtain⟨-,n2,n3⟩:=yde.mp hn;cases i with
  |zero =>
   cases j with
   |zero=>rfl
   |succ j =>
    cases e1;exact absurd rfl (n3 x h1 x (yap.mpr ⟨N,yab (i:=j) e2,h2⟩))
  |succ i =>
   cases j with
   |zero =>
    cases e2;exact absurd rfl (n3 x h2 x (yap.mpr ⟨M,yab (i:=i) e1,h1⟩))
   |succ j=>exact congrArg (·+1) (Qi n2 (i:=i) (j:=j) e1 e2 h1 h2)
theorem Pj{Ms:List Mc}{M:Mc}(e:Ms[i]?=some M)(k:Nat):Au (AV Ms) i k=M.ds.getD k d0:=by
 unfold Au;rw[ya2 (l:=AV Ms),ya3,e]
 rfl
theorem zjw{Ms:List Mc}(hm:MsOk Ms){s:List (Nat×Nat)}(hs:FE (AV Ms) s)(hn:(s.map (·.1)).Nodup){M:Mc}(e:Ms[i]?=some M)(hv:vs.length=M.ws.length):((M.ws.zip vs).map λx=>if x.1∈DW (AV Ms) s then 0 else x.2)=Jk M vs (Bk i s none):=by
 have own:∀x∈M.ws,∀p∈s,x∈(Au (AV Ms) p.1 p.2).n->p.1=i:=λx hx p hp hxn=>by
  obtain⟨N,eN,eD⟩:=Pk (hs p hp).1 (hs p hp).2;have D:=(hm.m N (yab eN)).d _ (yab eD);exact Qi hm.wd eN e (D.n x hxn) hx
 rcases Ka (i:=i) (s:=s) (a:=none) with ⟨e1,h1⟩|⟨k,hk,e1⟩
 .rw[e1];show _=vs
  have q:((M.ws.zip vs).map λx=>if x.1∈DW (AV Ms) s then 0 else x.2)=(M.ws.zip vs).map Prod.snd:=by
   refine ybk λx hx=>if_neg λhq=>?_
   obtain⟨p,hp,hxn⟩:=yap.mp hq;exact h1 p hp (own x.1 (yct hx).1 p hp hxn)
  rw[q,List.map_snd_zip (by omega)]
 .rw[e1];show _=BM M (M.ds.getD ((k:Int)).toNat d0) vs;rw[ybt,<- Pj e k];unfold BM;refine ybk λx hx=>?_
  have iff:x.1∈DW (AV Ms) s ↔ x.1∈(Au (AV Ms) i k).n:=by
   constructor
   .intro hq;obtain⟨p,hp,hxn⟩:=yap.mp hq;have pi:=own x.1 (yct hx).1 p hp hxn;have m1:=V3 (a:=none) hn (show(p.1,p.2)∈s from hp);rw[pi,e1]at m1;have k2:k=p.2:=yeb (yao m1);rw[k2,<- pi];exact hxn
   .intro hq;exact yap.mpr ⟨(i,k),hk,hq⟩
  by_cases c:x.1∈DW (AV Ms) s
  .rw[if_pos c,if_pos (iff.mp c)]
  .rw[if_neg c,if_neg λq=>c (iff.mpr q)]
def FT(D:List (List Dr))(s:List (Nat×Nat)):Nat->List Mc->List (Str×List Int)->List (Str×List Int)
 |i,M::Ms,v::L=>(KU D i v.1 (Bk i s none),Jk M v.2 (Bk i s none))::FT D s (i+1) Ms L
 |_,_,_=>[]
theorem K5{D:List (List Dr)}{s:List (Nat×Nat)}:∀{i:Nat} {Ms:List Mc} {L:List (Str×List Int)} {j:Nat} {M:Mc} {v:Str×List Int},Ms[j]?=some M->L[j]?=some v->(FT D s i Ms L)[j]?=some (KU D (i+j) v.1 (Bk (i+j) s none),Jk M v.2 (Bk (i+j) s none))
 |_,[],_,_,_,_,h,_=>by cases h
 |_,_::_,[],_,_,_,_,h=>by cases h
 |i,N::Ms,u::L,0,M,v,h1,h2=>by
  cases h1;cases h2
  rfl
 |i,N::Ms,u::L,j+1,M,v,h1,h2=>by
  have q:=K5 (D:=D) (s:=s) (i:=i+1) (Ms:=Ms) (L:=L) (j:=j) h1 h2;rw[show i+1+j=i+(j+1) by omega]at q
  exact q
theorem N5{D:List (List Dr)}{s:List (Nat×Nat)}:∀{i:Nat} {Ms:List Mc} {L:List (Str×List Int)},Ms.length=L.length->(FT D s i Ms L).length=L.length
 |_,[],[],_=>rfl
 |_,[],_::_,h=>by cases h
 |_,_::_,[],h=>by cases h
 |i,_::Ms,_::L,h=>congrArg (·+1) (N5 (i:=i+1) (Nat.succ.inj h))
theorem VR{D:List (List Dr)}{s:List (Nat×Nat)}{f:Str×Int->Int}:∀{i:Nat} {Ms:List Mc} {L:List (Str×List Int)},Jn Ms L->(∀(j:Nat) (M:Mc) (v:Str×List Int),Ms[j]?=some M->L[j]?=some v->(M.ws.zip v.2).map f=Jk M v.2 (Bk (i+j) s none))->((Ms.flatMap Mc.ws).zip (L.flatMap (·.2))).map f=(FT D s i Ms L).flatMap (·.2)
 |_,[],[],_,_=>rfl
 |i,M::Ms,v::L,h,k=>by
  rw[yat,yat,List.zip_append h.2.1.symm,yar,k 0 M v rfl rfl,VR (D:=D) (s:=s) (i:=i+1) h.2.2 λj N u e1 e2=>by
   rw[show i+1+j=i+(j+1) by omega]
   exact k (j+1) N u e1 e2]
  rfl
 |_,[],_::_,h,_=>h.elim
 |_,_::_,[],h,_=>h.elim
theorem Jn.of:∀{Ms:List Mc} {L:List (Str×List Int)},Ms.length=L.length->(∀(i:Nat) (M:Mc) (s:Str×List Int),Ms[i]?=some M->L[i]?=some s->s.1∈M.nm/\s.2.length=M.ws.length)->Jn Ms L
 |[],[],_,_=>trivial
 |M::Ms,s::L,h,k=>⟨(k 0 M s rfl rfl).1,(k 0 M s rfl rfl).2,Jn.of (Nat.succ.inj h) λi N u e1 e2=>k (i+1) N u e1 e2⟩
 |[],_::_,h,_=>by cases h
 |_::_,[],h,_=>by cases h
variable {Ms:List Mc}{s:List (Nat×Nat)}
theorem V6(hs:FE (AV Ms) s){M:Mc}(e:Ms[i]?=some M):Bk i s none=none\/∃k:Nat,(i,k)∈s/\Bk i s none=some (k:Int)/\k<M.ds.length/\Au (AV Ms) i k=M.ds.getD k d0/\M.ds.getD k d0∈M.ds:=by
 rcases Ka (i:=i) (s:=s) (a:=none) with ⟨e1,-⟩|⟨k,hk,e1⟩
 .exact .inl e1
 .obtain⟨N,eN,eD⟩:=Pk (hs _ hk).1 (hs _ hk).2;have en:N=M:=yao (eN.symm.trans e);rw[en]at eD;obtain⟨kl,-⟩:=ya6.mp eD;refine .inr ⟨k,hk,e1,kl,Pj e k,?_⟩;rw[<- Pj e k];exact yab eD
theorem nx_jn(hm:MsOk Ms)(hs:FE (AV Ms) s)(h:Jn Ms L):Jn Ms (FT (AV Ms) s 0 Ms L):=by
 refine Jn.of (by rw[N5 h.len];exact h.len) λi M v e1 e2=>?_
 have il:i<L.length:=by
  rw[<- h.len];obtain⟨k,-⟩:=ya6.mp e1;exact k
 obtain⟨j1,j2⟩:=h.at e1 (ya0 il);rw[K5 e1 (ya0 il),ycy]at e2;cases e2
 rcases V6 hs e1 with q|⟨k,-,q,kl,ed,hd⟩
 .rw[q];exact⟨j1,j2⟩
 .rw[q];show(Au (AV Ms) i ((k:Int)).toNat).e∈M.nm/\(BM M (M.ds.getD ((k:Int)).toNat d0) _).length=_;rw[ybt,ed];exact⟨((hm.m M (yab e1)).d _ hd).e,IG j2⟩
theorem zh6(h:Jn Ms L):Ef (AV Ms) s (L.map (·.1))=(FT (AV Ms) s 0 Ms L).map (·.1):=by
 refine ybq λi=>?_
 by_cases il:i<L.length
 .have im:i<Ms.length:=by rw[h.len];exact il
  have q:=Xf (D:=AV Ms) (i:=i) (r:=L[i].1) (s:=s) (t:=L.map (·.1)) (a:=none) (by rw[ya3,ya0 il];rfl)
  rw[q,ya3,K5 (ya0 im) (ya0 il),ycy]
  rfl
 .rw[yai (by rw[LX,ya1];omega),yai (by rw[ya1,N5 h.len];omega)]
theorem zju(hm:MsOk Ms)(hs:FE (AV Ms) s)(hn:(s.map (·.1)).Nodup)(h:Jn Ms L)(t:List Str):BM (BS Ms) (FK (AV Ms) (s,t)) (L.flatMap (·.2))=(FT (AV Ms) s 0 Ms L).flatMap (·.2) :=
 VR (f:=λx=>if x.1∈DW (AV Ms) s then 0 else x.2) h λj M v e1 e2=>by
  rw[ycy];exact zjw hm hs hn e1 (h.at e1 e2).2
abbrev Cg(L:List (Str×List Int)):Str×List Int:=(Av (L.map (·.1)),L.flatMap (·.2))
theorem zeh(hm:MsOk Ms)(hr:RmOk Ms)(h:Jn Ms L){w:Int}(w0:0<=w){d:Dr}(hd:(BS Ms).ds[n]?=some d)(e:Dj P (BS Ms) (Cg L) w d=some s'):∃x L',(Bb (AV Ms) (Aa Ms))[n]?=some x/\s'=Cg L'/\Jn Ms L'/\Dw P Ms L'/\∀(i:Nat) (M:Mc) (v:Str×List Int),Ms[i]?=some M->L[i]?=some v->∃v',L'[i]?=some v'/\DC P M v (w,Bk i x.1 none) false=some v':=by
 rw[show(BS Ms).ds=(Bb (AV Ms) (Aa Ms)).map (FK (AV Ms)) from rfl,ya3]at hd;cases hx:(Bb (AV Ms) (Aa Ms))[n]? with
 |none=>rw[hx]at hd;cases hd
 |some x =>
  rw[hx]at hd;have ed:FK (AV Ms) x=d:=yao hd;obtain⟨s,t⟩:=x;obtain⟨ht,i0,k0,q1,q2,q3,q4⟩:=MP (yab hx);obtain⟨hs,-,sh⟩:=LH q1 q2 q3
  have hn:(s.map (·.1)).Nodup:=by
   rcases sh with e|⟨j,m,ne,e⟩
   .rw[show s=_ from e];exact ybv.mpr ⟨yb7,List.nodup_nil⟩
   .rw[show s=_ from e];refine ybv.mpr ⟨λq=>?_,ybv.mpr ⟨yb7,List.nodup_nil⟩⟩
    exact ne (ya8.mp q).symm
  have hw:=h.wait w;unfold Dj at e;split at e
  .rename_i k;obtain⟨k1,k2,k3⟩:=k;rw[List.all_append,ya7]at k2;have et:t=L.map (·.1):=VZ hr.d ht h.tak (by rw[<- ed]at k1;exact k1)
   have nv:=zju hm hs hn hw t;have nn:=zh6 (s:=s) hw;rw[Qd,<- et]at nn;rw[MQ,ed]at nv
   have ee:d.e=Av ((FT (AV Ms) s 0 Ms (HE w L)).map (·.1)):=by
    rw[<- ed,<- nn]
    rfl
   have jn:=nx_jn hm hs hw;rw[show BM (BS Ms) d ((Cg L).2.map (·+w))=_ from nv,ee]at k3 e;have lg:=(Vr hm hr jn).mp k3
   have lw:=(Vr (P:=P) hm hr hw).mp (by
    rw[Qd,MQ];exact k2.1)
   refine⟨(s,t),FT (AV Ms) s 0 Ms (HE w L),rfl,(yao e).symm,jn,lg,λi M v e1 e2=>?_⟩
   have e3:(HE w L)[i]?=some (v.1,v.2.map (·+w)):=by
    rw[ya3,e2]
    rfl
   have e4:=K5 (D:=AV Ms) (s:=s) (i:=0) e1 e3;rw[ycy]at e4;refine⟨_,e4,?_⟩;have lv:=lw.at e1 e3;unfold DC;rw[if_pos ⟨w0,lv⟩]
   rcases V6 hs e1 with q|⟨k,hk,q,kl,eD,hD⟩
   .show(match Bk i s none with
     |none=>some (v.1,v.2.map (·+w))
     |some k=>EL P M v.1 (v.2.map (·+w)) k false)=_
    rw[q]
    rfl
   .have l2:=lg.at e1 e4
    show(match Bk i s none with
     |none=>some (v.1,v.2.map (·+w))
     |some k=>EL P M v.1 (v.2.map (·+w)) k false)=_
    rw[q]at l2 ⊢;have eD2:Au (AV Ms) i ((k:Int)).toNat=M.ds.getD ((k:Int)).toNat d0:=by rw[ybt];exact eD
    show EL P M v.1 (v.2.map (·+w)) (k:Int) false=some ((Au (AV Ms) i ((k:Int)).toNat).e,BM M (M.ds.getD ((k:Int)).toNat d0) (v.2.map (·+w)))
    have l3:Bg P M (Au (AV Ms) i ((k:Int)).toNat).e (BM M (M.ds.getD ((k:Int)).toNat d0) (v.2.map (·+w)))=true:=l2;rw[eD2]at l3 ⊢;rw[ybt]at l3 ⊢
    have sv:(M.ds.getD k d0).s=v.1:=by
     have z:=yfh (yal.mp q4 (i,k) hk);rw[show(Au (AV Ms) (i,k).1 (i,k).2)=_ from eD]at z;rw[z];show t.getD i ""=v.1;rw[et,ya2,ya3,e2]
     rfl
    have gv:(M.ds.getD k d0).g.all (Br P M.ws (v.2.map (·+w)))=true:=by
     have D:=(hm.m M (yab e1)).d _ hD;rw[<- Vm hw hm.wd e1 e3 D.g,MQ,yal];intro a ha;refine yal.mp k2.2 a ?_;rw[<- ed];exact yap.mpr ⟨(i,k),hk,by rw[show(Au (AV Ms) (i,k).1 (i,k).2)=_ from eD];exact ha⟩
    unfold EL;rw[if_pos ⟨by omega,by omega⟩,ybt,if_pos ⟨sv,λz=>(by cases z),gv,l3⟩]
  .cases e
theorem zi7{M:Mc}{v:Str×List Int}(h:Bg P M v.1 v.2=true):DC P M v (0,none) al=some v:=by
 have q:v.2.map (·+(0:Int))=v.2:=by
  rw[show(λx:Int=>x+0)=id from funext λx=>Int.add_zero x,List.map_id]
 unfold DC;show(if (0:Int)<=0/\Bg P M v.1 (v.2.map (·+(0:Int)))=true then some (v.1,v.2.map (·+(0:Int))) else none)=some v
 rw[q,if_pos ⟨Int.le_refl 0,h⟩]
theorem Sz{P:Int}(hm:MsOk Ms)(hr:RmOk Ms):∀{ws:List (Int×Option Int)} {l L:List (Str×List Int)},Jn Ms L->Dw P Ms L->Dd P (BS Ms) (Cg L) ws l->∃Ls:List (List (Str×List Int)),l=Ls.map Cg/\(∀L'∈Ls,Jn Ms L')/\∀(i:Nat) (M:Mc) (v:Str×List Int),Ms[i]?=some M->L[i]?=some v->Fl P M false v (ws.map (DU ((Bb (AV Ms) (Aa Ms)).map (·.1)) i))=some (Ls.map λL'=>L'.getD i ("",[]))
 |[],[],_,_,_,_=>⟨[],rfl,(λ_ h=>by cases h),λ_ _ _ _ _=>rfl⟩
 |w::ws,s'::l,L,h,g,r=>by
  obtain⟨L1,e1,j1,g1,k1⟩:∃L1,s'=Cg L1/\Jn Ms L1/\Dw P Ms L1/\∀(i:Nat) (M:Mc) (v:Str×List Int),Ms[i]?=some M->L[i]?=some v->∃v',L1[i]?=some v'/\DC P M v (DU ((Bb (AV Ms) (Aa Ms)).map (·.1)) i w) false=some v':=by
   rcases r.1 with ⟨rfl,rfl⟩|⟨n,d,hn,hd,w0,e⟩
   .exact⟨L,rfl,h,g,λi M v e1 e2=>⟨v,e2,zi7 (g.at e1 e2)⟩⟩
   .obtain⟨x,L1,hx,e1,j1,g1,k1⟩:=zeh hm hr h w0 hd e;refine⟨L1,e1,j1,g1,λi M v e2 e3=>?_⟩
    obtain⟨v',q1,q2⟩:=k1 i M v e2 e3;refine⟨v',q1,?_⟩
    have q3:DU ((Bb (AV Ms) (Aa Ms)).map (·.1)) i w=(w.1,Bk i x.1 none):=by
     unfold DU;rw[hn,ydm,ybt,ya2,ya3,hx]
     rfl
    rw[q3];exact q2
  have r2:Dd P (BS Ms) (Cg L1) ws l:=e1▸r.2;obtain⟨Ls,q1,q2,q3⟩:=Sz hm hr j1 g1 r2;refine⟨L1::Ls,by rw[q1,e1];rfl,λL' hL=>?_,λi M v e2 e3=>?_⟩
  .rcases ya9.mp hL with rfl|hL
   .exact j1
   .exact q2 L' hL
  .obtain⟨v',z1,z2⟩:=k1 i M v e2 e3;rw[yad];unfold Fl;rw[z2,ydm,q3 i M v' e2 z1,yad,ya2,z1]
   rfl
 |[],_::_,_,_,_,r=>r.elim
 |_::_,[],_,_,_,r=>r.elim
theorem Wi:∀{Ms:List Mc},(∀M∈Ms,M.nm≠[])->∀(u:List Str) (ts:List (List Str)),∃r,(Ms.map Mc.nm).foldl Bj (u::ts)=(u++Ms.map λM=>M.nm.headD "")::r
 |[],_,u,ts=>⟨ts,by rw[yc6,yc6,yay];rfl⟩
 |M::Ms,h,u,ts=>by
  obtain⟨a,rs,e⟩:=List.exists_cons_of_ne_nil (h M (ya5 ..))
  have q:Bj (u::ts) M.nm=(u++[a])::(rs.map (λr=>u++[r])++Bj ts M.nm):=by
   unfold Bj;rw[yat,e]
   rfl
  obtain⟨r,er⟩:=Wi (λN hN=>h N (ya4 _ hN)) (u++[a]) (rs.map (λr=>u++[r])++Bj ts M.nm)
  refine⟨r,?_⟩;rw[yad,yds,q,er,yad,e,ybp]
  rfl
theorem VW{M:Mc}(h:McOk M):M.nm≠[]:=λz=>by
 have:=h.r.l1;have q:=congrArg List.length z;rw[show M.nm.length=M.rs.length from ya1 _,yb0]at q
 omega
theorem R5(hm:MsOk Ms):BG (BS Ms)=Cg (Ms.map BG):=by
 obtain⟨r,e⟩:=Wi (λM hM=>VW (hm.m M hM)) [] []
 have e2:(BS Ms).nm=(Aa Ms).map Av:=by
  show((Aa Ms).map λt=>(Av t,EM Ms t)).map (·.1)=_
  rw[yaq]
  rfl
 have e3:Aa Ms=(Ms.map λM=>M.nm.headD "")::r:=e
 unfold BG;rw[e2,e3,yad];refine Prod.ext ?_ ?_
 .show Av (Ms.map λM=>M.nm.headD "")=Av ((Ms.map BG).map (·.1))
  rw[yaq]
  rfl
 .show(Ms.flatMap Mc.ws).map (λ_=>(0:Int))=(Ms.map BG).flatMap (·.2)
  rw[List.map_flatMap,yen]
  rfl
theorem WE(hm:∀M∈Ms,McOk M):Jn Ms (Ms.map BG):=Jn.of (by rw[ya1]) λi M v e1 e2=>by
 rw[ya3,e1]at e2;cases e2;obtain⟨a,rs,e⟩:=List.exists_cons_of_ne_nil (VW (hm M (yab e1)));refine⟨?_,ya1 ..⟩;show M.nm.headD ""∈M.nm;rw[e];exact ya5 ..
theorem znl(p1:0<P)(hm:∀M∈Ms,McOk M)(hn:∀M∈Ms,∀r∈M.rs,∀t∈r.2,0<CT t):Dw P Ms (Ms.map BG):=Dw.of λi M v e1 e2=>by
 rw[ya3,e1]at e2;cases e2;have q:=yab e1;exact O7 p1 (hm M q) (hn M q) _
abbrev Sw:Stmt:=AO 76
def L9:AJ :=
 (AY (AY (AA 0) (AA 1)) (mC (.int 0)))
def M8:AI :=
 (AU (m2 BL (AA 3) (AY (AY (AA 4) (AA 1)) (mC (.int 1)))) (AD 3))
def Kt:AI :=
 (AF (AU (Gf (mC (.str "/")) (Ar 1 [1] (Al (AA 0)) (AD 0) (mC (.bl true)) L9)) (AD 2))
 (AF (AU (BJ AE) (AD 3))
 (AF (B3 (Al (AA 0)) (AD 4) M8)
 (AX (B5 (AB (AA 2) (AB (AA 3) AE)))))))
def JY:List T->Option Ru:=Ac 2 5 Kt
abbrev X1:Fn:=⟨1,["_law_rows","_law_at"],JY⟩
abbrev ze0:Gx:=⟨[],[],[],[],false,true,true,none,[],[],[],true,[],[],[],[],[],[],[],[]⟩
abbrev ze5:Gm:=⟨["_law_rows","_law_at","_law_name","_law_values","_law_row"],(A2 Sw).names,["_law_at"],0,[],[],[],[],[],false,[],[],[],ze0⟩
theorem zed:Ck ze5 X1 Sw Kt:={}
abbrev BV(P:Int)(l:List (Str×List Int)):T:=.lst (l.map (Ax P))
theorem NN(P:Int)(L:List (List (Str×List Int))):A3 (L.map (BV P))=true:=BB λl _=>by
 have:A3 (l.map (Ax P))=true:=BB λs _=>Dy P s
 simp![this]
theorem ao_ok{L:List (List (Str×List Int))}(hl:L.length<=6)(ha:∀l∈L,a<l.length)(hn:∀l∈L,(l.getD a ("",[])).1.length<=60)(hv:(L.flatMap λl=>(l.getD a ("",[])).2).length<=1000):JY [.lst (L.map (BV P)),.int (a:Int)]=some (.ok (.tup [.str (Av (L.map λl=>(l.getD a ("",[])).1)),.lst (Bc P (L.flatMap λl=>(l.getD a ("",[])).2))])):=by
 have sr:=NN P L;have at_:∀l∈L,A8 (l.map (Ax P)) (a:Int)=some (Ax P (l.getD a ("",[]))):=λl h=>CZ (by rw[ya3,ya0 (ha l h),ya2,ya0 (ha l h)];rfl)
 have lc:BD (AD 0) (mC (.bl true)) L9 (L.map (BV P)) [none,some (.int (a:Int))]=some ((L.map λl=>(l.getD a ("",[])).1).map T.str):=by
  have q:=Bv (b:=AD 0) (me:=L9) (BV P) (λl=>T.str (l.getD a ("",[])).1) (λτ=>∃x,τ=[x,some (.int (a:Int))]) L [none,some (.int (a:Int))] ⟨none,rfl⟩ λl h τ hI=>by
   obtain⟨y,rfl⟩:=hI;have sl:A3 (l.map (Ax P))=true:=BB λs _=>Dy P s
   have v:=Di P (l.getD a ("",[])).2;have q:=at_ l h;refine⟨[some (BV P l),some (.int (a:Int))],by simp![],?_,_,rfl⟩
   unfold L9
   simp![sl,q,v]
  rw[q,yaq]
  rfl
 obtain⟨τ,e,y4,rfl⟩:=GH (b:=AD 4) (body:=M8) (BV P) (λ(b:List Int) τ=>∃y4,τ=[some (.lst (L.map (BV P))),some (.int (a:Int)),some (.str (Av (L.map λl=>(l.getD a ("",[])).1))),some (.lst (Bc P b)),y4]) (λl=>(l.getD a ("",[])).2) 1000 L [] [some (.lst (L.map (BV P))),some (.int (a:Int)),some (.str (Av (L.map λl=>(l.getD a ("",[])).1))),some (.lst []),none] ⟨none,rfl⟩ (by rw[yb0];omega) λl h b τ hS hN=>by
  obtain⟨y4,rfl⟩:=hS;have sl:A3 (l.map (Ax P))=true:=BB λs _=>Dy P s
  have v:=Di P (l.getD a ("",[])).2;have vb:=Di P b;have vc:=Di P (b++(l.getD a ("",[])).2);have q:=at_ l h;have ll:b.length+(l.getD a ("",[])).2.length<=100000:=by omega
  have em:Bc P b++Bc P (l.getD a ("",[])).2=Bc P (b++(l.getD a ("",[])).2):=by unfold Bc;rw[yar]
  refine⟨[some (.lst (L.map (BV P))),some (.int (a:Int)),some (.str (Av (L.map λl=>(l.getD a ("",[])).1))),some (.lst (Bc P b)),some (BV P l)],by simp![],_,?_,some (BV P l),rfl⟩
  unfold M8
  simp![sl,q,v,AG _ v,vb,AG _ vb,ya1,ll]
  rw[em]
  simp![vc,AG _ vc]
 rw[ybm]at e;have vz:=Di P (L.flatMap λl=>(l.getD a ("",[])).2)
 have jf:=WG (t:=L.map λl=>(l.getD a ("",[])).1) (by rw[ya1];exact hl) λr hr=>by
  obtain⟨l,h,rfl⟩:=yag.mp hr;exact hn l h
 simp only[ya1]at jf;have l1:L.length<=100000:=by omega
 have run:Kt [some (.lst (L.map (BV P))),some (.int (a:Int)),none,none,none]=some (.rt (.tup [.str (Av (L.map λl=>(l.getD a ("",[])).1)),.lst (Bc P (L.flatMap λl=>(l.getD a ("",[])).2))])):=by
  unfold Kt;refine sq (τ':=[some (.lst (L.map (BV P))),some (.int (a:Int)),some (.str (Av (L.map λl=>(l.getD a ("",[])).1))),none,none]) (by simp![sr,AG _ sr,lc,ya1,l1,Gf,HQ,jf,Av]) ?_
  refine sq (τ':=[some (.lst (L.map (BV P))),some (.int (a:Int)),some (.str (Av (L.map λl=>(l.getD a ("",[])).1))),some (.lst []),none]) (by simp![]) ?_
  refine sq (τ':=_) (by rw[<- e];simp![sr,AG _ sr]) ?_
  simp![vz,AG _ vz]
 unfold JY
 simp![sr,AG _ sr,run]
abbrev KO:Stmt:=AO 77
def Hr:AJ :=
 (B5 (AB (AS JX (AB (AA 0) (AB (AA 2) AE))) (AB (AA 1) AE)))
def L6:AJ :=
 (AS JX (AB (AA 0) (AB (AA 1) AE)))
def Hq:AJ :=
 (B5 (AB (AA 0) (AB (Ar 1 [2] (Al (AA 1)) (AD 0) (mC (.bl true)) L6) AE)))
def Ho:AJ :=
 (AS E3 (AB (AY (AA 1) (AA 0)) (AB (AS ME (AB (AA 3) (AB (AA 2) (AB (AA 0) AE)))) (AB (mC (.bl false)) AE))))
def JJ:AJ :=
 (m1 B0 (AA 0))
def JI:AJ :=
 (m1 B0 (AA 1))
def Hn:AJ :=
 (m2 Bn (AS JY (AB (AA 2) (AB (AA 0) AE))) (AY (AA 1) (AA 0)))
def Kk:AI :=
 (AF (AU (AY (BJ (BC (mC (.int 1)) (BC (m2 BL (mC (.int 1)) (m2 BO (m2 CN (AS FH (AB (AA 0) (AB (mC (.int 2)) AE))) (mC (.int 3))) (m2 Fo (mC (.int 10)) (mC (.int 40))))) AE))) (m2 BO (AS FH (AB (AA 0) (AB (mC (.int 2)) AE))) (mC (.int 2)))) (AD 1))
 (AF (AU (AY (BJ (BC (mC (.int 1)) (BC (mC (.int 12)) (BC (mC (.int 7)) (BC (mC (.int 30)) AE))))) (m2 BO (m2 CN (AS FH (AB (AA 0) (AB (mC (.int 2)) AE))) (mC (.int 2))) (mC (.int 4)))) (AD 2))
 (AF (AU (AS MD (AB (AA 0) (AB (AA 1) AE))) (AD 3))
 (AF (AU (mC .non) (AD 4))
 (AF (HR MO (AU (AS Hv (AB (m1 CK (AA 3)) AE)) (AD 4)) (AF (AU (mC .non) (AD 4)) Ae))
 (AF (Af (m2 (Cc false) (AA 4) (mC .non)) (AX (mC (.bl true))) Ae)
 (AF (AU (AS Gv (AB (AA 4) (AB (Cb (Dt (AA 0) (some (mC (.int 6))) (some (mC (.int 18)))) (Ds (AA 0) (some (mC (.int 6))) (some (mC (.int 18))))) (AB (AA 1) (AB (AA 2) AE))))) (Ap 2 (AQ (AD 5) (AQ (AD 9) Aq))))
 (AF (AU (Ar 2 [2] (Al (AA 5)) (Ap 2 (AQ (AD 0) (AQ (AD 1) Aq))) (mC (.bl true)) Hr) (AD 5))
 (AF (AU (AS (gD [(.bl true)] E3) (AB (AA 4) (AB (m1 CK (AA 5)) AE))) (AD 6))
 (AF (Af (m2 By (AA 6) (Ar 2 [2] (Al (AA 9)) (Ap 2 (AQ (AD 0) (AQ (AD 1) Aq))) (mC (.bl true)) Hq)) (AX (mC (.bl false))) Ae)
 (AF (AU (AS Fc (AB (m1 CK (AA 3)) AE)) (AD 7))
 (AF (AU (Ar 1 [3,5,7] (CM (AB (m1 B0 (AA 3)) AE)) (AD 0) (mC (.bl true)) Ho) (AD 8))
 (AF (Af (m2 By (Ar 1 [] (Al (AA 8)) (AD 0) (mC (.bl true)) JJ) (Ar 1 [6] (Al (AA 8)) (AD 0) (mC (.bl true)) JI)) (AX (mC (.bl false))) Ae)
 (AX (m1 DE (Ar 1 [6,8] (CM (AB (m1 B0 (AA 6)) AE)) (AD 0) (mC (.bl true)) Hn))))))))))))))))
def Lq:List T->Option Ru:=Ac 1 10 Kk
abbrev zo9:Fn:=⟨10,["_law_script"],Lq⟩
abbrev zo7:Gx:=⟨[],[],[],[],false,true,true,none,[("TooMany",MO)],[],[],true,[],[],[],[],[],[],[],[("stands",PF,[(.bl true)])]⟩
abbrev WY:Gm:=⟨["_law_script","_law_unit","_law_parts_here","_law_machines","_law_whole","_law_run_here","_law_found","_law_told","_law_rows","_law_due"],(A2 KO).names,["_law_parts_here","_law_machines","_law_run_here","_law_found","_law_told","_law_rows"],9,[("_law_cell_at",P0),("_law_parts",XR),("together",Wm),("_law_run",XO),("_law_fraction",XY),("shares",Wu),("stands",PF),("_law_part_run",XS),("_law_as_one",X1)],["list","range","len","all"],[],[],[],false,[],[],[],zo7⟩
theorem YB:Ck WY zo9 KO Kk:={}
theorem lc12(p1:0<P)(p2:P<=100)(ws:List (Int×Option Int)):BD (Ap 2 (AQ (AD 0) (AQ (AD 1) Aq))) (mC (.bl true)) Hr (ws.map Cv) [none,none,some (.int P)]=some (ws.map (BW P)) :=
 Bv (b:=Ap 2 (AQ (AD 0) (AQ (AD 1) Aq))) (me:=Hr) Cv (BW P) (λτ=>∃x y,τ=[x,y,some (.int P)]) ws [none,none,some (.int P)] ⟨none,none,rfl⟩ λw _ τ hI=>by
  obtain⟨x,y,rfl⟩:=hI;have e:=Vo p1 p2 w.1;obtain⟨a,k⟩:=w;refine⟨[some (.int a),some (DL k),some (.int P)],by cases k<;>simp![],?_,_,_,rfl⟩
  unfold Hr;cases k<;>simp![e]
theorem lc14(p1:0<P)(p2:P<=100)(vs:List Int):BD (AD 0) (mC (.bl true)) L6 (vs.map T.int) [none,some (.int P)]=some (Bc P vs) :=
 Bv (b:=AD 0) (me:=L6) T.int (Bi P) (λτ=>∃x,τ=[x,some (.int P)]) vs [none,some (.int P)] ⟨none,rfl⟩ λv _ τ hI=>by
  obtain⟨x,rfl⟩:=hI;have e:=Vo p1 p2 v;refine⟨[some (.int v),some (.int P)],by simp![],?_,_,rfl⟩
  unfold L6
  simp![e]
theorem lc14b(p1:0<P)(p2:P<=100){l:List (Str×List Int)}(hl:∀s∈l,s.2.length<=1000):BD (Ap 2 (AQ (AD 0) (AQ (AD 1) Aq))) (mC (.bl true)) Hq (l.map BZ) [none,none,some (.int P)]=some (l.map (Ax P)) :=
 Bv (b:=Ap 2 (AQ (AD 0) (AQ (AD 1) Aq))) (me:=Hq) BZ (Ax P) (λτ=>∃x y,τ=[x,y,some (.int P)]) l [none,none,some (.int P)] ⟨none,none,rfl⟩ λs hs τ hI=>by
  obtain⟨x,y,rfl⟩:=hI;have e:=lc14 p1 p2 s.2;have i1:=DA s.2;have v1:=Di P s.2;have l1:s.2.length<=100000:=yak (hl s hs) (by decide)
  refine⟨[some (.str s.1),some (.lst (s.2.map T.int)),some (.int P)],by simp![i1,AG _ i1],?_,_,_,rfl⟩
  unfold Hq;show _=some (Rs.v (.tup [.str s.1,.lst (Bc P s.2)]) false);generalize Bc P s.2=V at *
  simp![i1,AG _ i1,ya1,l1,e,v1,AG _ v1]
theorem lc17{Ms:List Mc}(hm:∀M∈Ms,McOk M){ws:List (Int×Option Int)}(hl:ws.length<=1000)(hk:∀w∈ws,∀k,w.2=some k->0<=k/\k<(S.length:Int))(R:Nat->List (Str×List Int))(hR:∀(i:Nat) (M:Mc),Ms[i]?=some M->E3 [AL M,.lst ((ws.map (DU S i)).map (BW P)),.bl false]=some (.ok (.own ((R i).map (Ax P))))):BD (AD 0) (mC (.bl true)) Ho (mT Ms.length λi=>.int (i:Int)) [none,some (.lst (Ms.map AL)),some (.lst (ws.map (BW P))),some (.lst (S.map Bd))]=some (mT Ms.length λi=>.own ((R i).map (Ax P))) :=
 Bv (b:=AD 0) (me:=Ho) (λi:Nat=>T.int (i:Int)) (λi=>.own ((R i).map (Ax P))) (λτ=>∃x,τ=[x,some (.lst (Ms.map AL)),some (.lst (ws.map (BW P))),some (.lst (S.map Bd))]) (List.range Ms.length) _ ⟨none,rfl⟩ λi hi τ hI=>by
  obtain⟨x,rfl⟩:=hI;have il:=ybb.mp hi;have e1:=ya0 il;have e2:=hR i Ms[i] e1;have e3:=pr_ok (P:=P) hl hk i;have sm:=C9 (hm Ms[i] (yau il));have sM:A3 (Ms.map AL)=true:=BB λM hM=>C9 (hm M hM)
  have ss:A3 (S.map Bd)=true:=BB λs _=>by
   have:=EU s
   simp![this]
  have sw:=IT P ws;have sw2:=IT P (ws.map (DU S i));have GK:A8 (Ms.map AL) (i:Int)=some (AL Ms[i]):=CZ (by rw[ya3,e1];rfl)
  refine⟨[some (.int (i:Int)),some (.lst (Ms.map AL)),some (.lst (ws.map (BW P))),some (.lst (S.map Bd))],by simp![],?_,_,rfl⟩
  unfold Ho;generalize (ws.map (DU S i)).map (BW P)=W2 at *;generalize AL Ms[i]=MM at *;generalize (R i).map (Ax P)=RR at *;generalize ws.map (BW P)=W1 at *;generalize S.map Bd=SS at *
  simp![sM,GK,sm,Ao _ sm,ss,AG _ ss,sw,AG _ sw,e3,sw2,AG _ sw2,e2]
theorem Mq(P:Int){s:Str×List Int}(hn:Bw ns)(h:s.1∈ns):Fit (Ax P s) 3:=Fit.tup λt ht=>by
 simp only[ya9,yb7,yfe]at ht
 rcases ht with rfl|rfl
 .exact Fit.str (hn _ h) _
 .refine Fit.nd (n:=1) λu hu=>?_
  obtain⟨v,-,rfl⟩:=yag.mp hu;exact Fit.fr _ _
theorem RV(P:Int){o:Bool}{l:List (Str×List Int)}(hn:Bw ns)(h:∀s∈l,s.1∈ns):Fit (.nd o .lst (l.map (Ax P))) 4:=Fit.nd λt ht=>by
 obtain⟨s,hs,rfl⟩:=yag.mp ht;exact Mq P hn (h s hs)
theorem lc18(P:Int)(L:List (List (Str×List Int))):BD (AD 0) (mC (.bl true)) JJ (L.map (BV P)) [none]=some (L.map λl=>T.int (l.length:Int)) :=
 Bv (b:=AD 0) (me:=JJ) (BV P) (λl=>T.int (l.length:Int)) (λτ=>∃x,τ=[x]) L [none] ⟨none,rfl⟩ λl _ τ hI=>by
  obtain⟨x,rfl⟩:=hI;have sl:A3 (l.map (Ax P))=true:=BB λs _=>Dy P s
  refine⟨[some (BV P l)],by simp![sl,AG _ sl],?_,_,rfl⟩
  unfold JJ
  simp![sl,AG _ sl,ya1]
theorem lc18b(P:Int)(L:List (List (Str×List Int)))(F:List (Str×List Int)):BD (AD 0) (mC (.bl true)) JI (L.map (BV P)) [none,some (BV P F)]=some (L.map λ_=>T.int (F.length:Int)) :=
 Bv (b:=AD 0) (me:=JI) (BV P) (λ_=>T.int (F.length:Int)) (λτ=>∃x,τ=[x,some (BV P F)]) L [none,some (BV P F)] ⟨none,rfl⟩ λl _ τ hI=>by
  obtain⟨x,rfl⟩:=hI;have sl:A3 (l.map (Ax P))=true:=BB λs _=>Dy P s
  have sf:A3 (F.map (Ax P))=true:=BB λs _=>Dy P s
  refine⟨[some (BV P l),some (BV P F)],by simp![sl,AG _ sl],?_,_,rfl⟩
  unfold JI
  simp![sf,AG _ sf,ya1]
theorem lc20{L:List (List (Str×List Int))}{F:List (Str×List Int)}(hl:L.length<=6)(hn:Bw ns)(hF:∀s∈F,s.1∈ns)(ha:∀l∈L,l.length=F.length)(h6:∀l∈L,∀s∈l,s.1.length<=60)(hv:∀s∈F,s.2.length<=1000)(hj:∀(a:Nat) (s:Str×List Int),F[a]?=some s->s=Cg (L.map λl=>l.getD a ("",[]))):BD (AD 0) (mC (.bl true)) Hn (mT F.length λi=>.int (i:Int)) [none,some (BV P F),some (.lst (L.map (BV P)))]=some (mT F.length λ_=>.bl true) :=
 Bv (b:=AD 0) (me:=Hn) (λi:Nat=>T.int (i:Int)) (λ_=>.bl true) (λτ=>∃x,τ=[x,some (BV P F),some (.lst (L.map (BV P)))]) (List.range F.length) _ ⟨none,rfl⟩ λi hi τ hI=>by
  obtain⟨x,rfl⟩:=hI;have il:=ybb.mp hi;have e1:=ya0 il;have e2:=hj i F[i] e1;have m1:=yau il
  have f1:(F[i]).2=L.flatMap λl=>(l.getD i ("",[])).2:=by
   rw[e2];exact yen ..
  have f2:(F[i]).1=Av (L.map λl=>(l.getD i ("",[])).1):=by
   rw[e2];show Av ((L.map λl=>l.getD i ("",[])).map (·.1))=_
   rw[yaq]
   rfl
  have ao:=ao_ok (P:=P) (L:=L) (a:=i) hl (λl h=>by rw[ha l h];exact il) (λl h=>by
   have q:i<l.length:=by rw[ha l h];exact il
   rw[ya2,ya0 q];exact h6 l h _ (yau q)) (by rw[<- f1];exact hv _ m1)
  rw[<- f1,<- f2]at ao;have sf:A3 (F.map (Ax P))=true:=BB λs _=>Dy P s
  have sr:=NN P L;have GK:A8 (F.map (Ax P)) (i:Int)=some (Ax P F[i]):=CZ (by rw[ya3,e1];rfl)
  have eq:=(P5 (Mq P hn (hF _ m1)) (by decide) rfl (Mq P hn (hF _ m1))).1
  have s1:=Dy P F[i];refine⟨[some (.int (i:Int)),some (BV P F),some (.lst (L.map (BV P)))],by simp![],?_,_,rfl⟩
  unfold Hn;have ao':JY [.lst (L.map (BV P)),.int (i:Int)]=some (.ok (Ax P F[i])):=ao;generalize Ax P F[i]=Z at *;generalize L.map (BV P)=LL at *
  simp![sr,AG _ sr,ao',sf,GK,s1,Ao _ s1,eq]
theorem Dd.door{P:Int}{M:Mc}:∀{ws:List (Int×Option Int)} {l:List (Str×List Int)} {s:Str×List Int},Dd P M s ws l->∀w∈ws,∀k,w.2=some k->0<=k/\k<(M.ds.length:Int)
 |[],_,_,_,_,h,_,_=>by cases h
 |v::ws,s'::l,s,r,w,h,k,e=>by
  rcases ya9.mp h with rfl|h
  .rcases r.1 with ⟨rfl,-⟩|⟨n,d,hn,hd,-,-⟩
   .cases e
   .rw[hn]at e;cases e;obtain⟨q,-⟩:=ya6.mp hd
    omega
  .exact Dd.door r.2 w h k e
 |_::_,[],_,r,_,_,_,_=>r.elim
theorem zod(p1:0<P)(p2:P<=100)(u0:0<=u){Ms:List Mc}(hm:MsOk Ms)(hr:RmOk Ms)(hf:FwOk Ms)(hp:∀M∈Ms,∀r∈M.rs,∀t∈r.2,0<CT t)(hw:(Bb (AV Ms) (Aa Ms)).length<=200){cs:List Int}(hc:cs.length<=500):∃(ws:List (Int×Option Int)) (Ls:List (List (Str×List Int))),ws.length=cs.length/\Ls.length=cs.length+1/\(∀L∈Ls,Jn Ms L)/\Gv [AL (BS Ms),.lst (cs.map T.int),.int u,.int P]=some (.ok (.tup [.lst (ws.map Cv),.lst ((Ls.map Cg).map BZ)]))/\E3 [AL (BS Ms),.lst (ws.map (BW P)),.bl true]=some (.ok (.own ((Ls.map Cg).map (Ax P))))/\(∀w∈ws,∀k,w.2=some k->0<=k/\k<(((Bb (AV Ms) (Aa Ms)).map (·.1)).length:Int))/\∀(i:Nat) (M:Mc),Ms[i]?=some M->E3 [AL M,.lst ((ws.map (DU ((Bb (AV Ms) (Aa Ms)).map (·.1)) i)).map (BW P)),.bl false]=some (.ok (.own ((Ls.map λL=>L.getD i ("",[])).map (Ax P)))):=by
 have ok:=MR hm hr hf hw;obtain⟨ws,l,r,e1,e2,e3⟩:=zm0 (u:=u) p1 p2 u0 ok hc;have g0:=O7 p1 ok (zi8 hp) (BG (BS Ms)).1;have s1:=RZ p1 p2 ok (ws:=ws) (by omega) (al:=true) g0 (TB whl_z g0 r)
 have dr:=Dd.door r;rw[R5 hm]at r;obtain⟨Ls,q1,q2,q3⟩:=Sz hm hr (WE hm.m) (znl p1 hm.m hp) r;rw[R5 hm,q1]at e3 s1;refine⟨ws,Ms.map BG::Ls,e1,by rw[<- e2,q1,ya1];rfl,λL hL=>?_,e3,s1,λw h k e=>?_,λi M eM=>?_⟩
 .rcases ya9.mp hL with rfl|hL
  .exact WE hm.m
  .exact q2 L hL
 .have z:=dr w h k e;rw[show(BS Ms).ds.length=(Bb (AV Ms) (Aa Ms)).length from ya1 ..]at z;rw[ya1];exact z
 .have mm:=yab eM;have z:=RZ p1 p2 (hm.m M mm) (ws:=ws.map (DU ((Bb (AV Ms) (Aa Ms)).map (·.1)) i)) (by rw[ya1];omega) (O7 p1 (hm.m M mm) (hp M mm) _) (q3 i M (BG M) eM (by rw[ya3,eM];rfl))
  have y:(Ms.map BG).getD i ("",[])=BG M:=by
   rw[ya2,ya3,eM]
   rfl
  rw[z,<- y]
  rfl
theorem zia(c:Int):∃u:Int,0<=u/\A8 [T.int 1,T.int (1+(c.fdiv 3).fmod (10 ^ 40))] (c.fmod 2)=some (.int u):=by
 obtain⟨u,hu,e⟩:=EX [1,1+(c.fdiv 3).fmod (10 ^ 40)] (by simp) c
 refine⟨u,?_,E2 T.int e⟩;have q:=yb3 (c.fdiv 3) (show(0:Int)<10 ^ 40 by decide)
 simp only[ya9,yb7,yfe]at hu
 rcases hu with rfl|rfl<;>omega
theorem zh0(c:Int):∃P:Int,0<P/\P<=100/\A8 [T.int 1,T.int 12,T.int 7,T.int 30] (c.fmod 4)=some (.int P):=by
 obtain⟨P,hP,e⟩:=EX [(1:Int),12,7,30] (by simp) c
 refine⟨P,?_,?_,E2 T.int e⟩ <;>
 .simp only[ya9,yb7,yfe]at hP
  rcases hP with rfl|rfl|rfl|rfl<;>omega
def Dz(Ms:List Mc)(Ls:List (List (Str×List Int))):List (List (Str×List Int)):=(List.range Ms.length).map λi=>Ls.map λL=>L.getD i ("",[])
theorem zom{Ms:List Mc}(h:∀L∈Ls,Jn Ms L){s:Str×List Int}(e:(Ls.map Cg)[a]?=some s):s=Cg ((Dz Ms Ls).map λl=>l.getD a ("",[])):=by
 rw[ya3]at e;obtain⟨L,eL,rfl⟩:=yah.mp e;have ln:=(h L (yab eL)).len;unfold Dz
 have q:(((List.range Ms.length).map λi=>Ls.map λL=>L.getD i ("",[])).map λl=>l.getD a ("",[]))=L:=by
  rw[yaq];refine ybq λi=>?_
  rw[ya3]
  by_cases il:i<Ms.length
  .rw[ybh il,yb1,ya0 (show i<L.length by omega)]
   show some ((Ls.map λL=>L.getD i ((("":Str),([]:List Int)))).getD a (("":Str),([]:List Int)))=_
   rw[ya2,ya3,eL,yb1,ybe,ya2,ya0 (show i<L.length by omega)]
   rfl
  .rw[yai (by rw[yb6];omega),yai (show L.length<=i by omega)]
   rfl
 rw[q]
theorem TH{Ms:List Mc}:(Dz Ms Ls).length=Ms.length:=by unfold Dz;rw[ya1,yb6]
theorem TJ{Ms:List Mc}:∀l∈Dz Ms Ls,l.length=(Ls.map Cg).length:=λl hl=>by
 unfold Dz at hl;obtain⟨i,-,rfl⟩:=yag.mp hl;rw[ya1,ya1]
theorem rr_6{Ms:List Mc}(hr:RmOk Ms)(hj:∀L∈Ls,Jn Ms L):∀l∈Dz Ms Ls,∀s∈l,s.1.length<=60:=λl hl s hs=>by
 unfold Dz at hl;obtain⟨i,hi,rfl⟩:=yag.mp hl;obtain⟨L,hL,rfl⟩:=yag.mp hs;have il:=ybb.mp hi;have hJ':=hj L hL;have il2:i<L.length:=by rw[<- hJ'.len];exact il
 rw[ya2,ya0 il2,ybe];exact hr.s _ (yau il) _ (hJ'.at (ya0 il) (ya0 il2)).1
theorem rr_sh{Ms:List Mc}:BF (mT Ms.length λi=>T.own ((Ls.map λL=>L.getD i ("",[])).map (Ax P)))=(Dz Ms Ls).map (BV P):=by
 unfold Dz;show BF ((List.range Ms.length).map _)=_;rw[Cw,yaq,yaq];refine ybk λi _=>?_
 have:A3 ((Ls.map λL=>L.getD i ("",[])).map (Ax P))=true:=BB λs _=>Dy P s
 show T.share (.own _)=BV P _
 simp![AG _ this]
theorem zln(W:List (List (Nat×Nat)×List Str)):BF (W.map λw=>El w.1)=(W.map (·.1)).map Bd:=by
 rw[Cw,yaq,yaq];refine ybk λw _=>?_
 have:=EU w.1;show T.share (El w.1)=Bd w.1
 simp![AG _ this]
theorem Oh{Ms:List Mc}(hj:∀L∈Ls,Jn Ms L):∀s∈Ls.map Cg,s.1∈(BS Ms).rs.map (·.1):=λs hs=>by
 obtain⟨L,hL,rfl⟩:=yag.mp hs;show Av (L.map (·.1))∈((Aa Ms).map λt=>(Av t,EM Ms t)).map (·.1)
 rw[yaq];exact yag.mpr ⟨_,(hj L hL).tak,rfl⟩
theorem WD{Ms:List Mc}(hm:MsOk Ms)(hj:∀L∈Ls,Jn Ms L):∀s∈Ls.map Cg,s.2.length<=1000:=λs hs=>by
 obtain⟨L,hL,rfl⟩:=yag.mp hs;have a:=(hj L hL).vlen;have b:=hm.wl;show(L.flatMap (·.2)).length<=1000
 omega
theorem zld{ns:List Int}{M RO:List T}{WW:T}{F:List (Str×List Int)}{R:List (List (Str×List Int))}{ws:List (Int×Option Int)}{SO:List T}(sM:A3 M=true)(lM:M.length<=100000)(hn:M.length=n)(er:Gv [WW,.lst ((CH ns (some 6) (some 18)).map T.int),.int u,.int P]=some (.ok (.tup [.lst (ws.map Cv),.lst (F.map BZ)])))(es:E3 [WW,.lst (ws.map (BW P)),.bl true]=some (.ok (.own (F.map (Ax P)))))(ms:WW.sh=true)(lW:ws.length<=100000)(lF:F.length<=100000)(es2:Fc [.lst M]=some (.ok (.own SO)))(ss:BF SO=S.map Bd)(l12:BD (Ap 2 (AQ (AD 0) (AQ (AD 1) Aq))) (mC (.bl true)) Hr (ws.map Cv) [none,none,some (.int P)]=some (ws.map (BW P)))(l14:BD (Ap 2 (AQ (AD 0) (AQ (AD 1) Aq))) (mC (.bl true)) Hq (F.map BZ) [none,none,some (.int P)]=some (F.map (Ax P)))(eq1:By (.lst (F.map (Ax P))) (.lst (F.map (Ax P)))=some (.bl false))(l17:BD (AD 0) (mC (.bl true)) Ho (mT n λi=>.int (i:Int)) [none,some (.lst M),some (.lst (ws.map (BW P))),some (.lst (S.map Bd))]=some RO)(rws:BF RO=R.map (BV P))(lR:R.length<=100000)(hR:∀l∈R,l.length=F.length)(l20:BD (AD 0) (mC (.bl true)) Hn (mT F.length λi=>.int (i:Int)) [none,some (BV P F),some (.lst (R.map (BV P)))]=some (mT F.length λ_=>.bl true)) :
    (AF (AU (AS Gv (AB (AA 4) (AB (Cb (Dt (AA 0) (some (mC (.int 6))) (some (mC (.int 18)))) (Ds (AA 0) (some (mC (.int 6))) (some (mC (.int 18))))) (AB (AA 1) (AB (AA 2) AE))))) (Ap 2 (AQ (AD 5) (AQ (AD 9) Aq))))
  (AF (AU (Ar 2 [2] (Al (AA 5)) (Ap 2 (AQ (AD 0) (AQ (AD 1) Aq))) (mC (.bl true)) Hr) (AD 5))
  (AF (AU (AS (gD [(.bl true)] E3) (AB (AA 4) (AB (m1 CK (AA 5)) AE))) (AD 6))
  (AF (Af (m2 By (AA 6) (Ar 2 [2] (Al (AA 9)) (Ap 2 (AQ (AD 0) (AQ (AD 1) Aq))) (mC (.bl true)) Hq)) (AX (mC (.bl false))) Ae)
  (AF (AU (AS Fc (AB (m1 CK (AA 3)) AE)) (AD 7))
  (AF (AU (Ar 1 [3,5,7] (CM (AB (m1 B0 (AA 3)) AE)) (AD 0) (mC (.bl true)) Ho) (AD 8))
  (AF (Af (m2 By (Ar 1 [] (Al (AA 8)) (AD 0) (mC (.bl true)) JJ) (Ar 1 [6] (Al (AA 8)) (AD 0) (mC (.bl true)) JI)) (AX (mC (.bl false))) Ae)
  (AX (m1 DE (Ar 1 [6,8] (CM (AB (m1 B0 (AA 6)) AE)) (AD 0) (mC (.bl true)) Hn))))))))))
 [some (Cn ns),some (.int u),some (.int P),some (.lst M),some WW,none,none,none,none,none]=some (.rt (.bl true)):=by
  have F1:=Mw ns;have F2:=Mv ns;have cm:=JG T.int ns (some 6) (some 18);have l18:=lc18 P R;have l18b:=lc18b P R F;have lens:R.map (λl=>T.int (l.length:Int))=R.map λ_=>T.int (F.length:Int):=ybk λl hl=>by rw[hR l hl]
  rw[lens]at l18;have sF:A3 (F.map (Ax P))=true:=BB λs _=>Dy P s
  have sF0:A3 (F.map BZ)=true:=BB λs _=>by
    have:=DA s.2
    simp![this]
  have sS:A3 (S.map Bd)=true:=BB λs _=>by
    have:=EU s
    simp![this]
  have sW:=IT P ws;have sW0:A3 (ws.map Cv)=true:=BB λw _=>by obtain⟨a,k⟩:=w;cases k<;>simp![]
  have fi:Fit (T.lst (R.map λ_=>T.int (F.length:Int))) 1:=Fit.nd λt ht=>by
    obtain⟨_,-,rfl⟩:=yag.mp ht;exact Fit.int _ 0
  have eq2:=(P5 fi (by decide) rfl fi).2
  have sR:=NN P R;have ln:n<=100000:=hn▸lM;have o1:Cq (n:Int)=true:=EV (by omega)
  have o2:Cq (F.length:Int)=true:=EV (by omega)
  have iL:BF (R.map λ_=>T.int (F.length:Int))=R.map λ_=>T.int (F.length:Int):=AG _ (BB λ_ _=>rfl)
  have mn:(mT n λi=>T.int (i:Int)).length<=100000:=by
    show((List.range n).map _).length<=100000;rw[ya1,yb6]
    omega
  have mf:(mT F.length λi=>T.int (i:Int)).length<=100000:=by
    show((List.range F.length).map _).length<=100000;rw[ya1,yb6]
    omega
  have k1:=AG _ sW0;have k2:=AG _ sW;have k3:=AG _ sF;have k4:=AG _ sF0;have k5:=AG _ sR;have k6:=AG _ sM;have k7:=Ao _ ms;have k8:=AG _ sS;have c1:A3 ((CH ns (some 6) (some 18)).map T.int)=true:=DA _;have c2:=AG _ c1;have z1:(ws.map (BW P)).length<=100000:=by rw[ya1];exact lW
  have z2:(F.map (Ax P)).length=F.length:=ya1 ..;refine sq (by simp![F1,F2,ms,k7,Cn,cm,c1,c2,er,sW0,sF0,k1,k4,DA,AG _ (DA ns)];rfl) ?_
  refine sq (by simp![ya1,lW,l12,sW0,k1,sW,k2];rfl) ?_
  generalize ws.map (BW P)=WP at *;refine sq (by simp![ya1,lF,es,ms,k7,sW,k2,k3,z1];rfl) ?_
  refine sq (by simp![ya1,lF,l14,sF0,k4,sF,k3,eq1];rfl) ?_
  refine sq (by simp![sM,k6,lM,es2,ss,ya1];rfl) ?_
  refine sq (by simp![sM,k6,lM,hn,o1,Dm,mn,ln,l17,rws,sW,k2,sS,k8];rfl) ?_
  refine sq (by simp![ya1,lR,sR,k5,l18,l18b,sF,k3,iL,eq2];rfl) ?_
  have bt:EK (mT F.length λ_=>T.bl true)=some ((List.range F.length).map λ_=>true):=La _
  have ba:((List.range F.length).map λ_=>true).all id=true:=by simp
  simp![ya1,sR,k5,lF,o2,Dm,mf,sF,k3,l20,bt,ba]
theorem law_true(ns:List Int)(hns:ns.length<=63):Lq [Cn ns]=some (.ok (.bl true)):=by
 have F:=Mw ns;have F2:=Mv ns;have c2:=L4 ns (k:=2) (by decide)
 generalize ns.getD (2:Int).toNat 0=c at *;obtain⟨u,u0,eu⟩:=zia c;obtain⟨P,p1,p2,eP⟩:=zh0 (c.fdiv 2);obtain⟨cc,n,Ms,h1,h3,hJ,ep⟩:=zh1 (ns:=ns) u0;have hm:=ms_ok h1 h3 hJ;have hr:=rm_ok h1 h3 hJ;have hf:=fw_ok h1 h3 hJ;have sM:A3 (Ms.map AL)=true:=BB λM hM=>C9 (hm.m M hM)
 have p40:(0:Int)<=40/\(40:Int)<=1000000/\ES 10=true:=⟨by decide,by decide,Ce (by decide) (by decide)⟩
 have r40:(40:Int).toNat=40:=rfl;have n40:¬ (10:Int) ^ 40=0:=by decide
 have lk:∃v,List.lookup (Str.ofString "TooMany") MO=some v:=⟨_,rfl⟩;obtain⟨lv,lk⟩:=lk;have k2:CD 2=true:=Co (by decide) (by decide)
 have k3:CD 3=true:=Co (by decide) (by decide)
 have k4:CD 4=true:=Co (by decide) (by decide)
 have k40:CD (10 ^ 40)=true:=Co (by decide) (by decide)
 have lM:Ms.length<=100000:=by rw[hJ.l];omega
 have key:Kk [some (Cn ns),none,none,none,none,none,none,none,none,none]=some (.rt (.bl true)):=by
  unfold Kk;refine sq (by simp![F,F2,k2,k3,k4,k40,n40,c2,p40,r40,eu];rfl) ?_
  refine sq (by simp![F,F2,k2,k3,k4,k40,n40,c2,eP];rfl) ?_
  refine sq (by simp![F,F2,ep,AG _ sM];rfl) ?_
  refine sq (by simp![];rfl) ?_
  rcases zl8 hm hr hf with ⟨hw,et⟩|⟨hw,et⟩
  .have hp:∀M∈Ms,∀r∈M.rs,∀t∈r.2,0<CT t:=λM hM r hR=>(hJ.r M hM r hR).2
   have cl:(CH ns (some 6) (some 18)).length<=63:=yak (zks ns (some 6) (some 18)) hns;obtain⟨ws,Ls,wl,wl2,hj,er,es,hk,ep2⟩:=zod p1 p2 u0 hm hr hf hp hw (cs:=CH ns (some 6) (some 18)) (by omega)
   have ok:=MR hm hr hf hw;have es2:Fc [.lst (Ms.map AL)]=some (.ok (.own ((Bb (AV Ms) (Aa Ms)).map λw=>El w.1))):=(zlo hm hr).elim (·.2) λz=>absurd z.1 (by omega)
   have mi:=Cf (BS Ms);have ms:=C9 ok;have eq1:=(P5 (RV P (o:=false) ok.tn (Oh hj)) (by decide) rfl (RV P (o:=false) ok.tn (Oh hj))).2
   have l14:=lc14b p1 p2 (WD hm hj);have l17:=lc17 hm.m (by omega) hk _ ep2
   have l20:=lc20 (P:=P) (L:=Dz Ms Ls) (F:=Ls.map Cg) (by rw[TH];exact hm.l6) ok.tn (Oh hj) TJ (rr_6 hr hj) (WD hm hj) λa s e=>zom hj e
   have q1:=zln (Bb (AV Ms) (Aa Ms));have q2:=rr_sh (P:=P) (Ms:=Ms) (Ls:=Ls);have q3:(Ms.map AL).length<=100000:=by rw[ya1];exact lM
   have q4:(Ms.map AL).length=Ms.length:=ya1 ..;have q5:(Dz Ms Ls).length<=100000:=by rw[TH];exact lM
   have q6:(Ls.map Cg).length<=100000:=by rw[ya1];omega
   have q7:ws.length<=100000:=by omega
   have q8:∀l∈Dz Ms Ls,l.length=(Ls.map Cg).length:=TJ
   clear hj ep2 hk hJ ep
   have tl:=zld (u:=u) (ns:=ns) sM q3 q4 er es ms q7 q6 es2 q1 (lc12 p1 p2 ws) l14 eq1 l17 q2 q5 q8 l20;have nn:Cc false (AL (BS Ms)) .non=some (.bl false):=rfl;generalize AL (BS Ms)=WW at *;refine sq (by simp![-Bh,mi,sM,AG _ sM,ya1,lM,et,lk,ms,Ao _ ms];rfl) ?_
   refine sq (by simp![-Bh,-Cc,nn,mi,ms,Ao _ ms];rfl) ?_
   exact tl
  .refine sq (by simp![sM,AG _ sM,ya1,lM,et,lk];rfl) ?_
   simp![]
 unfold Lq
 simp![F,F2,key]
end
end Zl
namespace Zl
open PySem PySem.W L2 Zw Zx Pu Hd
abbrev pw:Program:=PySem.Challenge.pw_zonewalk_k33_whole_runs_of_parts
abbrev NO:OpenLaw:=PySem.Challenge.rw_zonewalk_k33_whole_runs_of_parts
abbrev md:String:="__module__"
abbrev fl:String:="__firstlineno__"
abbrev sa:String:="__static_attributes__"
abbrev dc:String:="__doc__"
noncomputable abbrev cf:Str:="/claim/cut.py"
noncomputable def tO(l:List Value):Obj:=⟨(.type "tuple"),none,(.seq (Array.mk l) 0),Array.mk []⟩
noncomputable def dO(l:List DictEntry)(n:Nat):Obj:=⟨(.type "dict"),none,(.dict (Array.mk l) n),Array.mk []⟩
def eb:List Value:=[(.type "ValueError"),(.type "Exception"),(.type "BaseException"),(.type "object")]
noncomputable def yO(a:Str)(b c:List Value)(n:Addr)(d:List Value)(r ta tb:Nat)(w:String):Obj:=⟨(.type "type"),none,(.cls ⟨a,b,c,n,a,true,[],d,false,none,false⟩),Array.mk [(some (.ref r)),none,(some (.str a ta)),(some (.str a tb)),(some (.builtin w)),(some (.bool true))]⟩
def cP(a:Str)(ta:Nat)(b:Str)(tb tf:Nat)(r n k:Int)(r1:Nat)(z:Int)(v1 v2 v3 v4 v5:Value)(x y:Int)(tg:Nat):Obj:=⟨(.type "code"),none,(.fields (Array.mk [(.str a ta),(.str b tb),(.str cf tf),(.int r 0),(.int n 0),(.int 0 0),(.int 0 0),(.int k 0),(.ref r1),(.bool true),(.int z 0),v1,v2,v3,v4,v5,(.int x 0),(.int y 0),(.str cf tg)])),Array.mk []⟩
noncomputable def cO(a:Str)(ta tb tf:Nat)(r n k:Int)(r1:Nat)(z:Int)(r2 r3 r4 r5:Nat)(x y:Int)(tg:Nat):Obj:=cP a ta a tb tf r n k r1 z (.ref r2) .none (.ref r3) (.ref r4) (.ref r5) x y tg
def fO(a b:Str)(s:Stmt)(d:Value)(m:Str)(t c:Nat)(y:Value):Obj:=⟨(.type "function"),none,(.func (fnOf a b (Hj s) (Ez s) (A2 s) d .none .none (.str m t) none (.ref c) y)),Array.mk []⟩
def gO(a:Str)(s:Stmt)(m:Str)(t c:Nat):Obj:=fO a a s .none m t c .none
def o2(P:Params):Obj:=⟨.none,none,(.dict (Array.mk []) 0),Array.mk []⟩
def o3(P:Params):Obj:=dO [en P "__name__" 165 (.str "law_zonewalk_k33_whole_runs_of_parts" 756),en P "__doc__" 166 .none,en P "__package__" 167 .none,en P "__loader__" 168 (.builtin "__main__.__loader__#opaque"),en P "__spec__" 169 .none,en P "__annotations__" 170 (.ref 6),en P "__builtins__" 171 (.ref 4),en P "__file__" 173 (.str "/claim/cut.py" 172),en P "__cached__" 174 .none,en P "WalkError" 206 (.ref 24),en P "NoNumber" 222 (.ref 37),en P "BadMachine" 238 (.ref 49),en P "TooMany" 254 (.ref 61),en P "NoRun" 279 (.ref 80),en P "NoMark" 295 (.ref 92),en P "is_whole" 304 (.ref 101),en P "greatest_divisor" 315 (.ref 108),en P "fraction" 325 (.ref 116),en P "plus" 333 (.ref 123),en P "under" 341 (.ref 130),en P "WORDS" 349 (.ref 131),en P "STAY_WORDS" 352 (.ref 132),en P "is_look" 361 (.ref 139),en P "is_number" 368 (.ref 146),en P "is_guard" 374 (.ref 151),en P "stands_so" 386 (.ref 158),en P "MOST_WATCHES" 390 (.int 7 389),en P "MOST_ROOMS" 392 (.int 64 391),en P "MOST_DOORS" 394 (.int 200 393),en P "is_small_letter" 401 (.ref 165),en P "is_name" 407 (.ref 170),en P "is_watch_name" 414 (.ref 177),en P "is_room_name" 420 (.ref 182),en P "is_sign" 427 (.ref 189),en P "own_copy" 434 (.ref 196),en P "Door" 486 (.ref 228),en P "Machine" 552 (.ref 282),en P "check_watches" 558 (.ref 291),en P "are_unlike" 565 (.ref 298),en P "check_rooms" 571 (.ref 303),en P "check_doors" 581 (.ref 310),en P "are_noughts" 587 (.ref 315),en P "placed" 593 (.ref 320),en P "holds" 601 (.ref 325),en P "nought_places" 609 (.ref 330),en P "start" 617 (.ref 335),en P "stands" 630 (.ref 343),en P "is_legal" 639 (.ref 350),en P "stand_behind" 645 (.ref 355),en P "stand_beyond" 651 (.ref 360),en P "MOST_PARTS" 655 (.int 6 654),en P "together" 661 (.ref 365),en P "shares" 667 (.ref 370),en P "checked_takings" 673 (.ref 375),en P "check_parts" 679 (.ref 380),en P "all_watches" 688 (.ref 387),en P "all_takings" 694 (.ref 392),en P "whole_name" 701 (.ref 399),en P "whole_stay" 712 (.ref 406),en P "whole_ways" 718 (.ref 411),en P "shares_of" 734 (.ref 418),en P "starts_from" 740 (.ref 423),en P "whole_door" 755 (.ref 430),en P "_law_cell_at" 765 (.ref 437),en P "_law_stream" 777 (.ref 444),en P "_law_draws" 786 (.ref 451),en P "_law_names" 802 (.ref 458),en P "_law_looks" 815 (.ref 465),en P "_law_part" 821 (.ref 470),en P "_law_parts" 835 (.ref 477),en P "_law_meets" 850 (.ref 484),en P "_law_through" 856 (.ref 489),en P "_law_run" 862 (.ref 494),en P "_law_divisor" 870 (.ref 501),en P "_law_fraction" 879 (.ref 508),en P "_law_part_run" 894 (.ref 515),en P "_law_as_one" 900 (.ref 520),en P "law" 906 (.ref 525)] 78
def o15(P:Params):Obj:=tO [(.type "ValueError")]
def o22(P:Params):Obj:=tO []
def o23(P:Params):Obj:=dO [en P md 196 (.str "zonewalk.errors" 187),en P fl 200 (.int 2 199),en P sa 201 (.ref 22),en P "__weakref__" 203 (.ref 25),en P dc 204 .none] 3
def o24(P:Params):Obj:=yO "WalkError" [(.type "ValueError")] ([(.ref 24)]++eb) 23 [(.ref 37),(.ref 49),(.ref 61),(.ref 80),(.ref 92)] 15 189 197 "ValueError.__new__"
def o25(P:Params):Obj:=⟨(.type "getset_descriptor"),none,(.fields (Array.mk [(.str "__weakref__" 202),(.ref 24),(.builtin "ExceptionGroup.__weakref__"),.none])),Array.mk []⟩
def o28(P:Params):Obj:=tO [(.ref 24)]
def o35(P:Params):Obj:=tO []
def o36(P:Params):Obj:=dO [en P md 214 (.str "zonewalk.errors" 187),en P fl 218 (.int 4 217),en P sa 219 (.ref 35),en P dc 220 .none] 2
def o37(P:Params):Obj:=yO "NoNumber" [(.ref 24)] ([(.ref 37),(.ref 24)]++eb) 36 [] 28 207 215 "ValueError.__new__"
def o40(P:Params):Obj:=tO [(.ref 24)]
def o47(P:Params):Obj:=tO []
def o48(P:Params):Obj:=dO [en P md 230 (.str "zonewalk.errors" 187),en P fl 234 (.int 6 233),en P sa 235 (.ref 47),en P dc 236 .none] 2
def o49(P:Params):Obj:=yO "BadMachine" [(.ref 24)] ([(.ref 49),(.ref 24)]++eb) 48 [] 40 223 231 "ValueError.__new__"
def o52(P:Params):Obj:=tO [(.ref 24)]
def o59(P:Params):Obj:=tO []
def o60(P:Params):Obj:=dO [en P md 246 (.str "zonewalk.errors" 187),en P fl 250 (.int 8 249),en P sa 251 (.ref 59),en P dc 252 .none] 2
def o61(P:Params):Obj:=yO "TooMany" [(.ref 24)] ([(.ref 61),(.ref 24)]++eb) 60 [] 52 239 247 "ValueError.__new__"
def o64(P:Params):Obj:=tO [(.ref 24)]
def o78(P:Params):Obj:=tO [(.str "step" 275)]
def o79(P:Params):Obj:=dO [en P md 262 (.str "zonewalk.errors" 187),en P fl 266 (.int 10 265),en P "__init__" 274 (.ref 77),en P sa 276 (.ref 78),en P dc 277 .none] 2
def o80(P:Params):Obj:=yO "NoRun" [(.ref 24)] ([(.ref 80),(.ref 24)]++eb) 79 [] 64 255 263 "ValueError.__new__"
def o83(P:Params):Obj:=tO [(.ref 24)]
def o90(P:Params):Obj:=tO []
def o91(P:Params):Obj:=dO [en P md 287 (.str "zonewalk.errors" 187),en P fl 291 (.int 14 290),en P sa 292 (.ref 90),en P dc 293 .none] 2
def o92(P:Params):Obj:=yO "NoMark" [(.ref 24)] ([(.ref 92),(.ref 24)]++eb) 91 [] 83 280 288 "ValueError.__new__"
def o100(_:Params):=cO "is_whole" 298 299 300 17 1 3 95 181 96 97 98 99 302 17 303
def VQ(_:Params):=gO "is_whole" (AO 8) "zonewalk.fractions" 296 100
def o107(_:Params):=cO "greatest_divisor" 305 306 307 19 2 3 102 181 103 104 105 106 313 19 314
def VP(_:Params):=gO "greatest_divisor" (AO 9) "zonewalk.fractions" 296 107
def VO(P:Params):Obj:=tO [(.int 1 316)]
def o115(_:Params):=cO "fraction" 317 318 319 27 2 3 110 181 111 112 113 114 323 27 324
def VN(_:Params):=fO "fraction" "fraction" (AO 10) (.ref 109) "zonewalk.fractions" 296 115 .none
def o122(_:Params):=cO "plus" 326 327 328 36 2 3 117 181 118 119 120 121 331 36 332
def VM(_:Params):=gO "plus" (AO 11) "zonewalk.fractions" 296 122
def o129(_:Params):=cO "under" 334 335 336 38 2 3 124 181 125 126 127 128 339 38 340
def VL(_:Params):=gO "under" (AO 12) "zonewalk.fractions" 296 129
def N4(P:Params):Obj:=tO [(.str "<" 344),(.str "<=" 345),(.str ">" 346),(.str ">=" 347),(.str "=" 348)]
def VJ(P:Params):Obj:=tO [(.str "<" 350),(.str "<=" 351)]
def o138(_:Params):=cO "is_look" 353 354 355 43 3 3 133 181 134 135 136 137 359 43 360
def VI(_:Params):=gO "is_look" (AO 16) "zonewalk.looks" 342 138
def o145(_:Params):=cO "is_number" 362 363 364 47 1 3 140 181 141 142 143 144 366 47 367
def VH(_:Params):=gO "is_number" (AO 17) "zonewalk.looks" 342 145
def o150(P:Params):Obj:=cP "is_guard" 369 "is_guard" 370 371 49 3 3 147 181 (.ref 148) .none .none .none (.ref 149) 372 49 373
def VG(_:Params):=gO "is_guard" (AO 18) "zonewalk.looks" 342 150
def o157(_:Params):=cO "stands_so" 375 376 377 51 3 3 152 181 153 154 155 156 384 51 385
def VF(_:Params):=gO "stands_so" (AO 19) "zonewalk.looks" 342 157
def o164(_:Params):=cO "is_small_letter" 395 396 397 68 1 3 159 181 160 161 162 163 399 68 400
def VE(_:Params):=gO "is_small_letter" (AO 24) "zonewalk.machines" 387 164
def o169(P:Params):Obj:=cP "is_name" 402 "is_name" 403 404 70 1 3 166 181 (.ref 167) .none .none .none (.ref 168) 405 70 406
def VD(_:Params):=gO "is_name" (AO 25) "zonewalk.machines" 387 169
def o176(_:Params):=cO "is_watch_name" 408 409 410 72 1 3 171 181 172 173 174 175 412 72 413
def VC(_:Params):=gO "is_watch_name" (AO 26) "zonewalk.machines" 387 176
def o181(P:Params):Obj:=cP "is_room_name" 415 "is_room_name" 416 417 74 1 3 178 181 (.ref 179) .none .none .none (.ref 180) 418 74 419
def VB(_:Params):=gO "is_room_name" (AO 27) "zonewalk.machines" 387 181
def o188(_:Params):=cO "is_sign" 421 422 423 78 1 3 183 181 184 185 186 187 425 78 426
def VA(_:Params):=gO "is_sign" (AO 28) "zonewalk.machines" 387 188
def o195(_:Params):=cO "own_copy" 428 429 430 82 1 3 190 181 191 192 193 194 432 82 433
def Uz(_:Params):=gO "own_copy" (AO 29) "zonewalk.machines" 387 195
def N3(P:Params):Obj:=tO [(.str "" 447)]
def o210(P:Params):Obj:=cP "__init__" 448 "Door.__init__" 449 450 86 6 3 205 181 (.ref 206) .none (.ref 207) (.ref 208) (.ref 209) 457 86 458
def Uy(_:Params):=fO "__init__" "Door.__init__" (Cs 30 0) (.ref 204) "zonewalk.machines" 387 210 .none
def o217(P:Params):Obj:=cP "asks" 460 "Door.asks" 461 462 93 1 3 212 181 (.ref 213) .none (.ref 214) (.ref 215) (.ref 216) 464 93 465
def Ux(_:Params):=fO "asks" "Door.asks" (Cs 30 1) .none "zonewalk.machines" 387 217 .none
def o224(P:Params):Obj:=cP "sets" 467 "Door.sets" 468 469 96 1 3 219 181 (.ref 220) .none (.ref 221) (.ref 222) (.ref 223) 471 96 472
def Uw(_:Params):=fO "sets" "Door.sets" (Cs 30 2) .none "zonewalk.machines" 387 224 .none
def o226(P:Params):Obj:=tO [(.str "end" 474),(.str "guard" 475),(.str "noughts" 476),(.str "sign" 477),(.str "start" 478)]
def o227(P:Params):Obj:=dO [en P md 442 (.str "zonewalk.machines" 387),en P fl 446 (.int 84 445),en P "__init__" 459 (.ref 211),en P "asks" 466 (.ref 218),en P "sets" 473 (.ref 225),en P sa 479 (.ref 226),en P "__dict__" 481 (.ref 229),en P "__weakref__" 483 (.ref 230),en P dc 484 .none] 4
noncomputable def o228(P:Params):Obj:=⟨(.type "type"),none,(.cls ⟨"Door",[(.type "object")],[(.ref 228),(.type "object")],227,"Door",true,[],[],false,none,false⟩),Array.mk [none,none,(some (.str "Door" 435)),(some (.str "Door" 443)),(some (.builtin "object.__new__")),(some (.bool true))]⟩
def o229(P:Params):Obj:=⟨(.type "getset_descriptor"),none,(.fields (Array.mk [(.str "__dict__" 480),(.ref 228),(.builtin "function.__dict__"),(.builtin "function.__dict__#set")])),Array.mk []⟩
def o230(P:Params):Obj:=⟨(.type "getset_descriptor"),none,(.fields (Array.mk [(.str "__weakref__" 482),(.ref 228),(.builtin "ExceptionGroup.__weakref__"),.none])),Array.mk []⟩
def o243(P:Params):Obj:=cP "__init__" 499 "Machine.__init__" 500 501 100 4 3 240 181 (.ref 241) .none .none .none (.ref 242) 502 100 503
def Uv(_:Params):=fO "__init__" "Machine.__init__" (Cs 31 0) .none "zonewalk.machines" 387 243 .none
def o250(P:Params):Obj:=cP "watches" 505 "Machine.watches" 506 507 112 1 3 245 181 (.ref 246) .none (.ref 247) (.ref 248) (.ref 249) 509 112 510
def Uu(_:Params):=fO "watches" "Machine.watches" (Cs 31 1) .none "zonewalk.machines" 387 250 .none
def o257(P:Params):Obj:=cP "rooms" 512 "Machine.rooms" 513 514 115 1 3 252 181 (.ref 253) .none (.ref 254) (.ref 255) (.ref 256) 516 115 517
def Ut(_:Params):=fO "rooms" "Machine.rooms" (Cs 31 2) .none "zonewalk.machines" 387 257 .none
def o264(P:Params):Obj:=cP "doors" 519 "Machine.doors" 520 521 118 1 3 259 181 (.ref 260) .none (.ref 261) (.ref 262) (.ref 263) 523 118 524
def Us(_:Params):=fO "doors" "Machine.doors" (Cs 31 3) .none "zonewalk.machines" 387 264 .none
def o271(P:Params):Obj:=cP "stay" 526 "Machine.stay" 527 528 121 2 3 266 181 (.ref 267) .none (.ref 268) (.ref 269) (.ref 270) 531 121 532
def Ur(_:Params):=fO "stay" "Machine.stay" (Cs 31 4) .none "zonewalk.machines" 387 271 .none
def o278(P:Params):Obj:=cP "watch_number" 534 "Machine.watch_number" 535 536 124 2 3 273 181 (.ref 274) .none (.ref 275) (.ref 276) (.ref 277) 539 124 540
def Uq(_:Params):=fO "watch_number" "Machine.watch_number" (Cs 31 5) .none "zonewalk.machines" 387 278 .none
def o280(P:Params):Obj:=tO [(.str "door_list" 542),(.str "stays" 543),(.str "watch_names" 544)]
def o281(P:Params):Obj:=dO [en P md 494 (.str "zonewalk.machines" 387),en P fl 498 (.int 98 497),en P "__init__" 504 (.ref 244),en P "watches" 511 (.ref 251),en P "rooms" 518 (.ref 258),en P "doors" 525 (.ref 265),en P "stay" 533 (.ref 272),en P "watch_number" 541 (.ref 279),en P sa 545 (.ref 280),en P "__dict__" 547 (.ref 283),en P "__weakref__" 549 (.ref 284),en P dc 550 .none] 4
noncomputable def o282(P:Params):Obj:=⟨(.type "type"),none,(.cls ⟨"Machine",[(.type "object")],[(.ref 282),(.type "object")],281,"Machine",true,[],[],false,none,false⟩),Array.mk [none,none,(some (.str "Machine" 487)),(some (.str "Machine" 495)),(some (.builtin "object.__new__")),(some (.bool true))]⟩
def o283(P:Params):Obj:=⟨(.type "getset_descriptor"),none,(.fields (Array.mk [(.str "__dict__" 546),(.ref 282),(.builtin "function.__dict__"),(.builtin "function.__dict__#set")])),Array.mk []⟩
def o284(P:Params):Obj:=⟨(.type "getset_descriptor"),none,(.fields (Array.mk [(.str "__weakref__" 548),(.ref 282),(.builtin "ExceptionGroup.__weakref__"),.none])),Array.mk []⟩
def o290(P:Params):Obj:=cP "check_watches" 553 "check_watches" 554 555 126 1 3 287 181 (.ref 288) .none .none .none (.ref 289) 556 126 557
def Up(_:Params):=gO "check_watches" (AO 32) "zonewalk.machines" 387 290
def o297(_:Params):=cO "are_unlike" 559 560 561 131 1 3 292 181 293 294 295 296 563 131 564
def Uo(_:Params):=gO "are_unlike" (AO 33) "zonewalk.machines" 387 297
def o302(P:Params):Obj:=cP "check_rooms" 566 "check_rooms" 567 568 133 2 3 299 181 (.ref 300) .none .none .none (.ref 301) 569 133 570
def Um(_:Params):=gO "check_rooms" (AO 34) "zonewalk.machines" 387 302
def o309(_:Params):=cO "check_doors" 572 573 574 143 3 3 304 181 305 306 307 308 579 143 580
def Ul(_:Params):=gO "check_doors" (AO 35) "zonewalk.machines" 387 309
def o314(P:Params):Obj:=cP "are_noughts" 582 "are_noughts" 583 584 155 2 3 311 181 (.ref 312) .none .none .none (.ref 313) 585 155 586
def Uk(_:Params):=gO "are_noughts" (AO 36) "zonewalk.machines" 387 314
def o319(P:Params):Obj:=cP "placed" 588 "placed" 589 590 159 2 3 316 181 (.ref 317) .none .none .none (.ref 318) 591 159 592
def Uj(_:Params):=gO "placed" (AO 37) "zonewalk.machines" 387 319
def o324(P:Params):Obj:=cP "holds" 596 "holds" 597 598 165 2 3 321 181 (.ref 322) .none .none .none (.ref 323) 599 165 600
def Ui(_:Params):=gO "holds" (AO 39) "zonewalk.moves" 594 324
def o329(P:Params):Obj:=cP "nought_places" 604 "nought_places" 605 606 168 2 3 326 181 (.ref 327) .none .none .none (.ref 328) 607 168 608
def Uh(_:Params):=gO "nought_places" (AO 41) "zonewalk.plans" 602 329
def o334(P:Params):Obj:=cP "start" 612 "start" 613 614 171 1 3 331 181 (.ref 332) .none .none .none (.ref 333) 615 171 616
def Ug(_:Params):=gO "start" (AO 43) "zonewalk.runner" 610 334
def N2(P:Params):Obj:=tO [(.bool true)]
def o342(_:Params):=cO "stands" 618 619 620 173 3 3 337 181 338 339 340 341 628 173 629
def Ue(_:Params):=fO "stands" "stands" (AO 44) (.ref 336) "zonewalk.runner" 610 342 .none
def o349(_:Params):=cO "is_legal" 631 632 633 184 3 3 344 181 345 346 347 348 637 184 638
def Ud(_:Params):=gO "is_legal" (AO 45) "zonewalk.runner" 610 349
def o354(P:Params):Obj:=cP "stand_behind" 640 "stand_behind" 641 642 186 4 3 351 181 (.ref 352) .none .none .none (.ref 353) 643 186 644
def Uc(_:Params):=gO "stand_behind" (AO 46) "zonewalk.runner" 610 354
def o359(P:Params):Obj:=cP "stand_beyond" 646 "stand_beyond" 647 648 197 5 3 356 181 (.ref 357) .none .none .none (.ref 358) 649 197 650
def Ub(_:Params):=gO "stand_beyond" (AO 47) "zonewalk.runner" 610 359
def o364(P:Params):Obj:=cP "together" 656 "together" 657 658 213 1 3 361 181 (.ref 362) .none .none .none (.ref 363) 659 213 660
def Ua(_:Params):=gO "together" (AO 50) "zonewalk.together" 652 364
def o369(P:Params):Obj:=cP "shares" 662 "shares" 663 664 218 1 3 366 181 (.ref 367) .none .none .none (.ref 368) 665 218 666
def U9(_:Params):=gO "shares" (AO 51) "zonewalk.together" 652 369
def o374(P:Params):Obj:=cP "checked_takings" 668 "checked_takings" 669 670 221 1 3 371 181 (.ref 372) .none .none .none (.ref 373) 671 221 672
def U8(_:Params):=gO "checked_takings" (AO 52) "zonewalk.together" 652 374
def o379(P:Params):Obj:=cP "check_parts" 674 "check_parts" 675 676 228 1 3 376 181 (.ref 377) .none .none .none (.ref 378) 677 228 678
def U7(_:Params):=gO "check_parts" (AO 53) "zonewalk.together" 652 379
def o386(_:Params):=cO "all_watches" 680 681 682 236 1 3 381 181 382 383 384 385 686 236 687
def U6(_:Params):=gO "all_watches" (AO 54) "zonewalk.together" 652 386
def o391(P:Params):Obj:=cP "all_takings" 689 "all_takings" 690 691 241 1 3 388 181 (.ref 389) .none .none .none (.ref 390) 692 241 693
def U4(_:Params):=gO "all_takings" (AO 55) "zonewalk.together" 652 391
def o398(_:Params):=cO "whole_name" 695 696 697 251 1 3 393 181 394 395 396 397 699 251 700
def U3(_:Params):=gO "whole_name" (AO 56) "zonewalk.together" 652 398
def o405(_:Params):=cO "whole_stay" 702 703 704 253 2 3 400 181 401 402 403 404 710 253 711
def U2(_:Params):=gO "whole_stay" (AO 57) "zonewalk.together" 652 405
def o410(P:Params):Obj:=cP "whole_ways" 713 "whole_ways" 714 715 258 2 3 407 181 (.ref 408) .none .none .none (.ref 409) 716 258 717
def U1(_:Params):=gO "whole_ways" (AO 58) "zonewalk.together" 652 410
def o417(_:Params):=cO "shares_of" 719 720 721 268 3 3 412 181 413 414 415 416 732 268 733
def U0(_:Params):=gO "shares_of" (AO 59) "zonewalk.together" 652 417
def o422(P:Params):Obj:=cP "starts_from" 735 "starts_from" 736 737 281 3 3 419 181 (.ref 420) .none .none .none (.ref 421) 738 281 739
def UZ(_:Params):=gO "starts_from" (AO 60) "zonewalk.together" 652 422
def o429(_:Params):=cO "whole_door" 741 742 743 283 3 3 424 181 425 426 427 428 753 283 754
def UY(_:Params):=gO "whole_door" (AO 61) "zonewalk.together" 652 429
def o436(_:Params):=cO "_law_cell_at" 758 759 760 294 2 3 431 181 432 433 434 435 763 294 764
def UX(_:Params):=gO "_law_cell_at" (AO 63) "law_zonewalk_k33_whole_runs_of_parts" 756 436
def o443(_:Params):=cO "_law_stream" 766 767 768 298 2 3 438 181 439 440 441 442 775 298 776
def UW(_:Params):=gO "_law_stream" (AO 64) "law_zonewalk_k33_whole_runs_of_parts" 756 443
def o450(_:Params):=cO "_law_draws" 778 779 780 311 3 3 445 181 446 447 448 449 784 311 785
def UU(_:Params):=gO "_law_draws" (AO 65) "law_zonewalk_k33_whole_runs_of_parts" 756 450
def o457(_:Params):=cO "_law_names" 787 788 789 315 2 3 452 181 453 454 455 456 800 315 801
def UT(_:Params):=gO "_law_names" (AO 66) "law_zonewalk_k33_whole_runs_of_parts" 756 457
def o464(_:Params):=cO "_law_looks" 803 804 805 327 4 3 459 181 460 461 462 463 813 327 814
def US(_:Params):=gO "_law_looks" (AO 67) "law_zonewalk_k33_whole_runs_of_parts" 756 464
def o469(P:Params):Obj:=cP "_law_part" 816 "_law_part" 817 818 334 5 3 466 181 (.ref 467) .none .none .none (.ref 468) 819 334 820
def UR(_:Params):=gO "_law_part" (AO 68) "law_zonewalk_k33_whole_runs_of_parts" 756 469
def o476(_:Params):=cO "_law_parts" 822 823 824 347 2 3 471 181 472 473 474 475 833 347 834
def UQ(_:Params):=gO "_law_parts" (AO 69) "law_zonewalk_k33_whole_runs_of_parts" 756 476
def o483(_:Params):=cO "_law_meets" 836 837 838 356 4 3 478 181 479 480 481 482 848 356 849
def UP(_:Params):=gO "_law_meets" (AO 70) "law_zonewalk_k33_whole_runs_of_parts" 756 483
def o488(P:Params):Obj:=cP "_law_through" 851 "_law_through" 852 853 361 5 3 485 181 (.ref 486) .none .none .none (.ref 487) 854 361 855
def UO(_:Params):=gO "_law_through" (AO 71) "law_zonewalk_k33_whole_runs_of_parts" 756 488
def o493(P:Params):Obj:=cP "_law_run" 857 "_law_run" 858 859 373 4 3 490 181 (.ref 491) .none .none .none (.ref 492) 860 373 861
def UN(_:Params):=gO "_law_run" (AO 72) "law_zonewalk_k33_whole_runs_of_parts" 756 493
def o500(_:Params):=cO "_law_divisor" 863 864 865 396 2 3 495 181 496 497 498 499 868 396 869
def UM(_:Params):=gO "_law_divisor" (AO 73) "law_zonewalk_k33_whole_runs_of_parts" 756 500
def o507(_:Params):=cO "_law_fraction" 871 872 873 400 2 3 502 181 503 504 505 506 877 400 878
def UL(_:Params):=gO "_law_fraction" (AO 74) "law_zonewalk_k33_whole_runs_of_parts" 756 507
def o514(_:Params):=cO "_law_part_run" 880 881 882 403 3 3 509 181 510 511 512 513 892 403 893
def UK(_:Params):=gO "_law_part_run" (AO 75) "law_zonewalk_k33_whole_runs_of_parts" 756 514
def o519(P:Params):Obj:=cP "_law_as_one" 895 "_law_as_one" 896 897 413 2 3 516 181 (.ref 517) .none .none .none (.ref 518) 898 413 899
def UJ(_:Params):=gO "_law_as_one" (AO 76) "law_zonewalk_k33_whole_runs_of_parts" 756 519
def o524(P:Params):Obj:=cP "law" 901 "law" 902 903 419 1 3 521 181 (.ref 522) .none .none .none (.ref 523) 904 419 905
def UI(_:Params):=gO "law" (AO 77) "law_zonewalk_k33_whole_runs_of_parts" 756 524
def Hg(P:Params):Frag:=[(2,o2 P),(3,o3 P),(15,o15 P),(22,o22 P),(23,o23 P),(24,o24 P),(25,o25 P),(28,o28 P),(35,o35 P),(36,o36 P),(37,o37 P),(40,o40 P),(47,o47 P),(48,o48 P),(49,o49 P),(52,o52 P),(59,o59 P),(60,o60 P),(61,o61 P),(64,o64 P),(78,o78 P),(79,o79 P),(80,o80 P),(83,o83 P),(90,o90 P),(91,o91 P),(92,o92 P),(100,o100 P),(101,VQ P),(107,o107 P),(108,VP P),(109,VO P),(115,o115 P),(116,VN P),(122,o122 P),(123,VM P),(129,o129 P),(130,VL P),(131,N4 P),(132,VJ P),(138,o138 P),(139,VI P),(145,o145 P),(146,VH P),(150,o150 P),(151,VG P),(157,o157 P),(158,VF P),(164,o164 P),(165,VE P),(169,o169 P),(170,VD P),(176,o176 P),(177,VC P),(181,o181 P),(182,VB P),(188,o188 P),(189,VA P),(195,o195 P),(196,Uz P),(204,N3 P),(210,o210 P),(211,Uy P),(217,o217 P),(218,Ux P),(224,o224 P),(225,Uw P),(226,o226 P),(227,o227 P),(228,o228 P),(229,o229 P),(230,o230 P),(243,o243 P),(244,Uv P),(250,o250 P),(251,Uu P),(257,o257 P),(258,Ut P),(264,o264 P),(265,Us P),(271,o271 P),(272,Ur P),(278,o278 P),(279,Uq P),(280,o280 P),(281,o281 P),(282,o282 P),(283,o283 P),(284,o284 P),(290,o290 P),(291,Up P),(297,o297 P),(298,Uo P),(302,o302 P),(303,Um P),(309,o309 P),(310,Ul P),(314,o314 P),(315,Uk P),(319,o319 P),(320,Uj P),(324,o324 P),(325,Ui P),(329,o329 P),(330,Uh P),(334,o334 P),(335,Ug P),(336,N2 P),(342,o342 P),(343,Ue P),(349,o349 P),(350,Ud P),(354,o354 P),(355,Uc P),(359,o359 P),(360,Ub P),(364,o364 P),(365,Ua P),(369,o369 P),(370,U9 P),(374,o374 P),(375,U8 P),(379,o379 P),(380,U7 P),(386,o386 P),(387,U6 P),(391,o391 P),(392,U4 P),(398,o398 P),(399,U3 P),(405,o405 P),(406,U2 P),(410,o410 P),(411,U1 P),(417,o417 P),(418,U0 P),(422,o422 P),(423,UZ P),(429,o429 P),(430,UY P),(436,o436 P),(437,UX P),(443,o443 P),(444,UW P),(450,o450 P),(451,UU P),(457,o457 P),(458,UT P),(464,o464 P),(465,US P),(469,o469 P),(470,UR P),(476,o476 P),(477,UQ P),(483,o483 P),(484,UP P),(488,o488 P),(489,UO P),(493,o493 P),(494,UN P),(500,o500 P),(501,UM P),(507,o507 P),(508,UL P),(514,o514 P),(515,UK P),(519,o519 P),(520,UJ P),(524,o524 P),(525,UI P)]
noncomputable def fas:List Addr:=[2,3,15,22,23,24,25,28,35,36,37,40,47,48,49,52,59,60,61,64,78,79,80,83,90,91,92,100,101,107,108,109,115,116,122,123,129,130,131,132,138,139,145,146,150,151,157,158,164,165,169,170,176,177,181,182,188,189,195,196,204,210,211,217,218,224,225,226,227,228,229,230,243,244,250,251,257,258,264,265,271,272,278,279,280,281,282,283,284,290,291,297,298,302,303,309,310,314,315,319,320,324,325,329,330,334,335,336,342,343,349,350,354,355,359,360,364,365,369,370,374,375,379,380,386,387,391,392,398,399,405,406,410,411,417,418,422,423,429,430,436,437,443,444,450,451,457,458,464,465,469,470,476,477,483,484,488,489,493,494,500,501,507,508,514,515,519,520,524,525]
def vq:Program:={ pw with main:={ (pw).main with body:=[AO 77] } }
noncomputable def loo:List Str:=[Str.ofString "WalkError",Str.ofString "NoNumber",Str.ofString "BadMachine",Str.ofString "TooMany",Str.ofString "NoRun",Str.ofString "NoMark",Str.ofString "is_whole",Str.ofString "greatest_divisor",Str.ofString "fraction",Str.ofString "plus",Str.ofString "under",Str.ofString "WORDS",Str.ofString "STAY_WORDS",Str.ofString "is_look",Str.ofString "is_number",Str.ofString "is_guard",Str.ofString "stands_so",Str.ofString "MOST_WATCHES",Str.ofString "MOST_ROOMS",Str.ofString "MOST_DOORS",Str.ofString "is_small_letter",Str.ofString "is_name",Str.ofString "is_watch_name",Str.ofString "is_room_name",Str.ofString "is_sign",Str.ofString "own_copy",Str.ofString "Door",Str.ofString "Machine",Str.ofString "check_watches",Str.ofString "are_unlike",Str.ofString "check_rooms",Str.ofString "check_doors",Str.ofString "are_noughts",Str.ofString "placed",Str.ofString "holds",Str.ofString "nought_places",Str.ofString "start",Str.ofString "stands",Str.ofString "is_legal",Str.ofString "stand_behind",Str.ofString "stand_beyond",Str.ofString "MOST_PARTS",Str.ofString "together",Str.ofString "shares",Str.ofString "checked_takings",Str.ofString "check_parts",Str.ofString "all_watches",Str.ofString "all_takings",Str.ofString "whole_name",Str.ofString "whole_stay",Str.ofString "whole_ways",Str.ofString "shares_of",Str.ofString "starts_from",Str.ofString "whole_door",Str.ofString "_law_cell_at",Str.ofString "_law_stream",Str.ofString "_law_draws",Str.ofString "_law_names",Str.ofString "_law_looks",Str.ofString "_law_part",Str.ofString "_law_parts",Str.ofString "_law_meets",Str.ofString "_law_through",Str.ofString "_law_run",Str.ofString "_law_divisor",Str.ofString "_law_fraction",Str.ofString "_law_part_run",Str.ofString "_law_as_one"]
abbrev hk:Hook:=kHook Hg fas (λ_=>by ext)
theorem zly(w:World)(os:OsState):(go pw 3795 w os).map (λs=>KJ pw vq loo (xt NO.row.toRowW vq) hk.obs (boot_heap w.params) s.abs)=some (true,openGood vq loo,hk.val w):=by ext
theorem left:LeftO pw vq loo (xt NO.row.toRowW vq) hk.obs hk.val 8170 true:=zk9 8170 3795 (by ext) (by decide) (λs=>by ext) (by decide) zly
theorem said:NO.wellSaid=true:=zir (by ext)
abbrev fr(w:World):Frag:=Hg w.params
theorem all_mk{w:World}{h:Heap}{mg:Str->Option Value}{fa:Addr}(X:(Hg w.params).In h)(G:h.Ns mainGlobals mg)(hfa:mg "law"=some (.ref fa))
  : ∃fd:FuncData,(∀(s:Shared) (v:Value),BindsTo s fd ⟨[v],[]⟩ [("_law_script",v)])/\∀base:Heap,(Hg w.params).In base->base.Ns mainGlobals mg->FnOk pw w (Hg w.params) mg base J5 10 fa fd ["_law_script"] (KE (Hg w.params)):=by
 have e:=hfa.symm.trans (mg_of X G (show nsIn (fr w) mainGlobals "law"=some (some (.ref 525)) by ext))
 cases e;have mK:∀(x:Str) (a:Addr),nsIn (fr w) mainGlobals x=some (some (.ref a))->mg x=some (.ref a):=λ_ _ e=>mg_of X G e
 have mC:∀(x:Str) (u:Value),nsIn (fr w) mainGlobals x=some (some u)->mg x=some u:=λ_ _ e=>mg_of X G e
 have mN:∀x:Str,nsIn (fr w) mainGlobals x=some none->mg x=none:=λ_ e=>mg_none_of X G e
 have kS:Cls (fr w) Ah:=⟨by ext,by ext,by ext,by ext⟩
 have kU:∀f∈Am,CO (fr w) Ah f:=(AH (by unfold CO;ext) (AH (by unfold CO;ext) (AH (by unfold CO;ext) (AH (by unfold CO;ext) (AH (by unfold CO;ext) AK)))))
 have kT:Cls (fr w) A5:=⟨by ext,by ext,by ext,by ext⟩
 have kW:∀f∈Ag,CO (fr w) A5 f:=(AH (by unfold CO;ext) (AH (by unfold CO;ext) (AH (by unfold CO;ext) AK)))
 let ca:Str->Value:=λc=>if c="BadMachine" then .ref 49 else if c="TooMany" then .ref 61 else if c="NoNumber" then .ref 37 else if c="NoMark" then .ref 92 else if c="WalkError" then .ref 24 else .none
 have kL:=mN "len" (by ext)
 have kN:=mN "range" (by ext)
 have kJ:=mN "int" (by ext)
 have kG:=mN "all" (by ext)
 have kK:=mN "isinstance" (by ext)
 have kP:=mN "str" (by ext)
 have kH:=mN "bool" (by ext)
 have kQ:=mN "tuple" (by ext)
 have kM:=mN "list" (by ext)
 have kO:=mN "set" (by ext)
 have kR:=mN "zip" (by ext)
 have kI:=mN "enumerate" (by ext)
 have kF:=mN "abs" (by ext)
 have yg:specialIn (fr w) (.builtin "object.__class__") "__get__"=some (some (.builtin "getset_descriptor.__get__"))/\takesIn (fr w) (.builtin "object.__class__")=some true:=⟨by ext,by ext⟩
 let kX:ECls (fr w) mg "BadMachine":=JF yg 49 (mK _ _ (by ext)) (by ext)
 have kA:∃T:ECls (fr w) mg "BadMachine",ca "BadMachine"=.ref T.C:=⟨kX,by rfl⟩
 let kY:ECls (fr w) mg "TooMany":=JF yg 61 (mK _ _ (by ext)) (by ext)
 have kE:∃T:ECls (fr w) mg "TooMany",ca "TooMany"=.ref T.C:=⟨kY,by rfl⟩
 let kZ:ECls (fr w) mg "NoNumber":=JF yg 37 (mK _ _ (by ext)) (by ext)
 have kD:∃T:ECls (fr w) mg "NoNumber",ca "NoNumber"=.ref T.C:=⟨kZ,by rfl⟩
 let qA:ECls (fr w) mg "NoMark":=JF yg 92 (mK _ _ (by ext)) (by ext)
 have kC:∃T:ECls (fr w) mg "NoMark",ca "NoMark"=.ref T.C:=⟨qA,by rfl⟩
 let qB:ECls (fr w) mg "WalkError":=JF yg 24 (mK _ _ (by ext)) (by ext)
 have F20:=EJ (st:=NI) (show(fr w).lookup 211=some (Uy w.params) by ext) (show codeIn (fr w) (.ref 210) "Door.__init__"=true by ext) (by ext)
 have F21:=EJ (st:=NF) (show(fr w).lookup 244=some (Uv w.params) by ext) (show codeIn (fr w) (.ref 243) "Machine.__init__"=true by ext) (by ext)
 have F22:=EJ (st:=NA) (show(fr w).lookup 251=some (Uu w.params) by ext) (show codeIn (fr w) (.ref 250) "Machine.watches"=true by ext) (by ext)
 have F23:=EJ (st:=ND) (show(fr w).lookup 258=some (Ut w.params) by ext) (show codeIn (fr w) (.ref 257) "Machine.rooms"=true by ext) (by ext)
 have F24:=EJ (st:=NG) (show(fr w).lookup 265=some (Us w.params) by ext) (show codeIn (fr w) (.ref 264) "Machine.doors"=true by ext) (by ext)
 have F25:=EJ (st:=NC) (show(fr w).lookup 272=some (Ur w.params) by ext) (show codeIn (fr w) (.ref 271) "Machine.stay"=true by ext) (by ext)
 have F26:=EJ (st:=NJ) (show(fr w).lookup 218=some (Ux w.params) by ext) (show codeIn (fr w) (.ref 217) "Door.asks"=true by ext) (by ext)
 have F27:=EJ (st:=NH) (show(fr w).lookup 225=some (Uw w.params) by ext) (show codeIn (fr w) (.ref 224) "Door.sets"=true by ext) (by ext)
 have F41:=EJ (st:=KP) (show(fr w).lookup 116=some (VN w.params) by ext) (show codeIn (fr w) (.ref 115) "fraction"=true by ext) (by ext)
 let T41:Tx (fr w) mg "fraction" KP ["top","bottom"]:=⟨_,_,F41,mK "fraction" 116 (by ext),λs us X hl=>match us,hl with|[_,_],_=>binds_K X rfl (show(fr w).lookup 109=some (VO w.params) by ext) rfl rfl rfl⟩
 have F45:=EJ (st:=NB) (show(fr w).lookup 279=some (Uq w.params) by ext) (show codeIn (fr w) (.ref 278) "Machine.watch_number"=true by ext) (by ext)
 have F53:=EJ (st:=KN) (show(fr w).lookup 343=some (Ue w.params) by ext) (show codeIn (fr w) (.ref 342) "stands"=true by ext) (by ext)
 let T53:Tx (fr w) mg "stands" KN ["machine","run","alone"]:=⟨_,_,F53,mK "stands" 343 (by ext),λs us X hl=>match us,hl with|[_,_,_],_=>binds_K X rfl (show(fr w).lookup 336=some (N2 w.params) by ext) rfl rfl rfl⟩
 have F64:=EJ (st:=KO) (show(fr w).lookup 525=some (UI w.params) by ext) (show codeIn (fr w) (.ref 524) "law"=true by ext) (by ext)
 let T64:Tx (fr w) mg "law" KO ["_law_script"]:=⟨_,_,F64,mK "law" 525 (by ext),.all (G0 λ_=>rfl)⟩
 refine⟨T64.fd,λs v=>.of_eq rfl,λbase _ _=>?_⟩
 have q:Qx pw w (fr w) mg base ca:=⟨mK⟩;let D1:=As q (o:=UX w.params) 437 zdk (AH kL AK) Aj Ai;let D2:=As q (o:=UW w.params) 444 zec (AH kN AK) Aj Ai;let D3:=As q (o:=UU w.params) 451 zfw AK (A4 D2 Aj) Ai;let D4:=As q (o:=UT w.params) 458 zft (AH kN (AH kJ AK)) Aj Ai;let D5:=As q (o:=VE w.params) 165 za9 AK Aj Ai;let D6:=As q (o:=VD w.params) 170 zea (AH kL (AH kG AK)) (A4 D5 Aj) Ai;let D7:=As q (o:=VC w.params) 177 zak (AH kK (AH kP AK)) (A4 D6 Aj) Ai;let D8:=As q (o:=VB w.params) 182 zay (AH kK (AH kP (AH kL (AH kG AK)))) (A4 D5 Aj) Ai;let D9:=As q (o:=VQ w.params) 101 zdf (AH kK (AH kJ (AH kH AK))) Aj Ai;let D10:=As q (o:=VH w.params) 146 zcl AK (A4 D9 Aj) Ai;let D11:=As q (o:=VI w.params) 139 zeb (AH kK (AH kQ (AH kL AK))) (A4 D10 Aj) Ai;let D12:=As q (o:=VG w.params) 151 zdh (AH kK (AH kM (AH kG AK))) (A4 D11 Aj) Ai (hce:=(AH (by rfl) (AH (by rfl) AK)))
 let D13:=As q (o:=Uo w.params) 298 zc0 (AH kL (AH kO AK)) Aj Ai;let D14:=As q (o:=Up w.params) 291 zal (AH kK (AH kM (AH kL (AH kG AK)))) (A4 D7 (A4 D13 Aj)) (Ai (co:=(CQ ⟨(.int (7) 389),(.int 7),mC _ _ (by ext),⟨_,rfl⟩,λF=>.int _⟩ CF))) (hex:=(AH kA AK))
 let D15:=As q (o:=Um w.params) 303 zbe (AH kK (AH kM (AH kL (AH kQ AK)))) (A4 D8 (A4 D12 (A4 D13 Aj))) (Ai (co:=(CQ ⟨_,.ref 132,mK _ 132 (by ext),rfl,λF=>Ad.of_node (k:=.rt) (xs:=[.str "<",.str "<="]) (.inr ⟨VJ w.params,_,_,by ext,rfl,rfl,by decide,(.cons ⟨_,rfl⟩ (.cons ⟨_,rfl⟩ .nil))⟩) (KS ["<","<="])⟩ CF))) (hex:=(AH kA AK))
 let D16:=As q (o:=Uk w.params) 315 zbh (AH kK (AH kM (AH kG AK))) (A4 D7 (A4 D13 Aj)) Ai (hce:=(AH (by rfl) AK))
 let D17:=As q (o:=VA w.params) 189 ze9 (AH kK (AH kP AK)) (A4 D6 Aj) Ai;let D18:=As q (o:=Uz w.params) 196 zde (AH kK (AH kM AK)) Aj Ai;let D19:=As q (o:=Ul w.params) 310 zbg (AH kK (AH kM AK)) (A4 D12 (A4 D16 (A4 D17 Aj))) (Ai (co:=(CQ ⟨_,.ref 131,mK _ 131 (by ext),rfl,λF=>Ad.of_node (k:=.rt) (xs:=[.str "<",.str "<=",.str ">",.str ">=",.str "="]) (.inr ⟨N4 w.params,_,_,by ext,rfl,rfl,by decide,(.cons ⟨_,rfl⟩ (.cons ⟨_,rfl⟩ (.cons ⟨_,rfl⟩ (.cons ⟨_,rfl⟩ (.cons ⟨_,rfl⟩ .nil)))))⟩) (KS ["<","<=",">",">=","="])⟩ CF)) (cl:=(AH ⟨kS,kU⟩ AK)) (ci:=(CQ ⟨228,mK _ _ (by ext),(CQ ⟨⟨kS,by ext,by ext,by ext,by ext⟩,by ext⟩ (CQ ⟨⟨kT,by ext,by ext,by ext,by ext⟩,by ext⟩ CF)),by ext⟩ CF))) (hex:=(AH kA AK))
 have K20:FnOk pw w (fr w) mg base (Bo pw w) 2 _ _ ["self","start","end","guard","noughts","sign"] (Fh (fr w) ca Ah Gy):=Wx (C:=Ah) (fs:=Am) (n:=200) (Γ:=W9) F20 YK.s rfl rfl AK rfl AK (A4 D18 Aj) AK EF rfl (Ai (sf:=(λC fs h=>by cases h;exact⟨kS,kU⟩))) YK.k
 let D20:NewX pw w (fr w) mg base "Door" Ah 2 ["self","start","end","guard","noughts","sign"] (Fh (fr w) ca Ah Gy):=⟨_,_,mK "Door" 228 (by ext),⟨by ext,by ext,by ext,by ext⟩,K20⟩
 have E20:Dg (fr w) D20.fd ["self","start","end","guard","noughts","sign"] []:=λs us X hl=>match us,hl with|[_,_,_,_,_,_],_=>binds_K X rfl (show(fr w).lookup 204=some (N3 w.params) by ext) rfl rfl rfl
 have K21:FnOk pw w (fr w) mg base (Bo pw w) 6 _ _ ["self","watches","rooms","doors"] (Fh (fr w) ca A5 GO):=Wx (C:=A5) (fs:=Ag) (n:=200) (Γ:=W6) F21 YH.s rfl rfl AK rfl (AH kL (AH kM AK)) (A4 D14 (A4 D15 (A4 D19 Aj))) (AH kE AK) EF rfl (Ai (co:=(CQ ⟨(.int (64) 391),(.int 64),mC _ _ (by ext),⟨_,rfl⟩,λF=>.int _⟩ (CQ ⟨(.int (200) 393),(.int 200),mC _ _ (by ext),⟨_,rfl⟩,λF=>.int _⟩ CF))) (sf:=(λC fs h=>by cases h;exact⟨kT,kW⟩))) YH.k
 let D21:NewX pw w (fr w) mg base "Machine" A5 6 ["self","watches","rooms","doors"] (Fh (fr w) ca A5 GO):=⟨_,_,mK "Machine" 282 (by ext),⟨by ext,by ext,by ext,by ext⟩,K21⟩
 have E21:Dg (fr w) D21.fd ["self","watches","rooms","doors"] []:=.all (Qq λ_ _ _ _=>rfl)
 have K22:FnOk pw w (fr w) mg base (Bo pw w) 1 _ _ ["self"] (BA (fr w) ca Eg):=Ee (n:=200) (Γ:=W0) F22 YD.s rfl rfl AK rfl (AH kM AK) Aj AK EF rfl (Ai (cl:=(AH ⟨kT,kW⟩ AK))) YD.k;let D22:MetX pw w (fr w) mg base A5 "watches" 1 ["self"] (BA (fr w) ca Eg):=⟨_,_,kT,⟨by ext,by ext,by ext⟩,K22,.all (G0 λ_=>rfl)⟩
 have K23:FnOk pw w (fr w) mg base (Bo pw w) 1 _ _ ["self"] (BA (fr w) ca Eh):=Ee (n:=200) (Γ:=W5) F23 YG.s rfl rfl AK rfl (AH kM AK) Aj AK EF rfl (Ai (cl:=(AH ⟨kT,kW⟩ AK))) YG.k;let D23:MetX pw w (fr w) mg base A5 "rooms" 1 ["self"] (BA (fr w) ca Eh):=⟨_,_,kT,⟨by ext,by ext,by ext⟩,K23,.all (G0 λ_=>rfl)⟩
 have K24:FnOk pw w (fr w) mg base (Bo pw w) 1 _ _ ["self"] (BA (fr w) ca E4):=Ee (n:=200) (Γ:=W7) F24 YI.s rfl rfl AK rfl (AH kM AK) Aj AK EF rfl (Ai (cl:=(AH ⟨kT,kW⟩ AK))) YI.k;let D24:MetX pw w (fr w) mg base A5 "doors" 1 ["self"] (BA (fr w) ca E4):=⟨_,_,kT,⟨by ext,by ext,by ext⟩,K24,.all (G0 λ_=>rfl)⟩
 have K25:FnOk pw w (fr w) mg base (Bo pw w) 1 _ _ ["self","room"] (BA (fr w) ca FG):=Ee (n:=200) (Γ:=W4) F25 YF.s rfl rfl AK rfl (AH kM AK) Aj AK EF rfl (Ai (cl:=(AH ⟨kT,kW⟩ AK))) YF.k;let D25:MetX pw w (fr w) mg base A5 "stay" 1 ["self","room"] (BA (fr w) ca FG):=⟨_,_,kT,⟨by ext,by ext,by ext⟩,K25,.all (Jo λ_ _=>rfl)⟩
 have K26:FnOk pw w (fr w) mg base (Bo pw w) 1 _ _ ["self"] (BA (fr w) ca GQ):=Ee (n:=200) (Γ:=Wa) F26 YL.s rfl rfl AK rfl (AH kM AK) Aj AK EF rfl (Ai (cl:=(AH ⟨kS,kU⟩ AK))) YL.k;let D26:MetX pw w (fr w) mg base Ah "asks" 1 ["self"] (BA (fr w) ca GQ):=⟨_,_,kS,⟨by ext,by ext,by ext⟩,K26,.all (G0 λ_=>rfl)⟩
 have K27:FnOk pw w (fr w) mg base (Bo pw w) 1 _ _ ["self"] (BA (fr w) ca GP):=Ee (n:=200) (Γ:=W8) F27 YJ.s rfl rfl AK rfl (AH kM AK) Aj AK EF rfl (Ai (cl:=(AH ⟨kS,kU⟩ AK))) YJ.k;let D27:MetX pw w (fr w) mg base Ah "sets" 1 ["self"] (BA (fr w) ca GP):=⟨_,_,kS,⟨by ext,by ext,by ext⟩,K27,.all (G0 λ_=>rfl)⟩
 let D28:=As q (o:=U6 w.params) 387 zbi AK Aj (Ai (mt:=(AH ⟨by decide,⟨D22⟩⟩ AK)))
 let D29:=As q (o:=U7 w.params) 380 zbf (AH kK (AH kM (AH kL (AH kG AK)))) (A4 D28 (A4 D13 Aj)) (Ai (co:=(CQ ⟨(.int (6) 654),(.int 6),mC _ _ (by ext),⟨_,rfl⟩,λF=>.int _⟩ (CQ ⟨(.int (7) 389),(.int 7),mC _ _ (by ext),⟨_,rfl⟩,λF=>.int _⟩ CF))) (ci:=(CQ ⟨282,mK _ _ (by ext),(CQ ⟨⟨kS,by ext,by ext,by ext,by ext⟩,by ext⟩ (CQ ⟨⟨kT,by ext,by ext,by ext,by ext⟩,by ext⟩ CF)),by ext⟩ CF))) (hex:=(AH kA AK))
 let D30:=As q (o:=U4 w.params) 392 zbj (AH kL AK) Aj (Ai (co:=(CQ ⟨(.int (64) 391),(.int 64),mC _ _ (by ext),⟨_,rfl⟩,λF=>.int _⟩ CF)) (mt:=(AH ⟨by decide,⟨D23⟩⟩ AK))) (hce:=(AH (by rfl) AK)) (hex:=(AH kE AK))
 let D31:=As q (o:=U3 w.params) 399 zby AK Aj Ai;let D32:=As q (o:=U8 w.params) 375 zaa (AH kG AK) (A4 D29 (A4 D30 (A4 D31 (A4 D13 (A4 D8 Aj))))) Ai (hex:=(AH kA AK));let D33:=As q (o:=U2 w.params) 406 zbx (AH kR AK) Aj (Ai (mt:=(AH ⟨by decide,⟨D25⟩⟩ AK)))
 let D34:=As q (o:=UY w.params) 430 zbz (AH kM AK) (A4 D31 Aj) (Ai (cl:=(AH ⟨kS,kU⟩ AK)) (mt:=(AH ⟨by decide,⟨D24⟩⟩ (AH ⟨by decide,⟨D26⟩⟩ (AH ⟨by decide,⟨D27⟩⟩ AK)))) (nw:=(K7 ⟨by decide,Ah,D20,(CQ ⟨[.str ""],[.str (Str.ofString "") 447],(λs us X hl=>Qp (P:=λus=>BindsTo s _ ⟨us,[]⟩ (List.zip _ (us++_))) (λ_ _ _ _ _=>binds_K X rfl (show(fr w).lookup 204=some (N3 w.params) by ext) rfl rfl rfl) us (by simpa using hl)),.cons ⟨_,rfl⟩ .nil,λF=>.cons (H:=F) (.str _) .nil⟩ CF)⟩ K6)))
 let D35:=As q (o:=U0 w.params) 418 zck (AH kI AK) Aj (Ai (cl:=(AH ⟨kS,kU⟩ AK)));let D36:=As q (o:=UZ w.params) 423 zbd (AH kG AK) Aj (Ai (cl:=(AH ⟨kS,kU⟩ AK))) (hce:=(AH (by rfl) (AH (by rfl) AK)))
 let D37:=As q (o:=U1 w.params) 411 zbw (AH kI (AH kN (AH kL AK))) (A4 D35 (A4 D36 Aj)) (Ai (co:=(CQ ⟨(.int (200) 393),(.int 200),mC _ _ (by ext),⟨_,rfl⟩,λF=>.int _⟩ CF)) (mt:=(AH ⟨by decide,⟨D24⟩⟩ AK))) (hce:=(AH (by rfl) (AH (by rfl) AK))) (hex:=(AH kE AK))
 let D38:=As q (o:=Ua w.params) 365 zdd AK (A4 D32 (A4 D31 (A4 D33 (A4 D37 (A4 D34 (A4 D28 Aj)))))) (Ai (nw:=(K7 ⟨by decide,A5,D21,(CQ ⟨[],[],E21,.nil,λ_=>.nil⟩ CF)⟩ K6))) (hce:=(AH (by rfl) AK))
 let D39:=As q (o:=U9 w.params) 370 zfq (AH kM AK) (A4 D32 (A4 D37 Aj)) Ai;let D40:=As q (o:=VP w.params) 108 za3 (AH kF AK) Aj Ai;have K41:FnOk pw w (fr w) mg base (Bo pw w) 2 T41.f T41.fd ["top","bottom"] (BA (fr w) ca IC):=Ee (n:=200) (Γ:=WZ) T41.F YC.s rfl rfl AK rfl AK (A4 D9 (A4 D40 Aj)) (AH kD AK) EF rfl Ai YC.k;let D41:DefX pw w (fr w) mg base 2 "fraction" ["top","bottom"] (BA (fr w) ca IC):=⟨T41.f,T41.fd,K41,T41.m,T41.F.kp,T41.b⟩;let D42:=As q (o:=VM w.params) 123 zkv AK (A4 D41 Aj) Ai;let D43:=As q (o:=VL w.params) 130 zhz AK Aj Ai;let D44:=As q (o:=VF w.params) 158 zcj AK (A4 D43 Aj) Ai;have K45:FnOk pw w (fr w) mg base (Bo pw w) 1 _ _ ["self","name"] (BA (fr w) ca GN):=Ee (n:=200) (Γ:=W3) F45 YE.s rfl rfl AK rfl AK Aj AK EF rfl (Ai (cl:=(AH ⟨kT,kW⟩ AK))) YE.k;let D45:MetX pw w (fr w) mg base A5 "watch_number" 1 ["self","name"] (BA (fr w) ca GN):=⟨_,_,kT,⟨by ext,by ext,by ext⟩,K45,.all (Jo λ_ _=>rfl)⟩
 let D46:=As q (o:=Uj w.params) 320 zfr AK (A4 D12 Aj) (Ai (co:=(CQ ⟨_,.ref 131,mK _ 131 (by ext),rfl,λF=>Ad.of_node (k:=.rt) (xs:=[.str "<",.str "<=",.str ">",.str ">=",.str "="]) (.inr ⟨N4 w.params,_,_,by ext,rfl,rfl,by decide,(.cons ⟨_,rfl⟩ (.cons ⟨_,rfl⟩ (.cons ⟨_,rfl⟩ (.cons ⟨_,rfl⟩ (.cons ⟨_,rfl⟩ .nil)))))⟩) (KS ["<","<=",">",">=","="])⟩ CF)) (mt:=(AH ⟨by decide,⟨D22⟩⟩ (AH ⟨by decide,⟨D45⟩⟩ AK)))) (hce:=(AH (by rfl) AK)) (hex:=(AH kC AK))
 let D47:=As q (o:=Ui w.params) 325 zi1 (AH kG AK) (A4 D44 Aj) Ai (hce:=(AH (by rfl) AK))
 let D48:=As q (o:=Uh w.params) 330 zaj AK Aj (Ai (mt:=(AH ⟨by decide,⟨D27⟩⟩ (AH ⟨by decide,⟨D45⟩⟩ AK)))) (hce:=(AH (by rfl) AK))
 let D49:=As q (o:=Ug w.params) 335 zi0 AK Aj (Ai (mt:=(AH ⟨by decide,⟨D23⟩⟩ (AH ⟨by decide,⟨D22⟩⟩ AK))))
 let D50:=As q (o:=Ud w.params) 350 zdg AK (A4 D47 (A4 D46 Aj)) (Ai (mt:=(AH ⟨by decide,⟨D25⟩⟩ AK)))
 let D51:=As q (o:=Ub w.params) 360 zaw (AH kL (AH kI AK)) (A4 D47 (A4 D46 (A4 D48 (A4 D50 Aj)))) (Ai (cl:=(AH ⟨kS,kU⟩ AK)) (mt:=(AH ⟨by decide,⟨D24⟩⟩ (AH ⟨by decide,⟨D26⟩⟩ AK)))) (hce:=(AH (by rfl) AK))
 let D52:=As q (o:=Uc w.params) 355 zax AK (A4 D43 (A4 D42 (A4 D50 (A4 D51 Aj)))) Ai (hce:=(AH (by rfl) AK))
 have K53:FnOk pw w (fr w) mg base (Bo pw w) 9 T53.f T53.fd ["machine","run","alone"] (BA (fr w) ca E3):=Ee (n:=200) (Γ:=WX) T53.F YA.s rfl rfl AK rfl (AH kI AK) (A4 D49 (A4 D50 (A4 D52 Aj))) AK EF rfl Ai YA.k;let D53:DefX pw w (fr w) mg base 9 "stands" ["machine","run","alone"] (BA (fr w) ca E3):=⟨T53.f,T53.fd,K53,T53.m,T53.F.kp,T53.b⟩;let D54:=As q (o:=UM w.params) 501 zdj (AH kF AK) Aj Ai;let D55:=As q (o:=UL w.params) 508 zcn AK (A4 D54 Aj) Ai;let D56:=As q (o:=US w.params) 465 zfv (AH kN (AH kL AK)) Aj Ai;let D57:=As q (o:=UR w.params) 470 zi2 (AH kN (AH kL (AH kM AK))) (A4 D2 (A4 D56 (A4 D3 Aj))) (Ai (nw:=(K7 ⟨by decide,Ah,D20,(CQ ⟨[],[],E20,.nil,λ_=>.nil⟩ CF)⟩ (K7 ⟨by decide,A5,D21,(CQ ⟨[],[],E21,.nil,λ_=>.nil⟩ CF)⟩ K6)))) (hce:=(AH (by rfl) (AH (by rfl) AK)))
 let D58:=As q (o:=UQ w.params) 477 zfs (AH kN AK) (A4 D4 (A4 D1 (A4 D57 Aj))) Ai;let D59:=As q (o:=UP w.params) 484 zfu AK Aj Ai;let D60:=As q (o:=UO w.params) 489 zdi (AH kN (AH kL (AH kG AK))) (A4 D59 Aj) (Ai (cl:=(AH ⟨kS,kU⟩ AK)) (mt:=(AH ⟨by decide,⟨D22⟩⟩ (AH ⟨by decide,⟨D25⟩⟩ (AH ⟨by decide,⟨D26⟩⟩ (AH ⟨by decide,⟨D27⟩⟩ AK)))))) (hce:=(AH (by rfl) (AH (by rfl) (AH (by rfl) (AH (by rfl) (AH (by rfl) AK))))))
 let D61:=As q (o:=UN w.params) 494 zkw (AH kN (AH kL AK)) (A4 D2 (A4 D60 Aj)) (Ai (mt:=(AH ⟨by decide,⟨D23⟩⟩ (AH ⟨by decide,⟨D22⟩⟩ (AH ⟨by decide,⟨D24⟩⟩ AK)))))
 let D62:=As q (o:=UK w.params) 515 zcm AK Aj Ai;let D63:=As q (o:=UJ w.params) 520 zed AK Aj Ai (hce:=(AH (by rfl) AK))
 have K64:FnOk pw w (fr w) mg base (Bo pw w) 10 T64.f T64.fd ["_law_script"] (BA (fr w) ca Lq):=Ee (n:=200) (Γ:=WY) T64.F YB.s rfl rfl (AH (by rfl) (AH (by rfl) (AH (by rfl) (AH (by rfl) (AH (by rfl) (AH (by rfl) AK)))))) rfl (AH kM (AH kN (AH kL (AH kG AK)))) (A4 D1 (A4 D58 (A4 D38 (A4 D61 (A4 D55 (A4 D39 (A4 D53 (A4 D62 (A4 D63 Aj))))))))) AK EF rfl (Ai (xs:=(CQ (xs_of kY (by ext)) CF)) (dn:=(CQ ⟨by decide,D53,[.bl true],⟨[.bool true],λs us X hl=>Jo (P:=λus=>BindsTo s _ ⟨us,[]⟩ (List.zip _ (us++_))) (λ_ _=>binds_K X rfl (show(fr w).lookup 336=some (N2 w.params) by ext) rfl rfl rfl) us (by simpa using hl),(.cons rfl .nil)⟩,λF=>(.cons (H:=F) (.bl _) .nil)⟩ CF))) YB.k
 exact zno K64 λns h=>law_true ns h
theorem walk{l:PySem.W.OpenLaw}{q:Program}{loose:List Str}{XP:(Str->Option Value)->Heap->Prop}{YP:World->Heap->Prop}{d:DefRec}{K:Params->k9}(hn:l.most=some 63)(hdf:d.params.defaults=[])
  (hY:∀(w:World) (h:Heap),YP w h->(K w.params).In h)
  (F : ∀ (w : World) (mg : Str -> Option Value) (fa : Addr) (h : Heap), (K w.params).In h -> h.Ns mainGlobals mg -> mg d.name = some (.ref fa) ->
   ∃fd:FuncData,(∀(s:Shared) (u:Value),BindsTo s fd ⟨[u],[]⟩ [("_law_script",u)])/\∀base:Heap,(K w.params).In base->base.Ns mainGlobals mg->FnOk l.prog w (K w.params) mg base J5 10 fa fd ["_law_script"] (KE (K w.params))) :
  PySem.W.WalkO q loose XP YP l.row.toRowW d [] (λf vs=>PySem.call f vs) :=
 L2.walk_of (n:=63) (k:=10) (x:="_law_script") (CX:=λ_=>J5) (sp:=λw=>KE (K w.params)) hn (by decide) hdf ⟨rfl,by decide,by decide⟩ hY F (λ_ _ a ns hl _ hS=>⟨a,ns,rfl,hS,hl,λ_=>rfl⟩) λ_ _ _ _ _ z=>z
end Zl
open PySem PySem.W PyProof.Rows
set_option maxRecDepth 100000 in
set_option maxHeartbeats 0 in
theorem PySem.Challenge.cw_zonewalk_k33_whole_runs_of_parts_holds : PySem.Challenge.rw_zonewalk_k33_whole_runs_of_parts.Holds := by
 refine holds_law Zl.said λs=>?_
 refine holds_open (q:=Zl.vq) (loose:=Zl.loo) (Xt:=Hd.xt PySem.Challenge.rw_zonewalk_k33_whole_runs_of_parts.row.toRowW Zl.vq) (XP:=XL Zl.vq []) (Yf:=Zl.hk.obs) (Ya:=Zl.hk.val) (YP:=Zl.hk.says) Zl.left Zl.hk.of Zl.hk.keeps (λs e=>xl_of s (Bool.and_eq_true_iff.mp e).1) XL.keeps (by rfl) (by rfl) (by rfl) (λs e=>recFacts_of (Bool.and_eq_true_iff.mp e).2) (by rfl) s (by decide +kernel) ⟨rfl,rfl,rfl,rfl,rfl,by decide +kernel⟩ ?hw ?hc
 case hw=>w_witness2
 case hc=>exact Zl.walk (l:=PySem.Challenge.rw_zonewalk_k33_whole_runs_of_parts) rfl rfl (λw h Y=>kIn_of Y) λw mg fa h X G e=>Zl.all_mk X G e
end
