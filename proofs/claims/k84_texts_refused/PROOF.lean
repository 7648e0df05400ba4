import PyProof.Rows.All
import Wide.All
import OpenK.AllK
import Wide.FinOn
import Lean
import PyProof.EqAt
import PyProof.EqKinds
import PyProof.TupleCall
import PySem.Challenge.RW_zonewalk_k84_texts_refused
set_option compiler.extract_closed false
set_option bootstrap.genMatcherCode false
set_option linter.all false
def ya0:=@List.mem_cons_of_mem
def ya1:=@List.length_map
def ya2:=@Bool.and_eq_true
def ya3:=@List.mem_cons_self
def ya4:=@Option.map_eq_some_iff
def ya5:=@List.getElem?_eq_getElem
def ya6:=@List.length_cons
def ya7:=@List.mem_singleton
def ya8:=@PySem.Heap.get?_push_of_some
def ya9:=@Option.some.inj
def yaa:=@Option.bind_eq_some_iff
def yab:=@List.all_eq_true
def yac:=@List.getElem?_eq_some_iff
def yad:=@List.mem_cons
def yae:=@List.map_cons
def yaf:=@Nat.le_refl
def yag:=@List.length_append
def yah:=@PySem.Heap.lt_size
def yai:=@List.mem_map
def yaj:=@List.getElem?_map
def yak:=@List.mem_append_right
def yal:=@List.map_append
def yam:=@Nat.lt_of_lt_of_le
def yan:=@List.getElem?_set_ne
def yao:=@PySem.Heap.get?_push_size
def yap:=@Nat.le_trans
def yaq:=@List.size_toArray
def yar:=@Bool.eq_false_iff
def yas:=@List.getElem?_set_self
def yat:=@List.mem_append
def yau:=@Nat.ne_of_lt
def yav:=@Option.map_some
def yaw:=@List.getD_eq_getElem?_getD
def yax:=@List.map_map
def yay:=@List.getElem?_append_left
def yaz:=@List.drop_succ_cons
def yb0:=@List.getElem?_append_right
def yb1:=@Ne.symm
def yb2:=@List.lookup_cons
def yb3:=@List.not_mem_nil
def yb4:=@List.append_nil
def yb5:=@List.contains_iff_mem
def yb6:=@List.cons_ne_nil
def yb7:=@Int.fmod_nonneg_of_pos
def yb8:=@List.cons.inj
def yb9:=@Bool.false_ne_true
def yba:=@Nat.lt_irrefl
def ybb:=@PySem.W.kia_one
def ybc:=@List.drop_zero
def ybd:=@List.mem_append_left
def ybe:=@Bool.or_eq_false_iff
def ybf:=@PySem.Heap.get?_update_other
def ybg:=@List.findIdx?_eq_some_iff_getElem
def ybh:=@List.take_of_length_le
def ybi:=@Int.toNat_natCast
def ybj:=@List.replicate_succ
def ybk:=@List.take_succ_cons
def ybl:=@List.map_eq_nil_iff
def ybm:=@Bool.eq_iff_iff
def ybn:=@List.length_singleton
def ybo:=@Int.fmod_lt_of_pos
def ybp:=@Bool.false_or
def ybq:=@Bool.or_eq_true
def ybr:=@PySem.mem_of_lookup
def ybs:=@Array.getElem?_eq_some_iff
def ybt:=@Bool.false_and
def ybu:=@List.getElem?_eq_none
def ybv:=@List.take_zero
def ybw:=@Nat.le_succ
def ybx:=@List.map_nil
def yby:=@List.all_map
def ybz:=@List.getLast?_append
def yc0:=@List.flatten_cons
def yc1:=@List.append_assoc
def yc2:=@Nat.le_succ_of_le
def yc3:=@PySem.W.hideAll_get
def yc4:=@PySem.Heap.size_push
def yc5:=@Nat.lt_succ_self
def yc6:=@PyProof.Rows.callWith_type1
def yc7:=@List.mem_filterMap
def yc8:=@Int.natCast_nonneg
def yc9:=@List.length_nil
def yca:=@Bool.true_and
def ycb:=@Bool.not_eq_true'
def ycc:=@Nat.lt_succ_of_lt
def ycd:=@Option.some.injEq
def yce:=@List.drop_eq_getElem_cons
def ycf:=@Nat.zero_le
def ycg:=@Bool.and_false
def ych:=@Bool.or_true
def yci:=@PySem.F.slot_str_getitem
def ycj:=@List.isEmpty_iff
def yck:=@List.getElem?_cons_succ
def ycl:=@Int.lt_of_lt_of_le
def ycm:=@PySem.W.of_hideAll
def ycn:=@Bool.false_eq_true
def yco:=@Nat.min_eq_left
def ycp:=@PySem.F.plainAttrs_str
def ycq:=@PySem.F.slot_str_split
def ycr:=@List.reverse_cons
def ycs:=@PySem.Heap.get?_update_self
def yct:=@PyProof.Rows.boot_isinstance
def ycu:=@List.length_take
def ycv:=@List.length_drop
def ycw:=@List.dropLast_concat
def ycx:=@List.reverse_reverse
def ycy:=@Bool.or_false
def ycz:=@PySem.F.excBase_ValueError
def yd0:=@List.all_cons
def yd1:=@List.nodup_iff_pairwise_ne
def yd2:=@List.getElem?_range
def yd3:=@List.length_pos_iff
def yd4:=@List.nodup_cons
def yd5:=@List.length_set
def yd6:=@Array.getElem?_eq_getElem
def yd7:=@List.head?_cons
def yd8:=@List.drop_left'
def yd9:=@Nat.lt_trans
def yda:=@Option.isSome_iff_exists
def ydb:=@Bool.true_or
def ydc:=@PySem.Obj.data_mapFields
def ydd:=@PySem.F.called_set
def yde:=@PySem.F.args_str_split_2
def ydf:=@List.getElem?_replicate
def ydg:=@PyProof.Rows.F.plain_set_update_loop
def ydh:=@PySem.F.entry_str_split
def ydi:=@Int.eq_ofNat_of_zero_le
def ydj:=@PySem.W.cellsFrom_some
def ydk:=@PyProof.V.reads_dictOf
def ydl:=@PySem.SeqAt.notIn_list_reads
def ydm:=@Bool.not_true
def ydn:=@List.cons_append
def ydo:=@List.getElem_mem
def ydp:=@Nat.le_add_right
def ydq:=@Bool.not_eq_true
def ydr:=@List.length_replicate
def yds:=@PySem.Obj.isFreed_of_fields
def ydt:=@PySem.W.hideAll_none
def ydu:=@List.of_mem_zip
def ydv:=@List.find?_cons
def ydw:=@List.filterMap_cons
def ydx:=@PySem.SeqAt.in_list_reads
def ydy:=@Int.toNat_of_nonneg
def ydz:=@PySem.W.callWith_K
def ye0:=@List.zip_cons_cons
def ye1:=@List.any_cons
def ye2:=@List.map_drop
def ye3:=@PySem.W.kitx_dict
def ye4:=@Nat.not_lt
def ye5:=@Nat.le_of_lt
def ye6:=@List.getElem_inj
def ye7:=@List.any_eq_true
def ye8:=@PySem.Txt.slice_le
def ye9:=@PySem.StrLaws.subAt_eq
def yea:=@List.mem_flatMap
def yeb:=@List.take_length
def yec:=@decide_eq_false
def yed:=@PySem.wpAny_mono
def yee:=@PySem.wpAny_truthy_bool
def yef:=@PySem.wpAny_execs_nil
def yeg:=@PySem.wpAny_bind
def yeh:=@PySem.wpAny_holding
def yei:=@PySem.wpAny_passesOwn
def yej:=@PySem.wpAny_pure
def yek:=@PySem.wpAny_pyIter_list
def yel:=@PySem.sizeLine_eq
def yem:=@PySem.wpAny_Call_Name_kw
def yen:=@PySem.typeIs_str
def yeo:=@if_true
def yep:=@if_false
def yeq:=@PySem.call_meets
def yer:=@decide_eq_true
def yes:=@PySem.codeAny_mono
def yet:=@PySem.wpAny_newObj_type
def yeu:=@PySem.wpAny_setField
def yev:=@PySem.wpAny_field
def yew:=@PySem.wpAny_call
def yex:=@beq_iff_eq
def yey:=@PySem.codeAny_call_builtin
def yez:=@PySem.codeAny_builtin
def yf0:=@PySem.wpAny_of_eq
def yf1:=@decide_eq_true_eq
def yf2:=@PySem.wpAny_pyIter_enum
def yf3:=@beq_self_eq_true
def yf4:=@PySem.pushCells_keeps
def yf5:=@of_decide_eq_true
def yf6:=@or_false
def yf7:=@PySem.wpAny_ite_false
def yf8:=@PySem.wpAny_isInstance
def yf9:=@PySem.wpAny_getItem_str_slice
def yfa:=@PySem.post_val_or_str
def yfb:=@ne_true_of_eq_false
def yfc:=@decide_eq_decide
def yfd:=@beq_eq_false_iff_ne
noncomputable section
local macro_rules|`(tactic|ext)=>`(tactic|kernel_rfl)
abbrev kA:=PySem.W.Frag
set_option Elab.async false
set_option linter.all false
set_option maxRecDepth 100000
set_option genSizeOf false
local macro_rules
  |`(tactic| omega)=>`(tactic| first
    |assumption
    |exact yap (by assumption) (by decide +kernel)
    |exact yam (by assumption) (by decide +kernel)
    |exact Nat.lt_of_le_of_lt (by assumption) (by decide +kernel)
    |exact Nat.succ_pos _
    |exact yam (by assumption) (Nat.succ_le_succ (yap (by assumption) (by decide +kernel)))
    |exact Nat.succ_le_succ (yap (by assumption) (by decide +kernel))
    |exact yd9 (by assumption) (by assumption)
    |exact yam (by assumption) (by assumption)
    |exact Int.lt_trans (b:=0) (by decide +kernel) (by assumption)
    |exact ycl (b:=0) (by decide +kernel) (by assumption)
    |exact Int.lt_of_le_of_lt (by assumption) (by decide +kernel)
    |exact Int.le_trans (by assumption) (by decide +kernel)
    |exact Int.le_of_lt (by assumption)
    |exact Int.ne_of_gt (by assumption)
    |lia
    |fail)
namespace L2
open PySem PySem.Spec PyProof.Rows
abbrev Key:=Sum Int Str
noncomputable def Gc:Key->Value->Bool
 |.inl k,v=>Value.isInt k v
 |.inr x,v=>Value.isStrOf x v
def keyH(w:World):Key->Int
 |.inl k=>hashInt k
 |.inr x=>hashStr w x
theorem FD:∀{k:Key} {v:Value},Gc k v=true->(∃i t,k=Sum.inl i/\v=Value.int i t)\/(∃x t,k=Sum.inr x/\v=Value.str x t)
 |.inl i,v,h=>by
  obtain⟨t,e⟩:=Value.isInt_shape (k:=i) (v:=v) h;exact .inl ⟨i,t,rfl,e⟩
 |.inr x,v,h=>by
  obtain⟨t,e⟩:=Value.isStrOf_shape (x:=x) (v:=v) h;exact .inr ⟨x,t,rfl,e⟩
theorem ze7(i:Int)(t:Tok):Gc (.inl i) (.int i t)=true:=by simp[Gc,Value.isInt]
theorem ze6(x:Str)(t:Tok):Gc (.inr x) (.str x t)=true:=by simp[Gc,Value.isStrOf]
theorem zmo(a b:Int):decide ((Sum.inl a:Key)=Sum.inl b)=(a == b):=by
 by_cases e:a=b
 .subst e;simp
 .have h:¬ (Sum.inl a:Key)=Sum.inl b:=λq=>e (Sum.inl.inj q)
  rw[yec h];exact(beq_eq_false_iff_ne.mpr e).symm
theorem zml(a b:Str):decide ((Sum.inr a:Key)=Sum.inr b)=decide (a=b):=by
 by_cases e:a=b
 .subst e;simp
 .have h:¬ (Sum.inr a:Key)=Sum.inr b:=λq=>e (Sum.inr.inj q)
  rw[yec h,yec e]
theorem zmn(a:Int)(b:Str):decide ((Sum.inl a:Key)=Sum.inr b)=false:=yec (λq=>nomatch q)
theorem zmm(a:Str)(b:Int):decide ((Sum.inr a:Key)=Sum.inl b)=false:=yec (λq=>nomatch q)
def Cy(prog:Program)(w:World):PySem.KeyKind prog w Key where
 is:=Gc
 hash:=keyH w
 inj:=λv a b ha hb=>by
  rcases FD ha with ⟨i,t,rfl,rfl⟩|⟨x,t,rfl,rfl⟩
  .rcases FD hb with ⟨j,u,rfl,e⟩|⟨y,u,rfl,e⟩
   .injection e with e1 _;rw[e1]
   .exact nomatch e
  .rcases FD hb with ⟨j,u,rfl,e⟩|⟨y,u,rfl,e⟩
   .exact nomatch e
   .injection e with e1 _;rw[e1]
 byValue:=λk v h=>by
  rcases FD h with ⟨i,t,rfl,rfl⟩|⟨x,t,rfl,rfl⟩<;>rfl
 pyHash:=λhv h=>by
  rcases FD hv with ⟨i,t,rfl,rfl⟩|⟨x,t,rfl,rfl⟩
  .exact wpAny_pyHash_int h
  .exact wpAny_pyHash_str h
 eqBool:=λhu hv h=>by
  rcases FD hu with ⟨i,t,rfl,rfl⟩|⟨x,t,rfl,rfl⟩
  .rcases FD hv with ⟨j,u,rfl,rfl⟩|⟨y,u,rfl,rfl⟩
   .rw[zmo]at h;exact wpAny_eqBool_int h
   .rw[zmn]at h;exact SeqAt.EqAt.int_str i t y u _ _ _ _ h
  .rcases FD hv with ⟨j,u,rfl,rfl⟩|⟨y,u,rfl,rfl⟩
   .rw[zmm]at h;exact SeqAt.EqAt.str_int x t j u _ _ _ _ h
   .rw[zml]at h;exact wpAny_eqBool_str h
 «strs»:=λk x t v h=>by
  rcases FD h with ⟨i,u,rfl,e⟩|⟨y,u,rfl,e⟩
  .exact nomatch e
  .injection e with e1 _
   subst e1;cases v<;>rfl
theorem zce(prog:Program)(w:World)(i:Int)(t:Tok):(Cy prog w).is (.inl i) (.int i t)=true:=ze7 i t
theorem zcd(prog:Program)(w:World)(x:Str)(t:Tok):(Cy prog w).is (.inr x) (.str x t)=true:=ze6 x t
inductive V where
 |non|bl (b:Bool)|int (i:Int)|str (x:Str)|byt (b:Array UInt8)|flt (b:UInt64)|ref (a:Addr)|ty (n:String)
 deriving DecidableEq
def RelV:V->Value->Prop
 |.non,u=>u=Value.none
 |.bl b,u=>u=Value.bool b
 |.int i,u=>∃t,u=Value.int i t
 |.str x,u=>∃t,u=Value.str x t
 |.byt b,u=>∃t,u=Value.bytes b t
 |.flt b,u=>∃t,u=Value.float b t
 |.ref a,u=>u=Value.ref a
 |.ty n,u=>u=Value.type n
abbrev A9:List V->List Value->Prop:=Paired RelV
theorem A9.length{xs:List V}{us:List Value}(r:A9 xs us):xs.length=us.length:=Paired.length r
theorem A9.get:∀{xs:List V} {us:List Value} {i:Nat} {x:V},A9 xs us->xs[i]?=some x->∃u,us[i]?=some u/\RelV x u
 |_,_,_,_,.nil,e=>by simp at e
 |_,_,0,_,.cons r _,e=>by simp at e;subst e;exact⟨_,rfl,r⟩
 |_,_,i+1,x,.cons _ t,e=>by
  obtain⟨u,h1,h2⟩:=A9.get (i:=i) (x:=x) t (by simpa using e)
  exact⟨u,by simpa using h1,h2⟩
theorem A9.append:∀{xs ys:List V} {us ws:List Value},A9 xs us->A9 ys ws->A9 (xs++ys) (us++ws)
 |_,_,_,_,.nil,s=>s
 |_,_,_,_,.cons r t,s=>.cons r (A9.append t s)
theorem A9.take:∀{xs:List V} {us:List Value} (n:Nat),A9 xs us->A9 (xs.take n) (us.take n)
 |_,_,0,_=>.nil
 |_,_,_+1,.nil=>.nil
 |_,_,n+1,.cons r t=>.cons r (A9.take n t)
theorem A9.drop:∀{xs:List V} {us:List Value} (n:Nat),A9 xs us->A9 (xs.drop n) (us.drop n)
 |_,_,0,r=>r
 |_,_,_+1,.nil=>.nil
 |_,_,n+1,.cons _ t=>A9.drop n t
def FP:Option V->Option Value->Prop
 |some v,some u=>RelV v u
 |none,none=>True
 |_,_=>False
def KV{κ:Type}:List (κ×V)->List (κ×Value)->Prop:=Paired λ(p:κ×V) (q:κ×Value)=>p.1=q.1/\RelV p.2 q.2
def kV:Key->V
 |.inl i=>.int i
 |.inr x=>.str x
inductive HO where
 |lst (xs:List V)
 |tup (xs:List V)
 |dK (kvs:List (Key×V))|dT (kvs:List (List Key×V))
 |set (S:Int->Bool) (n:Nat)
 |ins (C dx:Addr) (fs:List (Str×V))
 |own (x:Addr)
 |xd (fs:List (Str×V))
 |met (f x:Addr)
 |rng (lo hi:Int)
 |frz (o:Obj) (u:HO)
 |tbl (ps:Array Value)
 |ext (φ:Heap->Prop)
abbrev Hp:=Addr->Option HO
noncomputable def upd(H:Hp)(a:Addr)(o:HO):Hp:=λb=>if b=a then some o else H b
theorem Bq{H:Hp}{a:Addr}{o:HO}:upd H a o a=some o:=by unfold upd;rw[if_pos rfl]
theorem Ak{H:Hp}{a b:Addr}{o:HO}(h:b≠a):upd H a o b=H b:=by unfold upd;rw[if_neg h]
theorem ne_of{H:Hp}{a b:Addr}{o u:HO}(h:H a=some o)(h':H b=some u)(d:o≠u):a≠b:=by
 intro e;subst e;rw[h]at h';exact d (ya9 h')
theorem Bf{H:Hp}{a b:Addr}{o:HO}(h:H a=some o)(h':H b=none):a≠b:=by
 intro e;subst e;rw[h]at h';cases h'
section
variable (P:Program)(w:World)
def BK(H:Hp)(h:Heap)(a:Addr):HO->Prop
 |.lst xs=>xs.length<=sizeLine/\∃(its:List Value) (n:Nat),A9 xs its/\h.get? a=some { cls:=.type "list",data:=.seq its.toArray n }
 |.tup xs=>xs.length<=sizeLine/\∃its:List Value,A9 xs its/\IsTup h a its.toArray
 |.dK kvs=>kvs.length<=sizeLine/\(a == sysModules)=false/\∃vs,KV kvs vs/\h.DictOf (Cy P w) a vs
 |.dT kvs=>kvs.length<=sizeLine/\(a == sysModules)=false/\∃xs:List (List Key×Addr×Value),
   Paired (λ(p:List Key×V) (q:List Key×Addr×Value)=>p.1=q.1/\H q.2.1=some (.tup (p.1.map kV))/\RelV p.2 q.2.2) kvs xs /\
   ∃o es ep,h.get? a=some o/\o.ExactDict/\o.data=.dict es ep/\es.toList=xs.map (entryOfKey (tupleKind (Cy P w)))/\(xs.map (·.1)).Nodup
 |.set S n=>h.SetOf (intKind P w) a S n
 |.ins C dx fs=>H dx=some (.own a)/\fs.length<=1000/\dx≠a/\h.get? a=some (PySem.W.instObj C dx) /\
   ∃mA,h.Ns1 dx mA/\(∀f,FP (fs.lookup f) (mA f))/\PySem.Within mA (fs.map (·.1))
 |.own _=>∃o,h.get? a=some o
 |.xd fs=>∃mA,h.Ns1 a mA/\∀f,FP (fs.lookup f) (mA f)
 |.rng lo hi=>∃t u v,h.get? a=some { cls:=.type "range",data:=.fields #[.int lo t,.int hi u,.int 1 v] }
 |.frz o u=>h.get? a=some o/\BK H h a u
 |.tbl ps=>h.get? a=some { cls:=.none,data:=.fields ps }
 |.met f x=>h.get? a=some (PySem.W.methodObj (.ref f) (.ref x))
 |.ext φ=>φ h/\(∃o,h.get? a=some o)/\∀h1 h2:Heap,φ h1->(∀o,h1.get? a=some o->h2.get? a=some o)->φ h2
def HOk(H:Hp)(h:Heap):Prop:=∀a o,H a=some o->BK P w H h a o
end
section
variable {P:Program}{w:World}{H H':Hp}{h h':Heap}{a:Addr}{o:HO}
theorem BK.lt(x:BK P w H h a o):a<h.objs.size:=by
 cases o with
 |lst xs=>obtain⟨_,_,_,_,e⟩:=x;exact yah e
 |tup xs=>obtain⟨_,_,_,p⟩:=x;exact p.lt
 |dK kvs=>obtain⟨_,_,_,_,o,_,_,e,_⟩:=x;exact yah e
 |dT kvs=>obtain⟨_,_,_,_,o,_,_,e,_⟩:=x;exact yah e
 |set S n=>obtain⟨o,_,_,_,e,_⟩:=x;exact yah e
 |ins C dx fs=>obtain⟨_,_,_,e,_⟩:=x;exact yah e
 |own y=>obtain⟨_,e⟩:=x;exact yah e
 |xd fs=>obtain⟨_,⟨_,_,_,e,_⟩,_⟩:=x;exact yah e
 |rng lo hi=>obtain⟨_,_,_,e⟩:=x;exact yah e
 |frz ob u=>obtain⟨e,_⟩:=x;exact yah e
 |tbl ps=>exact yah (show h.get? a=some _ from x)
 |met f y=>exact yah (show h.get? a=some _ from x)
 |ext φ=>obtain⟨_,⟨_,e⟩,_⟩:=x;exact yah e
theorem Paired.mapP{α β:Type}{F G:α->β->Prop}:∀{l₁:List α} {l₂:List β},Paired F l₁ l₂->(∀a b,F a b->G a b)->Paired G l₁ l₂
 |_,_,.nil,_=>.nil
 |_,_,.cons r t,f=>.cons (f _ _ r) (Paired.mapP t f)
theorem BK.stay(x:BK P w H h a o)(k:∀b u,(b=a\/H b=some (.own a))->h.get? b=some u->h'.get? b=some u)
  (ho:∀b,H b=some (.own a)->H' b=some (.own a)) (ht:∀b xs,H b=some (.tup xs)->H' b=some (.tup xs)):BK P w H' h' a o:=by
 induction o with
 |lst xs=>obtain⟨z,its,n,r,e⟩:=x;exact⟨z,its,n,r,k _ _ (.inl rfl) e⟩
 |tup xs=>obtain⟨z,its,r,ob,e,c⟩:=x;exact⟨z,its,r,ob,k _ _ (.inl rfl) e,c⟩
 |dK kvs=>obtain⟨z,y,vs,r,ob,es,ep,e,c⟩:=x;exact⟨z,y,vs,r,ob,es,ep,k _ _ (.inl rfl) e,c⟩
 |dT kvs =>
  obtain⟨z,y,xs,r,ob,es,ep,e,c⟩:=x;exact⟨z,y,xs,Paired.mapP r λp q z=>⟨z.1,ht _ _ z.2.1,z.2.2⟩,ob,es,ep,k _ _ (.inl rfl) e,c⟩
 |set S n=>obtain⟨ob,es,ep,t,e,c⟩:=x;exact⟨ob,es,ep,t,k _ _ (.inl rfl) e,c⟩
 |ins C dx fs =>
  obtain⟨d,z,ne,e,mA,⟨od,es,ep,e2,c⟩,r⟩:=x;exact⟨ho _ d,z,ne,k _ _ (.inl rfl) e,mA,⟨od,es,ep,k _ _ (.inr d) e2,c⟩,r⟩
 |own y=>obtain⟨ob,e⟩:=x;exact⟨ob,k _ _ (.inl rfl) e⟩
 |xd fs=>obtain⟨mA,⟨od,es,ep,e,c⟩,r⟩:=x;exact⟨mA,⟨od,es,ep,k _ _ (.inl rfl) e,c⟩,r⟩
 |rng lo hi=>obtain⟨t,u,v,e⟩:=x;exact⟨t,u,v,k _ _ (.inl rfl) e⟩
 |frz ob u ih=>obtain⟨e,q⟩:=x;exact⟨k _ _ (.inl rfl) e,ih q⟩
 |tbl ps =>
  have e:h.get? a=some { cls:=.none,data:=.fields ps }:=x;show h'.get? a=some { cls:=.none,data:=.fields ps };exact k a _ (.inl rfl) e
 |met f y =>
  have e:h.get? a=some (PySem.W.methodObj (.ref f) (.ref y)):=x;show h'.get? a=some (PySem.W.methodObj (.ref f) (.ref y));exact k a _ (.inl rfl) e
 |ext φ=>obtain⟨p,⟨o,e⟩,st⟩:=x;exact⟨st _ _ p λo q=>k _ _ (.inl rfl) q,⟨o,k _ _ (.inl rfl) e⟩,st⟩
theorem HOk.lt(x:HOk P w H h)(e:H a=some o):a<h.objs.size:=(x a o e).lt
theorem HOk.fresh(x:HOk P w H h)(e:h.objs.size<=a):H a=none:=by
 cases q:H a with
 |none=>rfl
 |some u=>exact absurd (yam (x.lt q) e) (yba _)
theorem HOk.kept(x:HOk P w H h)(k:∀b u,h.get? b=some u->h'.get? b=some u):HOk P w H h':=λa o e =>
 (x a o e).stay (λb u _ q=>k b u q) (λ_ q=>q) λ_ _ q=>q
theorem HOk.laid(x:HOk P w H h)(k:∀b u,h.get? b=some u->h'.get? b=some u)(hp:h.objs.size<=a)(new:BK P w (upd H a o) h' a o):HOk P w (upd H a o) h':=λb u e=>by
 have hn:=x.fresh hp
 by_cases hb:b=a
 .subst hb;rw[Bq]at e;cases e;exact new
 .rw[Ak hb]at e;exact(x b u e).stay (λc v _ q=>k c v q) (λc q=>by rw[Ak (Bf q hn)];exact q) λc xs q=>by rw[Ak (Bf q hn)];exact q
end
def Rd(H:Hp)(a:Addr)(u:HO):Prop:=H a=some u\/∃o,H a=some (.frz o u)
theorem Rd.ok{P:Program}{w:World}{H:Hp}{h:Heap}{a:Addr}{u:HO}(r:Rd H a u)(x:HOk P w H h):BK P w H h a u:=by
 rcases r with r|⟨o,r⟩
 .exact x a u r
 .obtain⟨_,q⟩:=x a _ r;exact q
def LH:Option HO->Prop
 |some (.lst _)=>True
 |some (.dK _)=>True
 |some (.dT _)=>True
 |some (.set _ _)=>True
 |some (.ins _ _ _)=>True
 |some (.ext _)=>True
 |_=>False
section
variable {P:Program}{w:World}{H:Hp}{h h':Heap}{x e:Addr}{o':HO}
theorem HOk.write(ok:HOk P w H h)(mu:LH (H x))(he:e=x\/H e=some (.own x))(k:∀b u,b≠e->h.get? b=some u->h'.get? b=some u)(heo:∃u,h'.get? e=some u)
  (new:BK P w (upd H x o') h' x o'):HOk P w (upd H x o') h':=λb u q=>by
 have nown:∀c y,H c=some (.own y)->c≠x:=λc y r z=>by subst z;rw[r]at mu;exact mu
 have ntup:∀c xs,H c=some (.tup xs)->c≠x:=λc xs r z=>by subst z;rw[r]at mu;exact mu
 by_cases hb:b=x
 .subst hb;rw[Bq]at q;cases q;exact new
 .rw[Ak hb]at q
  by_cases hbe:b=e
  .have q':H b=some (.own x):=by
    rcases he with z|z
    .exact absurd (hbe.trans z) hb
    .rw[hbe];exact z
   rw[q]at q';cases q';obtain⟨v,hv⟩:=heo;exact⟨v,by rw[hbe];exact hv⟩
  .refine(ok b u q).stay (λc v hc r=>k c v ?_ r) (λc r=>by rw[Ak (nown c b r)];exact r) λc xs r=>by rw[Ak (ntup c xs r)];exact r
   rcases hc with rfl|hc
   .exact hbe
   .rintro rfl
    rcases he with z|z
    .exact nown c b hc z
    .rw[hc]at z;cases z;exact hb rfl
end
structure Un(fs ex:List Addr)(H H':Hp)(h h':Heap):Prop where
 keep:∀b o,h.get? b=some o->H b=none->b∉fs->b∉ex->h'.get? b=some o
 slot:∀b o,h.get? b=some o->H b=none->b∈fs->b∉ex->∃sl,h'.get? b=some { o with slots:=sl }
 free:∀b o,h.get? b=some o->H b=none->b∉ex->H' b=none
 there:∀b o,h.get? b=some o->b∉ex->∃o',h'.get? b=some o'
 tups:∀b xs,H b=some (.tup xs)->H' b=some (.tup xs)
 frzs:∀b o u,H b=some (.frz o u)->H' b=some (.frz o u)
 tbls:∀b ps,H b=some (.tbl ps)->∃more,H' b=some (.tbl (ps++more))
section
variable {fs fs' ex ex':List Addr}{H H1 H2:Hp}{h h1 h2 h':Heap}{a x e:Addr}{o:HO}
theorem Un.any(u:Un fs ex H H1 h h1){b:Addr}{ob:Obj}(q:h.get? b=some ob)(n:H b=none)(hx:b∉ex):∃sl,h1.get? b=some { ob with slots:=sl }:=by
 by_cases hb:b∈fs
 .exact u.slot b ob q n hb hx
 .exact⟨ob.slots,u.keep b ob q n hb hx⟩
theorem Un.kept(k:∀b u,h.get? b=some u->h'.get? b=some u):Un fs ex H H h h' :=
 ⟨λb ob q _ _ _=>k b ob q,λb ob q _ _ _=>⟨ob.slots,k b ob q⟩,λ_ _ _ n _=>n,λb ob q _=>⟨ob,k b ob q⟩,λ_ _ q=>q,λ_ _ _ q=>q,λ_ ps q=>⟨#[],by rw[q];simp⟩⟩
theorem Un.refl:Un fs ex H H h h:=Un.kept λ_ _ q=>q
theorem Un.laid(k:∀b u,h.get? b=some u->h'.get? b=some u)(hp:h.objs.size<=a)(hn:H a=none):Un fs ex H (upd H a o) h h' where
 keep:=λb u q _ _ _=>k b u q
 slot:=λb u q _ _ _=>⟨u.slots,k b u q⟩
 free:=λb u q n _=>by rw[Ak (yau (yam (yah q) hp))];exact n
 there:=λb u q _=>⟨u,k b u q⟩
 tups:=λb xs q=>by rw[Ak (Bf q hn)];exact q
 frzs:=λb u xs q=>by rw[Ak (Bf q hn)];exact q
 tbls:=λb ps q=>⟨#[],by rw[Ak (Bf q hn),q];simp⟩
theorem Un.write(mu:LH (H x))(he:e=x\/H e=some (.own x))(k:∀b u,b≠e->h.get? b=some u->h'.get? b=some u)(heo:∃u,h'.get? e=some u):Un fs ex H (upd H x o) h h':=by
 have hx:∀b,H b=none->b≠x:=λb n z=>by subst z;rw[n]at mu;exact mu
 have hb:∀b,H b=none->b≠e:=λb n z=>by
  subst z
  rcases he with r|r
  .exact hx b n r
  .rw[n]at r;cases r
 have hm:∀b u,H b=some u->¬ LH (some u)->b≠x:=λb u q nm z=>by subst z;rw[q]at mu;exact nm mu
 refine⟨λb u q n _ _=>k b u (hb b n) q,λb u q n _ _=>⟨u.slots,k b u (hb b n) q⟩,λb u q n _=>by rw[Ak (hx b n)];exact n,λb u q _=>?_,
  λb xs q=>by rw[Ak (hm b _ q λz=>z)];exact q,λb u xs q=>by rw[Ak (hm b _ q λz=>z)];exact q,λb ps q=>⟨#[],by rw[Ak (hm b _ q λz=>z),q];simp⟩⟩
 by_cases hbe:b=e
 .subst hbe;exact heo
 .exact⟨u,k b u hbe q⟩
end
def LU(h:Heap)(H:Hp):List Addr:=(List.range h.objs.size).filter λa=>(H a).isSome
def Fo(h:Heap)(H:Hp):Heap:=PySem.W.hideAll h (LU h H)
theorem zec(h:Heap)(H:Hp):(Fo h H).objs.size=h.objs.size:=PySem.W.hideAll_size _ _
theorem zgo{h:Heap}{H:Hp}{b:Addr}{o:Obj}(e:h.get? b=some o)(n:H b=none):(Fo h H).get? b=some o :=
 yc3 _ e λhm=>by
  have q:(H b).isSome=true:=(List.mem_filter.mp hm).2;rw[n]at q;simp at q
theorem zix{h:Heap}{H:Hp}{b:Addr}{o:Obj}(e:(Fo h H).get? b=some o):h.get? b=some o/\H b=none:=by
 have e':h.get? b=some o:=ycm (LU h H) e;refine⟨e',?_⟩;cases q:H b with
 |none=>rfl
 |some x =>
  have hm:b∈LU h H:=List.mem_filter.mpr ⟨List.mem_range.mpr (yah e'),by simp[q]⟩
  have z:(Fo h H).get? b=none:=ydt (LU h H) hm;rw[z]at e;cases e
structure Mod(K:kA)(mg:Str->Option Value)(base:Heap):Prop where
 kin:K.In base
 glob:base.Ns mainGlobals mg
 blt:∃mb,base.Ns builtinsNs mb/\∀x:Str,x≠"__name__"->mb x=bootBuiltins x
 nolimit:base.NoLimit
set_option genInjectivity false in
structure Cx where
 prog:Program
 w:World
 K:kA
 mg:Str->Option Value
 base:Heap
 A:Around
 N:List Str
 s₀:Shared
 H₀:Hp
 env:Env
 outer:List Env
 stack:List Env
 ex:List Addr
 fn:Str->Bool
 calm:Bool
 pn:List (Addr×Obj)
 xe:Value->Shared->Prop
def Az(l:List Env):List Addr:=l.filterMap (·.frame)
abbrev Cx.fs(X:Cx):List Addr:=Az X.outer
def Dc(sc:Scope)(x:Str):Prop:=sc.names.lookup x=some .local\/sc.names.lookup x=some .cell\/sc.names.lookup x=some .free
def FV(sc:Scope)(x:Str):Prop:=sc.names.lookup x=some .local\/sc.names.lookup x=some .cell
def Look(env:Env)(h:Heap)(m:Str->Option Value)(x:Str)(u:Value):Prop :=
 (env.kindOf x=some .local/\m x=some u)\/((env.kindOf x=some .cell\/env.kindOf x=some .free)/\∃c,env.cells.lookup x=some c/\h.IsCell c (some u))
structure Cx.Ok(X:Cx):Prop where
 mod:Mod X.K X.mg X.base
 kind:X.env.scope.kind=.function
 glob:X.env.globals=mainGlobals
 blt:X.env.builtins=builtinsNs
 above:X.s₀.heap.objs.size<=X.env.locals
 inj:∀x y c,X.env.cells.lookup x=some c->X.env.cells.lookup y=some c->x=y
 has:∀x,(X.env.kindOf x=some .cell\/X.env.kindOf x=some .free)->∃c,X.env.cells.lookup x=some c
 cab:∀x c,X.fn x=true->X.env.cells.lookup x=some c->X.s₀.heap.objs.size<=c
 hd:X.calm=true->X.A.handled=none
 frames:X.A.frames=some X.stack
 stk:X.stack=X.outer\/(X.stack=X.env::X.outer/\X.env.frame=some X.env.locals)
 exf:∀b∈X.ex,b≠X.env.locals/\∀x c,X.env.cells.lookup x=some c->c≠b
 bs:∀b o,X.base.get? b=some o->X.s₀.heap.get? b=some o/\X.H₀ b=none
 bsz:X.base.objs.size<=X.s₀.heap.objs.size
 noex:∀b o,X.base.get? b=some o->b∉X.ex
 exfs:∀b∈X.ex,b∉X.fs
 funs:X.s₀.heap.FunFrames X.base X.outer
 frf:∀b∈X.fs,X.H₀ b=none
structure Inv(X:Cx)(pins:List (Addr×Obj))(σ:List (Option V))(H:Hp)(s:Shared):Prop where
 ok:X.Ok
 os:s.os=X.s₀.os
 bare:AllBare s.gens
 base:Un X.fs X.ex X.H₀ H X.s₀.heap s.heap
 loc:∃m,s.heap.Ns X.env.locals m/\∀(i:Nat) (x:Str) (v:V),X.N[i]?=some x->σ[i]?=some (some v)->Dc X.env.scope x->∃u,RelV v u/\Look X.env s.heap m x u
 cell:∀x c,X.env.cells.lookup x=some c->∃v,s.heap.IsCell c v
 free:H X.env.locals=none
 freeC:∀x c,X.env.cells.lookup x=some c->H c=none
 pin:∀p∈X.pn++pins,s.heap.get? p.1=some p.2/\H p.1=none/\p.1≠X.env.locals/\p.1∉X.fs/\∀v,p.2.data≠.cell v
 hok:HOk X.prog X.w H s.heap
 len:σ.length=X.N.length
section
variable {X:Cx}{pins:List (Addr×Obj)}{σ:List (Option V)}{H H':Hp}{s:Shared}{h':Heap}
theorem Cx.Ok.nofr(ok:X.Ok){b:Addr}{o:Obj}(e:X.base.get? b=some o):b∉X.fs:=λhb=>by
 have:=(ok.funs.mem hb).1;rw[e]at this;cases this
theorem Inv.bs(I:Inv X pins σ H s):∀b o,X.base.get? b=some o->s.heap.get? b=some o/\H b=none:=λb o e =>
 ⟨I.base.keep b o (I.ok.bs b o e).1 (I.ok.bs b o e).2 (I.ok.nofr e) (I.ok.noex b o e),I.base.free b o (I.ok.bs b o e).1 (I.ok.bs b o e).2 (I.ok.noex b o e)⟩
theorem Inv.bk(I:Inv X pins σ H s):∀b o,X.base.get? b=some o->s.heap.get? b=some o:=λb o e=>(I.bs b o e).1
theorem Inv.mod(I:Inv X pins σ H s):Mod X.K X.mg X.base:=I.ok.mod
theorem Inv.kIn(I:Inv X pins σ H s):X.K.In s.heap:=I.ok.mod.kin.keeps I.bk
theorem Inv.lt(I:Inv X pins σ H s):X.env.locals<s.heap.objs.size:=let ⟨_,hn,_⟩:=I.loc;hn.lt
theorem Inv.sz(I:Inv X pins σ H s):X.s₀.heap.objs.size<=s.heap.objs.size:=yap I.ok.above (ye5 I.lt)
theorem Inv.nofs(I:Inv X pins σ H s){a:Addr}(h:s.heap.objs.size<=a):a∉X.fs:=λhb=>by
 obtain⟨_,o,ho,_⟩:=I.ok.funs.mem hb;exact absurd (yam (yah ho) (yap I.sz h)) (yba _)
theorem Inv.cne(I:Inv X pins σ H s):∀x c,X.env.cells.lookup x=some c->c≠X.env.locals:=λx c e z=>by
 obtain⟨v,o,ho,hd⟩:=I.cell x c e;obtain⟨m,⟨o',es,ep,ho',hd',_⟩,_⟩:=I.loc;rw[z,ho']at ho;cases ho;rw[hd']at hd;cases hd
theorem Inv.funs(I:Inv X pins σ H s):s.heap.FunFrames X.base X.outer:=by
 have all:∀(l:List Env),(∀b∈Az l,b∈X.fs)->X.s₀.heap.FunFrames X.base l->s.heap.FunFrames X.base l:=by
  intro l
  induction l with
  |nil=>intro _ _;trivial
  |cons env r ih =>
   intro hs hl;obtain⟨hk,⟨L,o,hf,hn,ho,hd⟩,hr⟩:=hl;have hL:L∈X.fs:=hs L (by unfold Az;rw[ydw,hf];exact ya3)
   obtain⟨sl,e⟩:=I.base.slot L o ho (I.ok.frf L hL) hL λz=>I.ok.exfs L z hL
   exact⟨hk,⟨L,_,hf,hn,e,hd⟩,ih (λb hb=>hs b (by unfold Az;rw[ydw,hf];exact ya0 _ hb)) hr⟩
 exact all X.outer (λ_ hb=>hb) I.ok.funs
theorem Inv.stack(I:Inv X pins σ H s):s.heap.FunFrames X.base X.stack:=by
 rcases I.ok.stk with e|⟨e,hf⟩
 .rw[e];exact I.funs
 .rw[e];obtain⟨m,hn,_⟩:=I.loc;refine .cons (by rw[I.ok.kind];decide) hf hn ?_ I.funs
  exact Heap.get?_none_of_le (yap I.ok.bsz I.ok.above)
theorem Inv.stkSub(I:Inv X pins σ H s):∀b∈Az X.stack,b∈X.env.locals::X.fs:=λb hb=>by
 rcases I.ok.stk with e|⟨e,hf⟩
 .rw[e]at hb;exact ya0 _ hb
 .rw[e]at hb;unfold Az at hb;rw[ydw,hf]at hb;exact hb
theorem Inv.stkFree(I:Inv X pins σ H s):∀b∈Az X.stack,H b=none:=λb hb=>by
 rcases yad.mp (I.stkSub b hb) with e|hb
 .rw[e];exact I.free
 .obtain⟨_,o,ho,_⟩:=I.ok.funs.mem hb;exact I.base.free b o ho (I.ok.frf b hb) λz=>I.ok.exfs b z hb
theorem Inv.step{g':Array GenState}{t':Nat}{d':Drawn}{ch:List Addr}(I:Inv X pins σ H s)
  (hch:∀b∈ch,(b∈X.ex\/X.s₀.heap.objs.size<=b)/\b≠X.env.locals/\(∀x c,X.env.cells.lookup x=some c->c≠b)/\∀p∈X.pn++pins,p.1≠b)
  (keep:∀b o,b≠X.env.locals->b∉X.fs->b∉ch->s.heap.get? b=some o->H b=none->h'.get? b=some o)
  (slot:∀b o,b≠X.env.locals->b∈X.fs->b∉ch->s.heap.get? b=some o->H b=none->∃sl,h'.get? b=some { o with slots:=sl }) (free:∀b o,b∉ch->s.heap.get? b=some o->H b=none->H' b=none)
  (there:∀b o,b∉ch->s.heap.get? b=some o->∃o',h'.get? b=some o')
  (tups:∀b xs,H b=some (.tup xs)->H' b=some (.tup xs)) (frzs:∀b o u,H b=some (.frz o u)->H' b=some (.frz o u)) (tbls:∀b ps,H b=some (.tbl ps)->∃more,H' b=some (.tbl (ps++more)))
  (ns:∀m,s.heap.Ns X.env.locals m->h'.Ns X.env.locals m) (hok:HOk X.prog X.w H' h') (hg:AllBare g') :
  Inv X pins σ H' { s with heap:=h',gens:=g',drawn:=d',toks:=t' }:=by
 have neL:∀b o,X.s₀.heap.get? b=some o->b≠X.env.locals:=λb o e=>yau (yam (yah e) I.ok.above)
 have neC:∀b o,X.s₀.heap.get? b=some o->b∉X.ex->b∉ch:=λb o e hx hb=>by
  rcases(hch b hb).1 with z|z
  .exact hx z
  .exact absurd (yam (yah e) z) (yba _)
 have cellK:∀x c,X.env.cells.lookup x=some c->∀v,s.heap.IsCell c v->h'.IsCell c v:=λx c e v ⟨o,ho,hd⟩=>by
  have nch:c∉ch:=λz=>(hch c z).2.2.1 x c e rfl
  by_cases hc:c∈X.fs
  .obtain⟨sl,q⟩:=slot c o (I.cne x c e) hc nch ho (I.freeC x c e);exact⟨_,q,hd⟩
  .exact⟨o,keep c o (I.cne x c e) hc nch ho (I.freeC x c e),hd⟩
 refine⟨I.ok,I.os,hg,⟨λb o e n hb hx=>?_,λb o e n hb hx=>?_,λb o e n hx=>?_,λb o e hx=>?_,λb xs e=>tups b xs (I.base.tups b xs e),λb o xs e=>frzs b o xs (I.base.frzs b o xs e),λb ps e=>?_⟩,?_,λx c e=>?_,?_,λx c e=>?_,λp hp=>?_,hok,I.len⟩
 .exact keep b o (neL b o e) hb (neC b o e hx) (I.base.keep b o e n hb hx) (I.base.free b o e n hx)
 .obtain⟨sl,e1⟩:=I.base.slot b o e n hb hx;obtain⟨sl',e2⟩:=slot b _ (neL b o e) hb (neC b o e hx) e1 (I.base.free b o e n hx);exact⟨sl',e2⟩
 .obtain⟨o',e1⟩:=I.base.there b o e hx;exact free b o' (neC b o e hx) e1 (I.base.free b o e n hx)
 .obtain⟨o',e1⟩:=I.base.there b o e hx;exact there b o' (neC b o e hx) e1
 .obtain⟨m1,e1⟩:=I.base.tbls b ps e;obtain⟨m2,e2⟩:=tbls b _ e1;exact⟨m1++m2,by rw[e2,Array.append_assoc]⟩
 .obtain⟨m,hn,hl⟩:=I.loc;refine⟨m,ns m hn,λi x v e1 e2 e3=>?_⟩
  obtain⟨u,r,l⟩:=hl i x v e1 e2 e3;refine⟨u,r,?_⟩
  rcases l with l|⟨k,c,e,z⟩
  .exact .inl l
  .exact .inr ⟨k,c,e,cellK x c e _ z⟩
 .obtain⟨v,z⟩:=I.cell x c e;exact⟨v,cellK x c e v z⟩
 .obtain⟨m,⟨o,_,_,ho,_⟩,_⟩:=I.loc;exact free _ o (λz=>(hch _ z).2.1 rfl) ho I.free
 .obtain⟨v,o,ho,hd⟩:=I.cell x c e;exact free c o (λz=>(hch c z).2.2.1 x c e rfl) ho (I.freeC x c e)
 .obtain⟨e,n,ne,nf,d⟩:=I.pin p hp;have nch:p.1∉ch:=λz=>(hch p.1 z).2.2.2 p hp rfl
  exact⟨keep p.1 p.2 ne nf nch e n,free p.1 p.2 nch e n,ne,nf,d⟩
theorem Inv.un{t':Nat}(I:Inv X pins σ H s)(u:Un X.fs [] H H' s.heap h')(hok:HOk X.prog X.w H' h'):Inv X pins σ H' { s with heap:=h',toks:=t' }:=by
 obtain⟨m,⟨o,es,ep,ho,r⟩,_⟩:=id I.loc;obtain⟨sl,hL⟩:=u.any ho I.free (by simp)
 exact I.step (g':=s.gens) (d':=s.drawn) (ch:=[]) (λ_ z=>nomatch z) (λb o _ hb _ e n=>u.keep b o e n hb (by simp)) (λb o _ hb _ e n=>u.slot b o e n hb (by simp)) (λb o _ e n=>u.free b o e n (by simp)) (λb o _ e=>u.there b o e (by simp)) u.tups u.frzs u.tbls (λm' hm=>by
  obtain⟨o',es',ep',ho',r'⟩:=hm;rw[ho]at ho';cases ho';exact⟨_,es',ep',hL,r'⟩) hok I.bare
theorem Inv.call{g':Array GenState}{t':Nat}{d':Drawn}{ch:List Addr}(I:Inv X pins σ H s)(u:Un (Az X.stack) ch H H' s.heap h')(hok:HOk X.prog X.w H' h')(hg:AllBare g')
  (hch:∀b∈ch,(b∈X.ex\/X.s₀.heap.objs.size<=b)/\b≠X.env.locals/\(∀x c,X.env.cells.lookup x=some c->c≠b)/\∀p∈X.pn++pins,p.1≠b) :
  Inv X pins σ H' { s with heap:=h',gens:=g',drawn:=d',toks:=t' }:=by
 obtain⟨m,⟨o,es,ep,ho,r⟩,_⟩:=id I.loc;obtain⟨sl,hL⟩:=u.any ho I.free λz=>(hch _ z).2.1 rfl
 exact I.step (ch:=ch) hch (λb o hL hb hc e n=>u.keep b o e n (λz=>(yad.mp (I.stkSub b z)).elim hL hb) hc) (λb o _ _ hc e n=>u.any e n hc) (λb o hc e n=>u.free b o e n hc) (λb o hc e=>u.there b o e hc) u.tups u.frzs u.tbls (λm' hm=>by
  obtain⟨o',es',ep',ho',r'⟩:=hm;rw[ho]at ho';cases ho';exact⟨_,es',ep',hL,r'⟩) hok hg
theorem Inv.turned{t':Nat}{it:Addr}(I:Inv X pins σ H s)(k:∀b o,b≠it->s.heap.get? b=some o->h'.get? b=some o)(hn:H it=none)(hL:it≠X.env.locals)
  (h1:it∈X.ex\/X.s₀.heap.objs.size<=it) (h2:∀x c,X.env.cells.lookup x=some c->c≠it) (h3:∀p∈X.pn++pins,p.1≠it):Inv X pins σ H { s with heap:=h',toks:=t' }:=by
 have nit:∀b u,H b=some u->b≠it:=λb u e z=>by rw[z,hn]at e;cases e
 refine I.step (g':=s.gens) (d':=s.drawn) (ch:=[it]) (λb hb=>?_) (λb o _ _ hc e _=>k b o (λz=>hc (by simp[z])) e) (λb o _ _ hc e _=>⟨o.slots,k b o (λz=>hc (by simp[z])) e⟩) (λ_ _ _ _ n=>n)
  (λb o hc e=>⟨o,k b o (λz=>hc (by simp[z])) e⟩) (λ_ _ e=>e) (λ_ _ _ e=>e) (λb ps e=>⟨#[],by rw[e];simp⟩) (λm hm=>?_) (λb u e=>?_) I.bare
 .have e:b=it:=by simpa using hb
  subst e;exact⟨h1,hL,h2,h3⟩
 .obtain⟨o,es,ep,ho,r⟩:=hm;exact⟨o,es,ep,k _ o (yb1 hL) ho,r⟩
 .refine(I.hok b u e).stay (λc v hc q=>k c v ?_ q) (λ_ q=>q) λ_ _ q=>q
  rcases hc with z|z
  .rw[z];exact nit b u e
  .exact nit c _ z
theorem Inv.tok(I:Inv X pins σ H s)(t:Nat):Inv X pins σ H { s with toks:=t }:=I.un (h':=s.heap) (t':=t) Un.refl I.hok
theorem Inv.kept{t':Nat}(I:Inv X pins σ H s)(k:∀b u,s.heap.get? b=some u->h'.get? b=some u):Inv X pins σ H { s with heap:=h',toks:=t' }:=I.un (Un.kept k) (I.hok.kept k)
theorem Inv.laid{a:Addr}{o:HO}{t':Nat}(I:Inv X pins σ H s)(k:∀b u,s.heap.get? b=some u->h'.get? b=some u)(hp:s.heap.objs.size<=a)(new:BK X.prog X.w (upd H a o) h' a o) :
  Inv X pins σ (upd H a o) { s with heap:=h',toks:=t' }:=I.un (Un.laid k hp (I.hok.fresh hp)) (I.hok.laid k hp new)
theorem Inv.write{x e:Addr}{o:HO}{t':Nat}(I:Inv X pins σ H s)(mu:LH (H x))(he:e=x\/H e=some (.own x))(k:∀b u,b≠e->s.heap.get? b=some u->h'.get? b=some u)(heo:∃u,h'.get? e=some u)
  (new:BK X.prog X.w (upd H x o) h' x o):Inv X pins σ (upd H x o) { s with heap:=h',toks:=t' }:=I.un (Un.write mu he k heo) (I.hok.write mu he k heo new)
theorem Inv.pins_of{pins':List (Addr×Obj)}(I:Inv X pins σ H s)(h:∀p∈pins',s.heap.get? p.1=some p.2/\H p.1=none/\p.1≠X.env.locals/\p.1∉X.fs/\∀v,p.2.data≠.cell v):Inv X pins' σ H s :=
 ⟨I.ok,I.os,I.bare,I.base,I.loc,I.cell,I.free,I.freeC,λp hp=>(yat.mp hp).elim (λz=>I.pin p (ybd _ z)) (h p),I.hok,I.len⟩
theorem Pp{N:List Str}(hN:N.Nodup){i j:Nat}{x:Str}(a:N[i]?=some x)(b:N[j]?=some x):i=j:=by
 obtain⟨h1,e1⟩:=yac.mp a;obtain⟨h2,e2⟩:=yac.mp b;exact(ye6 hN).mp (e1.trans e2.symm)
theorem Te{M:Model}{A:Around}{E:Value->Shared->Prop}{i:Nat}{x:Str}{v:V}{u:Value}{Q:Unit->Shared->Prop}(I:Inv X pins σ H s)(hN:X.N.Nodup)(hi:X.N[i]?=some x)(hx:FV X.env.scope x)(r:RelV v u)
  (h:∀s',Inv X pins (σ.set i (some v)) H s'->(∃a,Heap.SameBut a s.heap s'.heap/\(a=X.env.locals\/X.env.cells.lookup x=some a))->Q () s') (hf:X.fn x=true\/X.env.scope.names.lookup x=some .local:=by first|exact .inl rfl|exact .inr rfl|assumption):wpAny M A (storeName X.env x u) Q E s:=by
 obtain⟨m,hn,hl⟩:=id I.loc;have hcls:(X.env.scope.kind == .class || (X.env.scope.kind == .module && X.env.locals != X.env.globals))=false:=by rw[I.ok.kind];rfl
 have hiσ:i<σ.length:=by rw[I.len];exact(yac.mp hi).1
 have cne:=I.cne
 have tracked:∀{a:Addr} {h':Heap},(∃o,s.heap.get? a=some o/\H a=none)->Heap.SameBut a s.heap h'->HOk X.prog X.w H h':=λ{a h'} ha hs b ob e=>by
  obtain⟨_,_,hfree⟩:=ha;refine(I.hok b ob e).stay (λc w' hc q=>(hs.2 c ?_).trans q) (λ_ q=>q) λ_ _ q=>q
  rintro rfl
  rcases hc with rfl|hc
  .rw[hfree]at e;cases e
  .rw[hfree]at hc;cases hc
 rcases hx with hk|hk
 .refine wpAny_storeName_local hk hn (λh' hn' hs=>?_) hcls
  obtain⟨oL,_,_,hoL,_⟩:=id hn;refine h _ ⟨I.ok,I.os,I.bare,⟨λb o e n hb hx=>?_,λb o e n hb hx=>?_,I.base.free,λb o e hx=>?_,I.base.tups,I.base.frzs,I.base.tbls⟩,⟨_,hn',λj y v' e1 e2 e3=>?_⟩,λy c e=>?_,I.free,I.freeC,λp hp=>?_,tracked ⟨oL,hoL,I.free⟩ hs,by simpa using I.len⟩ ⟨_,hs,.inl rfl⟩
  .exact(hs.2 b (yau (yam (yah e) I.ok.above))).trans (I.base.keep b o e n hb hx)
  .obtain⟨sl,e1⟩:=I.base.slot b o e n hb hx;exact⟨sl,(hs.2 b (yau (yam (yah e) I.ok.above))).trans e1⟩
  .obtain⟨o',e1⟩:=I.base.there b o e hx;exact⟨o',(hs.2 b (yau (yam (yah e) I.ok.above))).trans e1⟩
  .by_cases hj:j=i
   .subst hj;rw[hi]at e1;cases e1;rw[yas hiσ]at e2;cases e2;exact⟨u,r,.inl ⟨hk,by simp⟩⟩
   .rw[yan (yb1 hj)]at e2;obtain⟨u',r',q⟩:=hl j y v' e1 e2 e3;refine⟨u',r',?_⟩
    rcases q with ⟨k,e⟩|⟨k,c,e,z⟩
    .refine .inl ⟨k,?_⟩;have:y≠x:=λe=>hj (Pp hN e1 (e▸hi))
     simp[this,e]
    .exact .inr ⟨k,c,e,z.sameBut hs (cne y c e)⟩
  .obtain⟨w',z⟩:=I.cell y c e;exact⟨w',z.sameBut hs (cne y c e)⟩
  .obtain⟨e,n,ne,nf,d⟩:=I.pin p hp;exact⟨(hs.2 p.1 ne).trans e,n,ne,nf,d⟩
 .have hfn:X.fn x=true:=by
   rcases hf with z|z
   .exact z
   .rw[z]at hk;cases hk
  obtain⟨c,hc⟩:=I.ok.has x (.inl hk);obtain⟨w',z⟩:=I.cell x c hc;refine wpAny_storeName_cell I.ok.kind hk hc z (λh' hc' hs=>?_)
  obtain⟨oc,hoc,hocd⟩:=id z;refine h { s with heap:=h' } ⟨I.ok,I.os,I.bare,⟨λb o e n hb hx=>?_,λb o e n hb hx=>?_,I.base.free,λb o e hx=>?_,I.base.tups,I.base.frzs,I.base.tbls⟩,⟨m,hn.sameBut hs (yb1 (cne x c hc)),λj y v' e1 e2 e3=>?_⟩,λy c' e=>?_,I.free,I.freeC,λp hp=>?_,tracked ⟨oc,hoc,I.freeC x c hc⟩ hs,by simpa using I.len⟩ ⟨c,hs,.inr hc⟩
  .exact(hs.2 b (yau (yam (yah e) (I.ok.cab x c hfn hc)))).trans (I.base.keep b o e n hb hx)
  .obtain⟨sl,e1⟩:=I.base.slot b o e n hb hx;exact⟨sl,(hs.2 b (yau (yam (yah e) (I.ok.cab x c hfn hc)))).trans e1⟩
  .obtain⟨o',e1⟩:=I.base.there b o e hx;exact⟨o',(hs.2 b (yau (yam (yah e) (I.ok.cab x c hfn hc)))).trans e1⟩
  .by_cases hj:j=i
   .subst hj;rw[hi]at e1;cases e1;rw[yas hiσ]at e2;cases e2;exact⟨u,r,.inr ⟨.inl hk,c,hc,hc'⟩⟩
   .rw[yan (yb1 hj)]at e2;obtain⟨u',r',q⟩:=hl j y v' e1 e2 e3;refine⟨u',r',?_⟩
    rcases q with q|⟨k,c',e,z'⟩
    .exact .inl q
    .refine .inr ⟨k,c',e,z'.sameBut hs ?_⟩;rintro rfl;exact hj (Pp hN e1 (I.ok.inj _ _ _ e hc▸hi))
  .by_cases hcc:c'=c
   .subst hcc;exact⟨_,hc'⟩
   .obtain⟨w2,z2⟩:=I.cell y c' e;exact⟨w2,z2.sameBut hs hcc⟩
  .obtain⟨e,n,ne,nf,d⟩:=I.pin p hp;refine⟨(hs.2 p.1 ?_).trans e,n,ne,nf,d⟩;intro q;rw[q,hoc]at e;have q':oc=p.2:=ya9 e;exact d w' (by rw[<- q'];exact hocd)
theorem L8{M:Model}{A:Around}{E:Value->Shared->Prop}{i:Nat}{x:Str}{v:V}{u:Value}{Q:Unit->Shared->Prop}(I:Inv X pins σ H s)(hN:X.N.Nodup)(hi:X.N[i]?=some x)(hx:FV X.env.scope x)(r:RelV v u)
  (h:∀s',Inv X pins (σ.set i (some v)) H s'->Q () s') (hf:X.fn x=true\/X.env.scope.names.lookup x=some .local:=by first|exact .inl rfl|exact .inr rfl|assumption):wpAny M A (storeName X.env x u) Q E s :=
 Te I hN hi hx r (λs' I' _=>h s' I') hf
theorem Inv.call'{s':Shared}{ch:List Addr}(I:Inv X pins σ H s)(ho:s'.os=s.os)(u:Un (Az X.stack) ch H H' s.heap s'.heap)(hok:HOk X.prog X.w H' s'.heap)(hg:AllBare s'.gens)
  (hch:∀b∈ch,(b∈X.ex\/X.s₀.heap.objs.size<=b)/\b≠X.env.locals/\(∀x c,X.env.cells.lookup x=some c->c≠b)/\∀p∈X.pn++pins,p.1≠b):Inv X pins σ H' s':=by
 obtain⟨h',g',d',t',o'⟩:=s';have e:o'=s.os:=ho;subst e;exact I.call (g':=g') (t':=t') (d':=d') u hok hg hch
end
abbrev XK:=Value->Option Addr->Hp->Prop
abbrev St:=List (Option V)
abbrev VK:=V->Hp->Prop
abbrev TE:=St->Hp->VK->Prop
abbrev TT:=St->Hp->(Bool->Hp->Prop)->Prop
abbrev TA:=St->Hp->(List V->Hp->Prop)->Prop
structure Ends where
 nx:St->Hp->Prop
 rt:VK
 bk:St->Hp->Prop:=λ_ _=>False
 ct:St->Hp->Prop:=λ_ _=>False
abbrev TS:=Ends->St->Hp->Prop
def EP(X:Cx)(pins:List (Addr×Obj))(σ:St)(Q:VK)(u:Value)(s':Shared):Prop:=∃v H',Inv X pins σ H' s'/\RelV v u/\Q v H'
def TP(X:Cx)(pins:List (Addr×Obj))(σ:St)(Q:Bool->Hp->Prop)(b:Bool)(s':Shared):Prop:=∃H',Inv X pins σ H' s'/\Q b H'
def AP(X:Cx)(pins:List (Addr×Obj))(σ:St)(Q:List V->Hp->Prop)(us:List Value)(s':Shared):Prop:=∃vs H',Inv X pins σ H' s'/\A9 vs us/\Q vs H'
def SP(X:Cx)(pins:List (Addr×Obj))(D:Ends)(f:Flow)(s':Shared):Prop :=
 match f with
 |.next=>∃σ' H',Inv X pins σ' H' s'/\D.nx σ' H'
 |.brk=>∃σ' H',Inv X pins σ' H' s'/\D.bk σ' H'
 |.cont=>∃σ' H',Inv X pins σ' H' s'/\D.ct σ' H'
 |.ret u=>∃v σ' H',Inv X pins σ' H' s'/\RelV v u/\D.rt v H'
def PE(X:Cx)(e:Expr)(t:TE):Prop :=
 ∀(pins:List (Addr×Obj)) (s:Shared) (σ:St) (H:Hp) (Q:VK),Inv X pins σ H s->t σ H Q->wpAny (model X.prog X.w) X.A (eval e X.env) (EP X pins σ Q) X.xe s
def PT(X:Cx)(e:Expr)(t:TT):Prop :=
 ∀(pins:List (Addr×Obj)) (s:Shared) (σ:St) (H:Hp) (Q:Bool->Hp->Prop),Inv X pins σ H s->t σ H Q->wpAny (model X.prog X.w) X.A (isTrue e X.env (eval e X.env)) (TP X pins σ Q) X.xe s
def PW(X:Cx)(e:Expr)(t:TT):Prop :=
 ∀(whole:Sem Value) (pins:List (Addr×Obj)) (s:Shared) (σ:St) (H:Hp) (Q:Bool->Hp->Prop),Inv X pins σ H s->t σ H Q->wpAny (model X.prog X.w) X.A (isTrue e X.env whole) (TP X pins σ Q) X.xe s
theorem PW.pt{X:Cx}{e:Expr}{t:TT}(h:PW X e t):PT X e t:=h _
def PA(X:Cx)(es:List Expr)(t:TA):Prop :=
 ∀(pos:Pos) (pins:List (Addr×Obj)) (s:Shared) (σ:St) (H:Hp) (Q:List V->Hp->Prop),Inv X pins σ H s->t σ H Q->wpAny (model X.prog X.w) X.A (spliced (backTo pos (starEach es X.env))) (AP X pins σ Q) X.xe s
def PS(X:Cx)(st:Stmt)(t:TS):Prop :=
 ∀(pins:List (Addr×Obj)) (s:Shared) (σ:St) (H:Hp) (D:Ends),Inv X pins σ H s->t D σ H->wpAny (model X.prog X.w) X.A (exec st X.env) (SP X pins D) X.xe s
def BJ(X:Cx)(st:List Stmt)(t:TS):Prop :=
 ∀(pins:List (Addr×Obj)) (s:Shared) (σ:St) (H:Hp) (D:Ends),Inv X pins σ H s->t D σ H->wpAny (model X.prog X.w) X.A (execs st X.env) (SP X pins D) X.xe s
theorem AS{α:Type}{t:Sem α}{Q Q':α->Shared->Prop}{M:Model}{A:Around}{E:Value->Shared->Prop}{s:Shared}(h:wpAny M A t Q E s)(hQ:∀a s,Q a s->Q' a s):wpAny M A t Q' E s:=yed h hQ λ_ _ x=>x
section
variable {X:Cx}
def LV(i:Nat):TE:=λσ H Q=>∃v,σ[i]?=some (some v)/\Q v H
def tC(v:V):TE:=λ_ H Q=>Q v H
theorem Jz{i:Nat}{x:Str}{pos:Pos}(hN:X.N[i]?=some x)(hv:Dc X.env.scope x)(hd:(x == ("__debug__":Str))=false:=by decide)(hcd:(x == ("__classdict__":Str))=false:=by decide):PE X (.Name x pos) (LV i):=by
 intro pins s σ H Q I h;obtain⟨v,e,h⟩:=h;obtain⟨m,hn,hl⟩:=I.loc;obtain⟨u,r,l⟩:=hl i x v hN e hv;have Al:EP X pins σ Q u s:=⟨v,H,I,r,h⟩
 rcases l with ⟨hk,hm⟩|⟨hk,c,hc,hcell⟩
 .exact wpAny_Name (wpAny_loadName_local I.ok.kind hk hn hm Al) hd
 .rcases hk with hk|hk
  .exact wpAny_Name (wpAny_loadName_cell I.ok.kind hk hc hcell Al) hd
  .exact wpAny_Name (wpAny_loadName_free I.ok.kind hk hc hcell Al hcd) hd
theorem Uy{i j pos}:PE X (.Constant (.int i) j pos) (tC (.int i)):=λ_ _ _ H _ I h=>wpAny_Constant_int ⟨.int i,H,I.tok _,⟨_,rfl⟩,h⟩
theorem VC{b j pos}:PE X (.Constant (.bool b) j pos) (tC (.bl b)):=λ_ _ _ H _ I h=>Constant_bool ⟨.bl b,H,I,rfl,h⟩
theorem zlk{j pos}:PE X (.Constant .none j pos) (tC .non):=λ_ _ _ H _ I h=>Constant_none ⟨.non,H,I,rfl,h⟩
theorem Uw{x j pos}:PE X (.Constant (.str x) j pos) (tC (.str x)):=λ_ _ _ H _ I h=>Calls.Constant_str ⟨.str x,H,I.tok _,⟨_,rfl⟩,h⟩
def Gl(X:Cx)(x:Str):Prop:=X.env.kindOf x=some .globalImplicit
theorem JB{E:Value->Shared->Prop}{pins:List (Addr×Obj)}{s:Shared}{σ:St}{H:Hp}{x:Str}{u:Value}{pos:Pos}{Q:Value->Shared->Prop}(I:Inv X pins σ H s)(hg:Gl X x)(hm:X.mg x=some u)(h:Q u s)
  (hd:(x == ("__debug__":Str))=false:=by decide):wpAny (model X.prog X.w) X.A (eval (.Name x pos) X.env) Q E s :=
 Calls.Name_function_global I.ok.kind hg (Calls.loadGlobal_global (by rw[I.ok.glob];exact I.mod.glob.keeps I.bk) hm h) hd
theorem JC{E:Value->Shared->Prop}{pins:List (Addr×Obj)}{s:Shared}{σ:St}{H:Hp}{x:Str}{u:Value}{pos:Pos}{Q:Value->Shared->Prop}(I:Inv X pins σ H s)(hg:Gl X x)(hm:X.mg x=none)(hv:bootBuiltins x=some u)(h:Q u s)
  (hn:x≠"__name__":=by decide) (hd:(x == ("__debug__":Str))=false:=by decide):wpAny (model X.prog X.w) X.A (eval (.Name x pos) X.env) Q E s:=by
 obtain⟨mb,h1,h2⟩:=I.mod.blt;exact Calls.Name_function_global I.ok.kind hg (Calls.loadGlobal_builtin (by rw[I.ok.glob];exact I.mod.glob.keeps I.bk) hm (by rw[I.ok.blt];exact h1.keeps I.bk) ((h2 x hn).trans hv) h) hd
theorem Pk{x:Str}{v:V}{u:Value}{pos:Pos}(hg:Gl X x)(hm:X.mg x=some u)(r:RelV v u)(hd:(x == ("__debug__":Str))=false:=by decide):PE X (.Name x pos) (tC v) :=
 λ_ _ _ H _ I h=>JB I hg hm ⟨v,H,I,r,h⟩ hd
theorem VB{x:Str}{v:V}{u:Value}{pos:Pos}(hg:Gl X x)(hm:X.mg x=none)(hv:bootBuiltins x=some u)(r:RelV v u)(hn:x≠"__name__":=by decide)(hd:(x == ("__debug__":Str))=false:=by decide):PE X (.Name x pos) (tC v) :=
 λ_ _ _ H _ I h=>JC I hg hm hv ⟨v,H,I,r,h⟩ hn hd
variable {a b:Expr}{ta tb:TE}{pos:Pos}
def tB(t:TE):TT:=λσ H Q=>t σ H λx H1=>∃c,x=.bl c/\Q c H1
theorem zl5{e:Expr}{t:TE}(h:PE X e t)(he:∀whole,isTrue e X.env whole=(do let v <- whole;standAt e.pos;holding [v] (truthy v)):=by intro _;rfl):PT X e (tB t):=by
 intro pins s σ H Q I hw;refine isTrue_plain (AS (h pins s σ H _ I hw) λv s1 ⟨x,H1,I1,r1,q1⟩=>?_) (he _)
 obtain⟨d,rfl,q⟩:=q1;cases r1;exact yee ⟨H1,I1,q⟩
variable {tA tB':TT}{rest:List Expr}
def tAnd(t u:TT):TT:=λσ H Q=>t σ H λc H1=>if c=true then u σ H1 Q else Q false H1
def tOr(t u:TT):TT:=λσ H Q=>t σ H λc H1=>if c=true then Q true H1 else u σ H1 Q
def TR(t:TT):TT:=λσ H Q=>t σ H λc H1=>Q (!c) H1
theorem zi7(ha:PT X a tA):PW X (.BoolOp .And [a] pos) tA:=by
 intro wh pins s σ H Q I h;refine isTrue_and (AS (ha pins s σ H Q I h) λc s1 e=>?_)
 cases c with
 |true=>exact isTrue_and_nil e
 |false=>exact e
theorem zl3(ha:PT X a tA):PW X (.BoolOp .Or [a] pos) tA:=by
 intro wh pins s σ H Q I h;refine isTrue_or (AS (ha pins s σ H Q I h) λc s1 e=>?_)
 cases c with
 |false=>exact isTrue_or_nil e
 |true=>exact e
theorem zl4(ha:PT X a tA)(hb:PW X (.BoolOp .And (b::rest) pos) tB'):PW X (.BoolOp .And (a::b::rest) pos) (tAnd tA tB'):=by
 intro wh pins s σ H Q I h;refine isTrue_and (AS (ha pins s σ H _ I h) λc s1 ⟨H1,I1,q1⟩=>?_)
 cases c with
 |true=>exact hb wh pins s1 σ H1 Q I1 q1
 |false=>exact⟨H1,I1,q1⟩
theorem pw_or(ha:PT X a tA)(hb:PW X (.BoolOp .Or (b::rest) pos) tB'):PW X (.BoolOp .Or (a::b::rest) pos) (tOr tA tB'):=by
 intro wh pins s σ H Q I h;refine isTrue_or (AS (ha pins s σ H _ I h) λc s1 ⟨H1,I1,q1⟩=>?_)
 cases c with
 |true=>exact⟨H1,I1,q1⟩
 |false=>exact hb wh pins s1 σ H1 Q I1 q1
theorem zl6(ha:PT X a tA):PT X (.UnaryOp .Not a pos) (TR tA):=by
 intro pins s σ H Q I h;exact isTrue_not (ha pins s σ H (λc H1=>Q (!c) H1) I h)
def tAndV(ta tb:TE):TE:=λσ H Q=>ta σ H λx H1=>∃c,x=.bl c/\if c=true then tb σ H1 Q else Q (.bl false) H1
def tOrV(ta tb:TE):TE:=λσ H Q=>ta σ H λx H1=>∃c,x=.bl c/\if c=true then Q (.bl true) H1 else tb σ H1 Q
def TQ(ta:TE):TE:=λσ H Q=>ta σ H λx H1=>∃c,x=.bl c/\Q (.bl (!c)) H1
theorem zli{op}{t:TE}(h:PE X a t):PE X (.BoolOp op [a] pos) t:=λpins s σ H Q I hw=>BoolOp_one (h pins s σ H Q I hw)
theorem zlm(ha:PE X a ta)(hb:PE X (.BoolOp .And (b::rest) pos) tb):PE X (.BoolOp .And (a::b::rest) pos) (tAndV ta tb):=by
 intro pins s σ H Q I h;refine BoolOp_and (AS (ha pins s σ H _ I h) λv s1 ⟨x,H1,I1,r1,q1⟩=>?_)
 obtain⟨c,rfl,q1⟩:=q1;cases r1;refine yee ?_;cases c with
 |true=>exact hb pins s1 σ H1 Q I1 q1
 |false=>exact⟨.bl false,H1,I1,rfl,q1⟩
theorem pe_or(ha:PE X a ta)(hb:PE X (.BoolOp .Or (b::rest) pos) tb):PE X (.BoolOp .Or (a::b::rest) pos) (tOrV ta tb):=by
 intro pins s σ H Q I h;refine BoolOp_or (AS (ha pins s σ H _ I h) λv s1 ⟨x,H1,I1,r1,q1⟩=>?_)
 obtain⟨c,rfl,q1⟩:=q1;cases r1;refine yee ?_;cases c with
 |false=>exact hb pins s1 σ H1 Q I1 q1
 |true=>exact⟨.bl true,H1,I1,rfl,q1⟩
theorem zlj(ha:PE X a ta):PE X (.UnaryOp .Not a pos) (TQ ta):=by
 intro pins s σ H Q I h;refine UnaryOp_ (AS (ha pins s σ H _ I h) λv s1 ⟨x,H1,I1,r1,q1⟩=>?_)
 obtain⟨c,rfl,q1⟩:=q1;cases r1;exact not_of (yee ⟨.bl (!c),H1,I1,rfl,q1⟩)
def tIf(t:TT)(ta tb:TE):TE:=λσ H Q=>t σ H λc H1=>if c=true then ta σ H1 Q else tb σ H1 Q
theorem zg3{c:Expr}(hc:PT X c tA)(ha:PE X a ta)(hb:PE X b tb):PE X (.IfExp c a b pos) (tIf tA ta tb):=by
 intro pins s σ H Q I h;refine wpAny_IfExp (AS (hc pins s σ H _ I h) λd s1 ⟨H1,I1,q1⟩=>?_)
 cases d with
 |true=>exact ha pins s1 σ H1 Q I1 q1
 |false=>exact hb pins s1 σ H1 Q I1 q1
end
def Ac(K:kA)(H:Hp)(a:Addr)(xs:List V):Prop :=
 Rd H a (.lst xs) \/
  ∃(o:Obj) (its:Array Value) (n:Nat),K.lookup a=some o/\o.cls=.type "list"/\o.dict=none/\o.data=.seq its n/\its.size<=sizeLine/\A9 xs its.toList
def BY(K:kA)(H:Hp)(a:Addr)(xs:List V):Prop :=
 Rd H a (.tup xs) \/
  ∃(o:Obj) (its:Array Value) (n:Nat),K.lookup a=some o/\o.cls=.type "tuple"/\o.data=.seq its n/\its.size<=sizeLine/\A9 xs its.toList
noncomputable def absV:Value->Option V
 |.none=>some .non
 |.bool b=>some (.bl b)
 |.int i _=>some (.int i)
 |.str x _=>some (.str x)
 |.bytes b _=>some (.byt b)
 |.float b _=>some (.flt b)
 |.ref a=>some (.ref a)
 |.type n=>some (.ty n)
 |_=>none
theorem RelV.abs{x:V}{u:Value}(r:RelV x u):absV u=some x:=by
 cases x with
 |non=>cases r;rfl
 |bl _=>cases r;rfl
 |int _=>obtain⟨t,rfl⟩:=r;rfl
 |str _=>obtain⟨t,rfl⟩:=r;rfl
 |byt _=>obtain⟨t,rfl⟩:=r;rfl
 |flt _=>obtain⟨t,rfl⟩:=r;rfl
 |ref _=>cases r;rfl
 |ty _=>cases r;rfl
theorem RelV.inj{x y:V}{u:Value}(r:RelV x u)(q:RelV y u):x=y:=ya9 (r.abs.symm.trans q.abs)
theorem A9.inj:∀{xs ys:List V} {us:List Value},A9 xs us->A9 ys us->xs=ys
 |_,_,_,.nil,.nil=>rfl
 |_,_,_,.cons r t,.cons r' t'=>by rw[r.inj r',A9.inj t t']
section
variable {X:Cx}{pins:List (Addr×Obj)}{σ:St}{H:Hp}{s:Shared}{a:Addr}{xs ys:List V}
theorem Ac.of{K:kA}(h:H a=some (.lst xs)):Ac K H a xs:=.inl (.inl h)
theorem BY.of{K:kA}(h:H a=some (.tup xs)):BY K H a xs:=.inl (.inl h)
theorem Inv.list(I:Inv X pins σ H s)(h:Ac X.K H a xs):∃its:List Value,A9 xs its/\PlainL s.heap a its.toArray/\xs.length<=sizeLine:=by
 rcases h with h|⟨o,its,n,hk,hc,hd,hs,hz,r⟩
 .obtain⟨z,its,n,r,e⟩:=h.ok I.hok;exact⟨its,r,⟨_,n,e,rfl,rfl,rfl⟩,z⟩
 .refine⟨its.toList,r,⟨o,n,I.kIn a o hk,hc,hd,by simpa using hs⟩,?_⟩
  have e:=r.length;simp only[Array.length_toList]at e
  omega
theorem Inv.tuple(I:Inv X pins σ H s)(h:BY X.K H a xs):∃its:List Value,A9 xs its/\IsTup s.heap a its.toArray/\xs.length<=sizeLine:=by
 rcases h with h|⟨o,its,n,hk,hc,hs,hz,r⟩
 .obtain⟨z,its,r,p⟩:=h.ok I.hok;exact⟨its,r,p,z⟩
 .refine⟨its.toList,r,⟨o,I.kIn a o hk,hc,n,by simpa using hs⟩,?_⟩
  have e:=r.length;simp only[Array.length_toList]at e
  omega
theorem Inv.list_inj(I:Inv X pins σ H s)(h:Ac X.K H a xs)(h':Ac X.K H a ys):xs=ys:=by
 obtain⟨its,r,⟨o,n,e,_,_,d⟩,_⟩:=I.list h;obtain⟨its',r',⟨o',n',e',_,_,d'⟩,_⟩:=I.list h';rw[e]at e';cases e';rw[d]at d';injection d' with d1 _
 have:its=its':=by simpa using congrArg Array.toList d1
 subst this;exact r.inj r'
theorem Inv.tuple_inj(I:Inv X pins σ H s)(h:BY X.K H a xs)(h':BY X.K H a ys):xs=ys:=by
 obtain⟨its,r,⟨o,e,_,n,d⟩,_⟩:=I.tuple h;obtain⟨its',r',⟨o',e',_,n',d'⟩,_⟩:=I.tuple h';rw[e]at e';cases e';rw[d]at d';injection d' with d1 _
 have:its=its':=by simpa using congrArg Array.toList d1
 subst this;exact r.inj r'
end
section
variable {X:Cx}{pins:List (Addr×Obj)}{σ:St}{H:Hp}{s:Shared}{E:Value->Shared->Prop}
end
section
variable {X:Cx}{st:Stmt}{rest:List Stmt}{t u:TS}{e:Expr}{te:TE}{pos:Pos}
def TU:TS:=λD σ H=>D.nx σ H
def TM(t u:TS):TS:=λD σ H=>t { D with nx:=u D } σ H
theorem zib:BJ X [] TU:=λ_ _ σ H _ I h=>yef ⟨σ,H,I,h⟩
theorem zfx(h1:PS X st t)(h2:BJ X rest u):BJ X (st::rest) (TM t u):=by
 intro pins s σ H D I h;refine wpAny_execs_cons (AS (h1 pins s σ H { D with nx:=u D } I h) λf s1 q=>?_)
 cases f with
 |next =>
  obtain⟨σ',H',I',q⟩:=q;exact h2 pins s1 σ' H' D I' q
 |ret v=>exact q
 |brk=>exact q
 |cont=>exact q
theorem Uk(h1:PS X st t):BJ X [st] t:=by
 intro pins s σ H D I h;refine wpAny_execs_cons (AS (h1 pins s σ H D I h) λf s1 q=>?_)
 cases f with
 |next=>exact yef q
 |ret v=>exact q
 |brk=>exact q
 |cont=>exact q
def zkb:TS:=λD σ H=>D.bk σ H
def tCont:TS:=λD σ H=>D.ct σ H
theorem zid:PS X (.Pass pos) TU:=λ_ _ σ H _ I h=>wpAny_Pass ⟨σ,H,I,h⟩
theorem zg0:PS X (.Break pos) zkb:=λ_ _ σ H _ I h=>wpAny_Break ⟨σ,H,I,h⟩
theorem zcc:PS X (.Continue pos) tCont:=λ_ _ σ H _ I h=>wpAny_Continue ⟨σ,H,I,h⟩
theorem Inv.quiet{pins:List (Addr×Obj)}{σ:St}{H:Hp}{s:Shared}(I:Inv X pins σ H s):interactive X.env=false:=by simp[interactive,I.ok.kind]
def tDrop(te:TE):TS:=λD σ H=>te σ H λ_ H1=>D.nx σ H1
theorem Ul(he:PE X e te)(hs:swapsWith e none pos.line X.env=pure false:=by rfl):PS X (.Expr e pos) (tDrop te):=by
 intro pins s σ H D I h;exact wpAny_Expr_any (AS (he pins s σ H _ I h) λv s1 ⟨x,H1,I1,r1,q1⟩=>⟨σ,H1,I1,q1⟩) I.quiet hs
def tRet(te:TE):TS:=λD σ H=>te σ H D.rt
theorem zl8(he:PE X e te):PS X (.Return (some e) pos) (tRet te):=by
 intro pins s σ H D I h;exact wpAny_Return_some (AS (he pins s σ H _ I h) λv s1 ⟨x,H1,I1,r1,q1⟩=>⟨x,σ,H1,I1,r1,q1⟩)
def tRetN:TS:=λD _ H=>D.rt .non H
theorem zic:PS X (.Return none pos) tRetN:=λ_ _ σ H _ I h=>wpAny_Return_none ⟨.non,σ,H,I,rfl,h⟩
def tIfS(c:TT)(t u:TS):TS:=λD σ H=>c σ H λb H1=>if b=true then t D σ H1 else u D σ H1
theorem ps_if{c:Expr}{a b:List Stmt}{tc:TT}(hc:PT X c tc)(ha:BJ X a t)(hb:BJ X b u):PS X (.If c a b pos) (tIfS tc t u):=by
 intro pins s σ H D I h;refine wpAny_If (AS (hc pins s σ H _ I h) λd s1 ⟨H1,I1,q1⟩=>?_)
 cases d with
 |true=>exact ha pins s1 σ H1 D I1 q1
 |false=>exact hb pins s1 σ H1 D I1 q1
end
abbrev TG:=V->St->Hp->(St->Hp->Prop)->Prop
abbrev Fy:=List V->St->Hp->(St->Hp->Prop)->Prop
def PG(X:Cx)(target:Expr)(t:TG):Prop :=
 ∀(pins:List (Addr×Obj)) (s:Shared) (σ:St) (H:Hp) (v:V) (u:Value) (Q:St->Hp->Prop),Inv X pins σ H s->RelV v u->t v σ H Q ->
  wpAny (model X.prog X.w) X.A (assign target X.env u) (λ_ s'=>∃σ' H',Inv X pins σ' H' s'/\Q σ' H') X.xe s
def De(X:Cx)(ts:List Expr)(t:Fy):Prop :=
 ∀(pins:List (Addr×Obj)) (s:Shared) (σ:St) (H:Hp) (vs:List V) (us:List Value) (Q:St->Hp->Prop),Inv X pins σ H s->A9 vs us->t vs σ H Q ->
  wpAny (model X.prog X.w) X.A (assignInOrder ((assignEach ts X.env).map (·.2)) us) (λ_ s'=>∃σ' H',Inv X pins σ' H' s'/\Q σ' H') X.xe s
abbrev NV:=V->V->V->Hp->(Hp->Prop)->Prop
def Z1(X:Cx)(t:NV):Prop :=
 ∀(pins:List (Addr×Obj)) (s:Shared) (σ:St) (H:Hp) (o i v:V) (ov iv u:Value) (Q:Hp->Prop),Inv X pins σ H s->RelV o ov->RelV i iv->RelV v u->t o i v H Q ->
  wpAny (model X.prog X.w) X.A (setItem ov iv u) (λ_ s'=>∃H',Inv X pins σ H' s'/\Q H') X.xe s
abbrev NW:=V->V->Hp->VK->Prop
def Z2(X:Cx)(op:Operator)(t:NW):Prop :=
 ∀(pins:List (Addr×Obj)) (s:Shared) (σ:St) (H:Hp) (x y:V) (v u:Value) (Q:VK),Inv X pins σ H s->RelV x v->RelV y u->t x y H Q ->
  wpAny (model X.prog X.w) X.A (inplaceOp op v u) (EP X pins σ Q) X.xe s
section
variable {X:Cx}{pos:Pos}
def JL(i:Nat):TG:=λv σ H Q=>Q (σ.set i (some v)) H
theorem Uv{i:Nat}{x:Str}(hN:X.N.Nodup)(hi:X.N[i]?=some x)(hx:FV X.env.scope x)(hf:X.fn x=true\/X.env.scope.names.lookup x=some .local:=by first|exact .inl rfl|exact .inr rfl|assumption):PG X (.Name x pos) (JL i):=by
 intro pins s σ H v u Q I r h;exact wpAny_assign_Name (L8 I hN hi hx r (λs' I'=>⟨_,H,I',h⟩) hf)
def gNil:Fy:=λvs σ H Q=>vs=[]/\Q σ H
def gCons(t:TG)(u:Fy):Fy:=λvs σ H Q=>∃v r,vs=v::r/\t v σ H λσ' H'=>u r σ' H' Q
theorem zij:De X [] gNil:=by
 intro pins s σ H vs us Q I r h;obtain⟨e,h⟩:=h;subst e;cases r;exact assignInOrder_nil ⟨σ,H,I,h⟩
theorem zg2{e:Expr}{es:List Expr}{t:TG}{u:Fy}(h1:PG X e t)(h2:De X es u)
  (hs:(assignEach (e::es) X.env).map (·.2)=assign e X.env::(assignEach es X.env).map (·.2):=by rfl):De X (e::es) (gCons t u):=by
 intro pins s σ H vs us Q I r h;obtain⟨v,vr,e1,h⟩:=h;subst e1;cases r with
 |cons r rr =>
  rw[hs];refine assignInOrder_cons (AS (h1 pins s σ H _ _ _ I r h) λ_ s1 ⟨σ1,H1,I1,q1⟩=>?_)
  exact h2 pins s1 σ1 H1 _ _ Q I1 rr q1
def YI(K:kA)(n:Nat)(t:Fy):TG:=λv σ H Q=>∃a xs,v=.ref a/\BY K H a xs/\xs.length=n/\t xs σ H Q
theorem zlf{es:List Expr}{k:Nat}{t:Fy}{n:Nat}(hc:X.calm=true)(h:De X es t)
  (hn:(assignEach es X.env).length=n:=by rfl) (hst:(assignEach es X.env).findIdx? (·.1)=none:=by rfl):PG X (.Tuple es k pos) (YI X.K n t):=by
 intro pins s σ H v u Q I r hw;obtain⟨a,xs,e1,hq,hl,hw⟩:=hw;subst e1;cases r;obtain⟨its,rv,ht,hz⟩:=I.tuple hq;refine assign_Tuple_tuple (I.ok.hd hc) ht (by simp[hn,<- hl,rv.length]) hst λh' hx=>?_
 have I1:Inv X pins σ H { s with heap:=h' }:=I.kept (t':=s.toks) λb o e=>hx b o (yau (yah e)) e
 exact h pins _ σ H xs _ Q I1 (by simpa using rv) hw
def gSub(to ti:TE)(t:NV):TG:=λv σ H Q=>to σ H λo H1=>ti σ H1 λi H2=>t o i v H2 λH3=>Q σ H3
theorem zlg{o i:Expr}{to ti:TE}{t:NV}(ho:PE X o to)(hi:PE X i ti)(hs:Z1 X t)
  (ha : ∀ v, assign (.Subscript o i pos) X.env v = (do
   let ov <- holding [v] (eval o X.env);let iv <- holding [v,ov] (eval i X.env)
   standAt pos
   holding [v,ov,iv] (setItem ov iv v)
   release [v,ov,iv] []):=by intro _;rfl):PG X (.Subscript o i pos) (gSub to ti t):=by
 intro pins s σ H v u Q I r h;rw[ha];refine yeg (yeh (AS (ho pins s σ H _ I h) λov s1 ⟨x,H1,I1,r1,q1⟩=>?_))
 refine yeg (yeh (AS (hi pins s1 σ H1 _ I1 q1) λiv s2 ⟨y,H2,I2,r2,q2⟩=>?_))
 refine yeg (wpAny_standAt (yeg (yeh (AS (hs pins s2 σ H2 x y v ov iv u _ I2 r1 r2 r q2) λ_ s3 ⟨H3,I3,q3⟩=>?_))))
 exact wpAny_release ⟨σ,H3,I3,q3⟩
def LZ(te:TE)(g:TG):TS:=λD σ H=>te σ H λx H1=>g x σ H1 D.nx
theorem Um{tg e:Expr}{te:TE}{g:TG}(he:PE X e te)(hg:PG X tg g)(hs:swapsWithSole [tg] e pos.line X.env=pure false:=by rfl)(hw:swappedStores [tg] e X.env=pure none:=by rfl)
  (h1:(assignEach [tg] X.env).map (·.2)=[assign tg X.env]:=by rfl):PS X (.Assign [tg] e pos) (LZ te g):=by
 intro pins s σ H D I h;refine wpAny_Assign_stores (AS (he pins s σ H _ I h) λv s1 ⟨x,H1,I1,r1,q1⟩=>?_) hs hw
 rw[h1];exact AS (hg pins s1 σ H1 x v _ I1 r1 q1) λ_ s2 q=>q
theorem Ph{i:Nat}{x:Str}{e:Expr}{te:TE}{pos':Pos}(hN:X.N.Nodup)(hi:X.N[i]?=some x)(hx:FV X.env.scope x)(he:PE X e te)(hs:swapsWith e (some (.Name x pos')) pos.line X.env=pure false:=by rfl)(hf:X.fn x=true\/X.env.scope.names.lookup x=some .local:=by first|exact .inl rfl|exact .inr rfl|assumption) :
  PS X (.Assign [.Name x pos'] e pos) (LZ te (JL i)):=by
 intro pins s σ H D I h;refine wpAny_Assign_Name (AS (he pins s σ H _ I h) λv s1 ⟨y,H1,I1,r1,q1⟩=>?_) hs
 exact L8 I1 hN hi hx r1 (λs2 I2=>⟨_,H1,I2,q1⟩) hf
def tAug(i:Nat)(te:TE)(ti:NW):TS:=λD σ H=>∃x,σ[i]?=some (some x)/\te σ H λy H1=>ti x y H1 λz H2=>D.nx (σ.set i (some z)) H2
theorem zlb{i:Nat}{x:Str}{e:Expr}{te:TE}{op:Operator}{ti:NW}{pos':Pos}(hN:X.N.Nodup)(hi:X.N[i]?=some x)(hx:FV X.env.scope x)(he:PE X e te)(ho:Z2 X op ti)(hf:X.fn x=true\/X.env.scope.names.lookup x=some .local:=by first|exact .inl rfl|exact .inr rfl|assumption) :
  PS X (.AugAssign (.Name x pos') op e pos) (tAug i te ti):=by
 intro pins s σ H D I h;obtain⟨v,e1,h⟩:=h;obtain⟨m,hn,hl⟩:=I.loc;have vis:Dc X.env.scope x:=by rcases hx with k|k;exact .inl k;exact .inr (.inl k)
 obtain⟨u,r,l⟩:=hl i x v hi e1 vis;refine wpAny_AugAssign_Name ?_
 have go:wpAny (model X.prog X.w) X.A (eval e X.env) (λw s₂=>wpAny (model X.prog X.w) X.A (inplaceOp op u w) (λr s₃=>wpAny (model X.prog X.w) X.A (storeName X.env x r) (λ_=>SP X pins D .next) X.xe s₃) X.xe s₂) X.xe s:=by
  refine AS (he pins s σ H _ I h) λw s1 ⟨y,H1,I1,r1,q1⟩=>?_
  refine AS (ho pins s1 σ H1 v y u w _ I1 r r1 q1) λz s2 ⟨zv,H2,I2,r2,q2⟩=>?_
  exact L8 I2 hN hi hx r2 (λs3 I3=>⟨_,H2,I3,q2⟩) hf
 rcases l with ⟨hk,hm⟩|⟨hk,c,hc,hcell⟩
 .exact wpAny_loadName_local I.ok.kind hk hn hm go
 .rcases hk with hk|hk
  .exact wpAny_loadName_cell I.ok.kind hk hc hcell go
  .rcases hx with k|k
   .have:X.env.scope.names.lookup x=some .free:=hk;rw[k]at this;cases this
   .have:X.env.scope.names.lookup x=some .free:=hk;rw[k]at this;cases this
def ipI(f:Int->Int->Int):NW:=λx y H Q=>∃i j,x=.int i/\y=.int j/\Q (.int (f i j)) H
theorem zmu:Z2 X .Add (ipI λi j=>i+j):=by
 intro pins s σ H x y v u Q I r1 r2 h;obtain⟨i,j,e1,e2,q⟩:=h;subst e1;subst e2;obtain⟨t,rfl⟩:=r1;obtain⟨t',rfl⟩:=r2;exact iadd_int ⟨.int _,H,I.tok _,⟨_,rfl⟩,q⟩
end
section
variable {X:Cx}{pos:Pos}
def zk4(c:TT)(tb:TS):TS:=λD σ H=>∃W:Nat->St->Hp->Prop,(∃m,W m σ H)/\∀m σ H,W m σ H ->
 c σ H λb H1=>if b=true then ∃N:St->Hp->Prop,(∀σ' H',N σ' H'->∃m',m'<m/\W m' σ' H')/\tb { D with nx:=N,ct:=N,bk:=D.nx } σ H1 else D.nx σ H1
theorem zfy{c:Expr}{body:List Stmt}{tc:TT}{tb:TS}(hp:PassesOwn (model X.prog X.w) X.A X.env X.xe)(hc:PT X c tc)(hb:BJ X body tb):PS X (.While c body [] pos) (zk4 tc tb):=by
 intro pins s σ H D I h;obtain⟨W,⟨m0,w0⟩,turn⟩:=h;refine wpAny_While (codeAny_whileLoop (λn s'=>∃σ' H',Inv X pins σ' H' s'/\W n σ' H') ?_ m0 ⟨σ,H,I,w0⟩)
 rintro n s1 ⟨σ1,H1,I1,w1⟩;refine yei hp (AS (hc pins s1 σ1 H1 _ I1 (turn n σ1 H1 w1)) λb s2 ⟨H2,I2,q2⟩=>?_)
 cases b with
 |true =>
  obtain⟨N,hN,q2⟩:=q2;rw[if_pos rfl];refine yei hp (AS (hb pins s2 σ1 H2 _ I2 q2) λf s3 q3=>?_)
  cases f with
  |next =>
   obtain⟨σ3,H3,I3,n3⟩:=q3;obtain⟨m',hm,w3⟩:=hN σ3 H3 n3;exact⟨m',hm,σ3,H3,I3,w3⟩
  |cont =>
   obtain⟨σ3,H3,I3,n3⟩:=q3;obtain⟨m',hm,w3⟩:=hN σ3 H3 n3;exact⟨m',hm,σ3,H3,I3,w3⟩
  |brk=>exact q3
  |ret v=>exact q3
 |false =>
  rw[if_neg yb9];exact yef ⟨σ1,H2,I2,q2⟩
end
structure It where
 go:Nat->Hp->Prop
 yld:Nat->Hp->V->Hp->Prop
 stop:Nat->Hp->Prop
def CB(X:Cx)(pins:List (Addr×Obj))(H:Hp)(b:Addr):Prop :=
 H b=none/\b≠X.env.locals/\b∉X.fs/\(b∈X.ex\/X.s₀.heap.objs.size<=b)/\(∀x c,X.env.cells.lookup x=some c->c≠b)/\∀p∈X.pn++pins,p.1≠b
theorem Inv.fpOk{X:Cx}{pins:List (Addr×Obj)}{σ:St}{H H':Hp}{s:Shared}{b:Addr}(I:Inv X pins σ H s)(hb:s.heap.objs.size<=b)(hn:H' b=none):CB X pins H' b:=by
 refine⟨hn,Nat.ne_of_gt (yam I.lt hb),I.nofs hb,.inr (yap I.sz hb),λx c e z=>?_,λp hp z=>?_⟩
 .obtain⟨v,q⟩:=I.cell x c e;exact absurd (yam q.lt (by rw[z];exact hb)) (yba _)
 .exact absurd (yam (yah (I.pin p hp).1) (by rw[z];exact hb)) (yba _)
structure Turn(P:Program)(w:World)(K:kA)(tg:Expr)(J:It)(fp:List Addr)(it:Addr)(tn:Nat->Heap->Prop):Prop where
 mem:it∈fp
 obj:∀i h,tn i h->∀b∈fp,∃o,h.get? b=some o/\∀v,o.data≠.cell v
 keep:∀i h h',tn i h->(∀b∈fp,∀o,h.get? b=some o->h'.get? b=some o)->tn i h'
 item:∀(X:Cx),X.prog=P->X.w=w->X.K=K->X.calm=true->∀(i:Nat) (pins:List (Addr×Obj)) (s:Shared) (σ:St) (H:Hp) (E:Value->Shared->Prop),Inv X pins σ H s->(∀b∈fp,CB X pins H b)->tn i s.heap->J.go i H ->
  wpAny (model P w) X.A (pyNext (.ref it)) (λr s1=>∃u,r=some u /\
   wpAny (model P w) X.A (letOwnedTupleGo tg (.ref it) u) (λ_ s2=>∃x H',Inv X pins σ H' s2/\RelV x u/\J.yld i H x H'/\tn (i+1) s2.heap/\∀b∈fp,H' b=none) E s1) E s
 done:∀(X:Cx),X.prog=P->X.w=w->X.K=K->X.calm=true->∀(i:Nat) (pins:List (Addr×Obj)) (s:Shared) (σ:St) (H:Hp) (E:Value->Shared->Prop),Inv X pins σ H s->(∀b∈fp,CB X pins H b)->tn i s.heap->J.stop i H ->
  wpAny (model P w) X.A (pyNext (.ref it)) (λr s1=>r=none/\Inv X pins σ H s1) E s
 self:∀(A:Around) (i:Nat) (s:Shared) (Q:Value->Shared->Prop) (E:Value->Shared->Prop),tn i s.heap->Q (.ref it) s->wpAny (model P w) A (pyIter (.ref it)) Q E s
abbrev TI:=St->Hp->(It->Hp->Prop)->Prop
def Z3(X:Cx)(pins:List (Addr×Obj))(σ:St)(tg:Expr)(R:It->Hp->Prop)(itv:Value)(s2:Shared):Prop :=
 ∃(it:Addr) (fp:List Addr) (tn:Nat->Heap->Prop) (J:It) (H':Hp),itv=.ref it/\Inv X pins σ H' s2/\Turn X.prog X.w X.K tg J fp it tn/\tn 0 s2.heap/\(∀b∈fp,CB X pins H' b)/\R J H'
def PI(X:Cx)(tg iter:Expr)(wi:TI):Prop :=
 ∀(pins:List (Addr×Obj)) (s:Shared) (σ:St) (H:Hp) (R:It->Hp->Prop),Inv X pins σ H s->wi σ H R ->
  wpAny (model X.prog X.w) X.A (eval iter X.env) (λv s1=>wpAny (model X.prog X.w) X.A (pyIter v) (Z3 X pins σ tg R) X.xe s1) X.xe s
theorem K5{M:Model}{A:Around}{E:Value->Shared->Prop}{s:Shared}{tg:Expr}{it:Addr}{u:Value}{o:Obj}{n:String}{vs:Array Value}{Q:Unit->Shared->Prop}(ho:s.heap.get? it=some o)(hc:o.cls=.type n)(hd:o.data=.fields vs)
    (hn:["enumerate","zip","dict_itemiterator","dict_reverseitemiterator","odict_iterator","itertools.zip_longest","itertools.pairwise"].contains n=false) (hQ:Q () s):wpAny M A (letOwnedTupleGo tg (.ref it) u) Q E s:=by
  unfold letOwnedTupleGo
  cases tg<;>first
    |exact yej hQ
    |(cases u<;>first
        |exact yej hQ
        | (refine yeg (wpAny_load ho ?_)
           rw[hc,hd];show wpAny M A (if (["enumerate","zip","dict_itemiterator","dict_reverseitemiterator","odict_iterator","itertools.zip_longest","itertools.pairwise"].contains n && vs[0]? == some (rawInt _))=true then _ else _) Q E s
           rw[if_neg (by intro h;rw[hn,ybt]at h;cases h)]
           exact yej hQ))
def Nd(K:kA)(a:Addr):It :=
 ⟨λi H=>∃xs x,Ac K H a xs/\xs[i]?=some x,λi H x H'=>H'=H/\∀xs,Ac K H a xs->xs[i]?=some x,λi H=>∃xs,Ac K H a xs/\xs.length<=i⟩
def Sg(K:kA)(a:Addr):It :=
 ⟨λi H=>∃xs x,BY K H a xs/\xs[i]?=some x,λi H x H'=>H'=H/\∀xs,BY K H a xs->xs[i]?=some x,λi H=>∃xs,BY K H a xs/\xs.length<=i⟩
def Nc(lo:Int)(n:Nat):It:=⟨λi _=>i<n,λi H x H'=>H'=H/\x=.int (lo+i),λi _=>n<=i⟩
theorem zdl{P:Program}{w:World}{K:kA}{tg:Expr}(a it:Addr):Turn P w K tg (Nd K a) [it] it (λi h=>h.IsListIter it a i) where
 mem:=by simp
 obj:=λi h st b hb=>by
  have e:b=it:=by simpa using hb
  subst e;obtain⟨o,e,c,d⟩:=st;exact⟨o,e,λv z=>by rw[d]at z;cases z⟩
 keep:=λi h h' st k=>st.at λo e=>k it (by simp) o e
 item:=by
  intro X hP hw hK hc i pins s σ H E I hf st hg;subst hP hw hK;obtain⟨xs,x,hq,hx⟩:=hg;obtain⟨its,rv,p,hz⟩:=I.list hq;obtain⟨u,hu,ru⟩:=rv.get hx;obtain⟨f0,f1,f2,f3,f4,f5⟩:=hf it (by simp)
  refine wpAny_pyNext_list_item st p.isList (x:=u) (by simpa using hu) λh' st' sb=>?_
  have I1:Inv X pins σ H { s with heap:=h' }:=I.turned (t':=s.toks) (λb o hb e=>(sb.2 b hb).trans e) f0 f1 f3 f4 f5
  obtain⟨o,e,c,d⟩:=id st';exact⟨u,rfl,K5 (s:={ s with heap:=h' }) e c d (by decide) ⟨x,H,I1,ru,⟨rfl,λys hy=>by rw[I.list_inj hy hq];exact hx⟩,st',λb hb=>(hf b hb).1⟩⟩
 done:=by
  intro X hP hw hK hc i pins s σ H E I hf st hg;subst hP hw hK;obtain⟨xs,hq,hx⟩:=hg;obtain⟨its,rv,p,hz⟩:=I.list hq;obtain⟨f0,f1,f2,f3,f4,f5⟩:=hf it (by simp)
  have hl:=rv.length;exact wpAny_pyNext_list_end (I.ok.hd hc) st p.isList (by simp;omega) λh' eb=>⟨rfl,I.turned (t':=s.toks) (λb o hb e=>eb b o hb e) f0 f1 f3 f4 f5⟩
 self:=λ_ _ _ _ _ st h=>wpAny_pyIter_listiter st h
theorem zcp{P:Program}{w:World}{K:kA}{tg:Expr}(a it:Addr):Turn P w K tg (Sg K a) [it] it (λi h=>h.IsTupleIter it a i) where
 mem:=by simp
 obj:=λi h st b hb=>by
  have e:b=it:=by simpa using hb
  subst e;obtain⟨o,e,c,d⟩:=st;exact⟨o,e,λv z=>by rw[d]at z;cases z⟩
 keep:=λi h h' st k=>st.at λo e=>k it (by simp) o e
 item:=by
  intro X hP hw hK hc i pins s σ H E I hf st hg;subst hP hw hK;obtain⟨xs,x,hq,hx⟩:=hg;obtain⟨its,rv,p,hz⟩:=I.tuple hq;obtain⟨u,hu,ru⟩:=rv.get hx;obtain⟨f0,f1,f2,f3,f4,f5⟩:=hf it (by simp)
  refine wpAny_pyNext_tuple_item st (show s.heap.IsTuple a its.toArray from p) (x:=u) (by simpa using hu) λh' st' sb=>?_
  have I1:Inv X pins σ H { s with heap:=h' }:=I.turned (t':=s.toks) (λb o hb e=>(sb.2 b hb).trans e) f0 f1 f3 f4 f5
  obtain⟨o,e,c,d⟩:=id st';exact⟨u,rfl,K5 (s:={ s with heap:=h' }) e c d (by decide) ⟨x,H,I1,ru,⟨rfl,λys hy=>by rw[I.tuple_inj hy hq];exact hx⟩,st',λb hb=>(hf b hb).1⟩⟩
 done:=by
  intro X hP hw hK hc i pins s σ H E I hf st hg;subst hP hw hK;obtain⟨xs,hq,hx⟩:=hg;obtain⟨its,rv,p,hz⟩:=I.tuple hq;obtain⟨f0,f1,f2,f3,f4,f5⟩:=hf it (by simp)
  have hl:=rv.length;exact wpAny_pyNext_tuple_end (I.ok.hd hc) st (show s.heap.IsTuple a its.toArray from p) (by simp;omega) λh' eb=>⟨rfl,I.turned (t':=s.toks) (λb o hb e=>eb b o hb e) f0 f1 f3 f4 f5⟩
 self:=λ_ _ _ _ _ st h=>wpAny_pyIter_tupleiter st h
theorem zcq{P:Program}{w:World}{K:kA}{tg:Expr}(it:Addr)(lo:Int)(n:Nat):Turn P w K tg (Nc lo n) [it] it (λi h=>IsRangeIter h it (lo+(i:Nat) * 1) ((n:Int) - (i:Nat)) 1) where
 mem:=by simp
 obj:=λi h st b hb=>by
  have e:b=it:=by simpa using hb
  subst e
  exact⟨_,st,λv z=>by
   have z':Data.fields _=Data.cell v:=z;cases z'⟩
 keep:=λi h h' st k=>k it (by simp) _ st
 item:=by
  intro X hP hw hK hc i pins s σ H E I hf st hg;subst hP hw hK;obtain⟨f0,f1,f2,f3,f4,f5⟩:=hf it (by simp)
  have W:=Walks.range (prog:=X.prog) (w:=X.w) (I.ok.hd hc) it lo 1 n;refine W.item i s _ _ hg st λv h' tk hv st' kk=>?_
  obtain⟨t,rfl⟩:=hv;have I1:Inv X pins σ H { s with heap:=h',toks:=tk }:=I.turned (λb o hb e=>kk b o (by simpa using hb) e) f0 f1 f3 f4 f5
  refine⟨_,rfl,K5 (s:={ s with heap:=h',toks:=tk }) (n:="range_iterator") st' rfl rfl (by decide) ⟨.int (lo+i),H,I1,⟨t,?_⟩,⟨rfl,rfl⟩,st',λb hb=>(hf b hb).1⟩⟩
  rw[Int.mul_one]
 done:=by
  intro X hP hw hK hc i pins s σ H E I hf st hg;subst hP hw hK;obtain⟨f0,f1,f2,f3,f4,f5⟩:=hf it (by simp)
  exact wpAny_pyNext_range_end (I.ok.hd hc) st (by have:n<=i:=hg;omega) λh' eb=>⟨rfl,I.turned (t':=s.toks) (λb o hb e=>eb b o hb e) f0 f1 f3 f4 f5⟩
 self:=λ_ _ _ _ _ st h=>wpAny_pyIter_rangeiter st h
section
variable {X:Cx}{tg:Expr}
def XZ(K:kA)(tl:TE):TI:=λσ H R=>tl σ H λx H1=>∃a,x=.ref a/\(∃xs,Ac K H1 a xs)/\R (Nd K a) H1
def iTup(K:kA)(tl:TE):TI:=λσ H R=>tl σ H λx H1=>∃a,x=.ref a/\(∃xs,BY K H1 a xs)/\R (Sg K a) H1
theorem zih{l:Expr}{tl:TE}(hl:PE X l tl):PI X tg l (XZ X.K tl):=by
 intro pins s σ H R I h;refine AS (hl pins s σ H _ I h) λv s1 ⟨x,H1,I1,r1,q1⟩=>?_
 obtain⟨a,e,⟨xs,hq⟩,q⟩:=q1;subst e;cases r1;obtain⟨its,rv,p,hz⟩:=I1.list hq;refine yek p.isList ?_;refine⟨s1.heap.objs.size,[s1.heap.objs.size],_,_,H1,rfl,I1.kept (t':=s1.toks) λb o e=>ya8 _ e,zdl a _,⟨_,yao _ rfl,rfl,rfl⟩,λb hb=>?_,q⟩
 have e:b=s1.heap.objs.size:=by simpa using hb
 subst e;exact I1.fpOk (yaf _) (I1.hok.fresh (yaf _))
theorem zld{l:Expr}{tl:TE}(hl:PE X l tl):PI X tg l (iTup X.K tl):=by
 intro pins s σ H R I h;refine AS (hl pins s σ H _ I h) λv s1 ⟨x,H1,I1,r1,q1⟩=>?_
 obtain⟨a,e,⟨xs,hq⟩,q⟩:=q1;subst e;cases r1;obtain⟨its,rv,p,hz⟩:=I1.tuple hq;refine wpAny_pyIter_tuple (show s1.heap.IsTuple a its.toArray from p) ?_;refine⟨s1.heap.objs.size,[s1.heap.objs.size],_,_,H1,rfl,I1.kept (t':=s1.toks) λb o e=>ya8 _ e,zcp a _,⟨_,yao _ rfl,rfl,rfl⟩,λb hb=>?_,q⟩
 have e:b=s1.heap.objs.size:=by simpa using hb
 subst e;exact I1.fpOk (yaf _) (I1.hok.fresh (yaf _))
theorem zfr{pins:List (Addr×Obj)}{σ:St}{H:Hp}{s:Shared}{R:It->Hp->Prop}{E:Value->Shared->Prop}{lo hi:Int}{t u v:Tok}{tk:Nat}(I:Inv X pins σ H s)(h1:-(2 ^ 62)<=lo)(h2:lo<2 ^ 62)(h3:-(2 ^ 62)<=hi)(h4:hi<2 ^ 62)
  (q:R (Nc lo (hi - lo).toNat) H):wpAny (model X.prog X.w) X.A (pyIter (.ref s.heap.objs.size)) (Z3 X pins σ tg R) E { s with heap:=s.heap.push { cls:=.type "range",data:=.fields #[.int lo t,.int hi u,.int 1 v] },toks:=tk }:=by
 refine wpAny_pyIter_range (IsRange.new ..) (small_one h1 h2 h3 h4) ?_;have I1:Inv X pins σ H { s with heap:=s.heap.push { cls:=.type "range",data:=.fields #[.int lo t,.int hi u,.int 1 v] },toks:=tk }:=I.kept λb o e=>ya8 _ e
 refine⟨(s.heap.push { cls:=.type "range",data:=.fields #[.int lo t,.int hi u,.int 1 v] }).objs.size,[(s.heap.push { cls:=.type "range",data:=.fields #[.int lo t,.int hi u,.int 1 v] }).objs.size],_,_,H,rfl,
  I1.kept (t':=tk) λb o e=>ya8 _ e,zcq _ lo (hi - lo).toNat,?_,λb hb=>?_,q⟩
 .have e1:lo+((0:Nat):Int) * 1=lo:=by simp
  have e2:(((hi - lo).toNat:Nat):Int) - ((0:Nat):Int)=Builtin.Range.rangeSize lo hi 1:=by rw[rangeSize_one];split<;>omega
  show IsRangeIter _ _ (lo+((0:Nat):Int) * 1) ((((hi - lo).toNat:Nat):Int) - ((0:Nat):Int)) 1;rw[e1,e2];exact yao _ rfl
 .have e:b=(s.heap.push { cls:=.type "range",data:=.fields #[.int lo t,.int hi u,.int 1 v] }).objs.size:=by simpa using hb
  subst e;exact I1.fpOk (yaf _) (I1.hok.fresh (yaf _))
def iRng1(ta:TA):TI:=λσ H R=>ta σ H λvs H1=>∃j:Int,vs=[.int j]/\-(2 ^ 62)<=j/\j<2 ^ 62/\R (Nc 0 j.toNat) H1
theorem zdv{a:Expr}{ta:TA}{p pos:Pos}(hg:Gl X "range")(hm:X.mg "range"=none)(ha:PA X [a] ta)(hs:starEach [a] X.env=[(false,eval a X.env)]:=by rfl):PI X tg (.Call (.Name "range" p) [a] [] pos) (iRng1 ta):=by
 intro pins s σ H R I h;refine Call_ (JC I hg hm boot_range (yc6 (AS (ha pos pins s σ H _ I h) λus s1 ⟨vs,H1,I1,r1,q1⟩=>?_) hs rfl))
 obtain⟨j,e,q1,q2,q⟩:=q1;subst e;cases r1 with
 |cons r rr =>
  cases rr;obtain⟨t,rfl⟩:=r;exact call_range_1 (zfr I1 (by omega) (by omega) q1 q2 (by simpa using q))
def tFor(wi:TI)(g:TG)(tb:TS):TS:=λD σ H=>wi σ H λJ H1=>∃W:Nat->Nat->St->Hp->Prop,(∃m,W 0 m σ H1)/\∀i m σ H,W i m σ H ->
 (J.stop i H/\D.nx σ H)\/(J.go i H/\∃N:St->Hp->Prop,(∀σ' H',N σ' H'->∃m',m'<m/\W (i+1) m' σ' H')/\∀x H',J.yld i H x H'->g x σ H' λσ2 H2=>tb { D with nx:=N,ct:=N,bk:=D.nx } σ2 H2)
def HV(fp:List Addr)(h:Heap):List (Addr×Obj):=fp.filterMap λb=>(h.get? b).map λo=>(b,o)
theorem Ha{fp:List Addr}{h:Heap}{b:Addr}{o:Obj}(hb:b∈fp)(e:h.get? b=some o):(b,o)∈HV fp h:=yc7.mpr ⟨b,hb,by rw[e];rfl⟩
theorem VO{fp:List Addr}{h:Heap}{p:Addr×Obj}(hp:p∈HV fp h):p.1∈fp/\h.get? p.1=some p.2:=by
 obtain⟨b,hb,e⟩:=yc7.mp hp;cases q:h.get? b with
 |none=>rw[q]at e;cases e
 |some o =>
  rw[q]at e;have e':(b,o)=p:=ya9 e;subst e';exact⟨hb,q⟩
theorem Inv.pinned{pins:List (Addr×Obj)}{σ:St}{H:Hp}{s:Shared}{fp:List Addr}(I:Inv X pins σ H s)(hf:∀b∈fp,CB X pins H b)(ho:∀b∈fp,∃o,s.heap.get? b=some o/\∀v,o.data≠.cell v):Inv X (pins++HV fp s.heap) σ H s :=
 I.pins_of λp hp=>(yat.mp hp).elim (λz=>I.pin p (yak _ z)) λz=>by
  obtain⟨hb,e⟩:=VO z;obtain⟨f0,f1,f2,_⟩:=hf p.1 hb;obtain⟨o,e',d⟩:=ho p.1 hb;rw[e]at e';cases e';exact⟨e,f0,f1,f2,d⟩
theorem Inv.unpinned{pins pl:List (Addr×Obj)}{σ:St}{H:Hp}{s:Shared}(I:Inv X (pins++pl) σ H s):Inv X pins σ H s:=I.pins_of λp hp=>I.pin p (yak _ (ybd _ hp))
theorem zl9{iter:Expr}{body:List Stmt}{wi:TI}{g:TG}{tb:TS}{pos:Pos}(hp:PassesOwn (model X.prog X.w) X.A X.env X.xe)(hc:X.calm=true)(hi:PI X tg iter wi)(hg:PG X tg g)(hb:BJ X body tb)
  (hs:∀x,foldedSetIterable iter X.env x=pure x:=by intro _;rfl):PS X (.For tg iter body [] pos) (tFor wi g tb):=by
 intro pins s σ H D I h;refine wpAny_For (AS (hi pins s σ H _ I h) λv s1 h1=>AS h1 λitv s2 h2=>?_) hs
 obtain⟨it,fp,tn,J,H2,e,I2,T,st2,f2,W,⟨m0,w0⟩,turn⟩:=h2;subst e;have stat:∀{H':Hp},(∀b∈fp,H' b=none)->∀b∈fp,CB X pins H' b:=λhn b hb=>⟨hn b hb,(f2 b hb).2⟩
 refine codeAny_forLoop_any (λn s'=>∃i σ' H',Inv X pins σ' H' s'/\tn i s'.heap/\(∀b∈fp,H' b=none)/\W i n σ' H') ?_ m0 ⟨0,σ,H2,I2,st2,λb hb=>(f2 b hb).1,w0⟩
 rintro n s3 ⟨i,σ3,H3,I3,st3,fr3,w3⟩
 rcases turn i n σ3 H3 w3 with ⟨stop,qn⟩|⟨go,N,hN,step⟩
 .refine yei hp (AS (T.done X rfl rfl rfl hc i pins s3 σ3 H3 X.xe I3 (stat fr3) st3 stop) λr s4 ⟨hr,I4⟩=>?_)
  subst hr;exact yef ⟨σ3,H3,I4,qn⟩
 .refine yei hp (AS (T.item X rfl rfl rfl hc i pins s3 σ3 H3 X.xe I3 (stat fr3) st3 go) λr s4 ⟨u,hr,h4⟩=>?_)
  subst hr;refine yei hp (AS h4 λ_ s5 ⟨x,H5,I5,r5,y5,st5,fr5⟩=>?_)
  have I5':=I5.pinned (stat fr5) (T.obj _ _ st5);refine yei hp (AS (hg _ s5 σ3 H5 x u _ I5' r5 (step x H5 y5)) λ_ s6 ⟨σ6,H6,I6,q6⟩=>?_)
  refine yei hp (AS (hb _ s6 σ6 H6 _ I6 q6) λf s7 q7=>?_)
  have again:∀{σ7:St} {H7:Hp},Inv X (pins++HV fp s5.heap) σ7 H7 s7->N σ7 H7->∃m,m<n/\∃i σ' H',Inv X pins σ' H' s7/\tn i s7.heap/\(∀b∈fp,H' b=none)/\W i m σ' H':=λ{σ7 H7} I7 n7=>by
   obtain⟨m',hm,w7⟩:=hN σ7 H7 n7;refine⟨m',hm,i+1,σ7,H7,I7.unpinned,T.keep _ _ _ st5 λb hb o e=>(I7.pin (b,o) (yak _ (yak _ (Ha hb e)))).1,λb hb=>?_,w7⟩
   obtain⟨o,e,d⟩:=T.obj _ _ st5 b hb;exact(I7.pin (b,o) (yak _ (yak _ (Ha hb e)))).2.1
  cases f with
  |next=>obtain⟨σ7,H7,I7,n7⟩:=q7;exact again I7 n7
  |cont=>obtain⟨σ7,H7,I7,n7⟩:=q7;exact again I7 n7
  |brk=>obtain⟨σ7,H7,I7,q7⟩:=q7;exact⟨σ7,H7,I7.unpinned,q7⟩
  |ret v=>obtain⟨x7,σ7,H7,I7,r7,q7⟩:=q7;exact⟨x7,σ7,H7,I7.unpinned,r7,q7⟩
end
abbrev R2:=V->V->Hp->VK->Prop
def Ad(X:Cx)(f:Value->Value->Sem Value)(r:R2):Prop :=
 ∀(pins:List (Addr×Obj)) (s:Shared) (σ:St) (H:Hp) (x y:V) (v u:Value) (Q:VK),Inv X pins σ H s->RelV x v->RelV y u->r x y H Q ->
  wpAny (model X.prog X.w) X.A (f v u) (EP X pins σ Q) X.xe s
def Kq(X:Cx)(f:Value->Sem Value)(r:V->Hp->VK->Prop):Prop :=
 ∀(pins:List (Addr×Obj)) (s:Shared) (σ:St) (H:Hp) (x:V) (v:Value) (Q:VK),Inv X pins σ H s->RelV x v->r x H Q ->
  wpAny (model X.prog X.w) X.A (f v) (EP X pins σ Q) X.xe s
def B0(X:Cx)(f:Value)(r:List V->Hp->VK->Prop):Prop :=
 ∀(pins:List (Addr×Obj)) (s:Shared) (σ:St) (H:Hp) (xs:List V) (us:List Value) (Q:VK),Inv X pins σ H s->A9 xs us->r xs H Q ->
  wpAny (model X.prog X.w) X.A (call f us) (EP X pins σ Q) X.xe s
def IT(r:R2)(ta tb:TE):TE:=λσ H Q=>ta σ H λx H1=>tb σ H1 λy H2=>r x y H2 Q
def TJ(r:V->Hp->VK->Prop)(ta:TE):TE:=λσ H Q=>ta σ H λx H1=>r x H1 Q
def rI(C:Int->Int->Prop)(g:Int->Int->V):R2:=λx y H Q=>∃i j,x=.int i/\y=.int j/\C i j/\Q (g i j) H
def Fb(g:Int->Int->V):R2:=λx y H Q=>∃i j,x=.int i/\y=.int j/\Q (g i j) H
def rU(g:Int->V):V->Hp->VK->Prop:=λx H Q=>∃i,x=.int i/\Q (g i) H
section
variable {X:Cx}{a b c:Expr}{ta tb tc:TE}{pos:Pos}
theorem SS(ha:PE X a ta)(hb:PE X b tb){pins:List (Addr×Obj)}{s:Shared}{σ:St}{H:Hp}{R:V->V->Hp->Prop}(I:Inv X pins σ H s)
  (h:ta σ H λx H1=>tb σ H1 λy H2=>R x y H2) {Q:Value->Shared->Prop} {f:Value->Value->Sem Value}
  (hf:∀v u s2 x y H2,Inv X pins σ H2 s2->RelV x v->RelV y u->R x y H2->wpAny (model X.prog X.w) X.A (f v u) Q X.xe s2) :
  wpAny (model X.prog X.w) X.A (eval a X.env) (λv s₁=>wpAny (model X.prog X.w) X.A (eval b X.env) (λu s₂=>wpAny (model X.prog X.w) X.A (f v u) Q X.xe s₂) X.xe s₁) X.xe s:=by
 refine AS (ha pins s σ H _ I h) λv s1 ⟨x,H1,I1,r1,q1⟩=>?_
 refine AS (hb pins s1 σ H1 _ I1 q1) λu s2 ⟨y,H2,I2,r2,q2⟩=>?_
 exact hf v u s2 x y H2 I2 r1 r2 q2
theorem pe_op{op:Operator}{r:R2}(ho:Ad X (binaryOp op) r)(ha:PE X a ta)(hb:PE X b tb):PE X (.BinOp a op b pos) (IT r ta tb):=by
 intro pins s σ H Q I h;exact wpAny_BinOp (SS ha hb I h λv u s2 x y H2 I2 rx ry q=>ho pins s2 σ H2 x y v u Q I2 rx ry q)
theorem pe_un{op:UnaryOp}{r:V->Hp->VK->Prop}(ho:Kq X (unaryOp op) r)(ha:PE X a ta):PE X (.UnaryOp op a pos) (TJ r ta):=by
 intro pins s σ H Q I h;exact UnaryOp_ (AS (ha pins s σ H _ I h) λv s1 ⟨x,H1,I1,r1,q1⟩=>ho pins s1 σ H1 x v Q I1 r1 q1)
theorem KE{f:Value->Value->Sem Value}{C:Int->Int->Prop}{g:Int->Int->Int}
  (rule:∀(i j:Int) (t u:Tok) (s:Shared) (Q:Value->Shared->Prop) (E:Value->Shared->Prop),C i j->Q (.int (g i j) s.toks) { s with toks:=s.toks+1 }->wpAny (model X.prog X.w) X.A (f (.int i t) (.int j u)) Q E s) :
  Ad X f (rI C λi j=>.int (g i j)):=by
 intro pins s σ H x y v u Q I rx ry h;obtain⟨i,j,rfl,rfl,hc,q⟩:=h;obtain⟨t,rfl⟩:=rx;obtain⟨t',rfl⟩:=ry;exact rule i j t t' s _ _ hc ⟨.int (g i j),H,I.tok _,⟨_,rfl⟩,q⟩
theorem opI0{f:Value->Value->Sem Value}{g:Int->Int->Int}
  (rule:∀(i j:Int) (t u:Tok) (s:Shared) (Q:Value->Shared->Prop) (E:Value->Shared->Prop),Q (.int (g i j) s.toks) { s with toks:=s.toks+1 }->wpAny (model X.prog X.w) X.A (f (.int i t) (.int j u)) Q E s) :
  Ad X f (Fb λi j=>.int (g i j)):=by
 intro pins s σ H x y v u Q I rx ry h;obtain⟨i,j,rfl,rfl,q⟩:=h;obtain⟨t,rfl⟩:=rx;obtain⟨t',rfl⟩:=ry;exact rule i j t t' s _ _ ⟨.int (g i j),H,I.tok _,⟨_,rfl⟩,q⟩
theorem MM{f:Value->Value->Sem Value}{g:Int->Int->Bool}
  (rule:∀(i j:Int) (t u:Tok) (s:Shared) (Q:Value->Shared->Prop) (E:Value->Shared->Prop),Q (.bool (g i j)) s->wpAny (model X.prog X.w) X.A (f (.int i t) (.int j u)) Q E s) :
  Ad X f (Fb λi j=>.bl (g i j)):=by
 intro pins s σ H x y v u Q I rx ry h;obtain⟨i,j,rfl,rfl,q⟩:=h;obtain⟨t,rfl⟩:=rx;obtain⟨t',rfl⟩:=ry;exact rule i j t t' s _ _ ⟨.bl (g i j),H,I,rfl,q⟩
def CPow(i j:Int):Prop:=0<=j/\j<=1000000/\i.natAbs<2 ^ 64
def Sk(i j:Int):Prop:=(-(2 ^ 64)<i/\i<2 ^ 64)\/(-(2 ^ 64)<j/\j<2 ^ 64)
theorem Sk.ok{i j:Int}(h:Sk i j):IntMulOk i j:=by
 rcases h with ⟨h1,h2⟩|⟨h1,h2⟩
 .exact .of_left (intBits_le_64 h1 h2)
 .exact .of_right (intBits_le_64 h1 h2)
theorem zlu:Ad X (binaryOp .Add) (Fb λi j=>.int (i+j)):=opI0 λ_ _ _ _ _ _ _ q=>add_int q
theorem VG:Ad X (binaryOp .Mult) (rI Sk λi j=>.int (i * j)):=KE λ_ _ _ _ _ _ _ hc q=>mul_int q hc.ok
theorem zis:Ad X (binaryOp .Mod) (rI (λ_ j=>j≠0) λi j=>.int (i.fmod j)):=KE λ_ _ _ _ _ _ _ hc q=>mod_int' hc q
theorem zlq:Ad X (binaryOp .Pow) (rI CPow λi j=>.int (i ^ j.toNat)):=KE λ_ _ _ _ _ _ _ hc q=>pow_int_small hc.1 hc.2.1 hc.2.2 q
theorem unI{f:Value->Sem Value}{g:Int->Int}
  (rule:∀(i:Int) (t:Tok) (s:Shared) (Q:Value->Shared->Prop) (E:Value->Shared->Prop),Q (.int (g i) s.toks) { s with toks:=s.toks+1 }->wpAny (model X.prog X.w) X.A (f (.int i t)) Q E s) :
  Kq X f (rU λi=>.int (g i)):=by
 intro pins s σ H x v Q I rx h;obtain⟨i,rfl,q⟩:=h;obtain⟨t,rfl⟩:=rx;exact rule i t s _ _ ⟨.int (g i),H,I.tok _,⟨_,rfl⟩,q⟩
theorem zk1:Kq X (unaryOp .USub) (rU λi=>.int (-i)):=unI λ_ _ _ _ _ q=>neg_int q
end
section
variable {X:Cx}{a b c:Expr}{ta tb tc:TE}{pos:Pos}
theorem Ka{pins:List (Addr×Obj)}{σ:St}{H:Hp}{s:Shared}{Q:VK}{k k':Bool}(I:Inv X pins σ H s)(q:Q (.bl k) H)(e:k=k'):EP X pins σ Q (.bool k') s:=by
 subst e;exact⟨.bl k,H,I,rfl,q⟩
theorem op_lt:Ad X (compareOp .Lt) (Fb λi j=>.bl (decide (i<j))):=MM λ_ _ _ _ _ _ _ q=>lt_int q
theorem VH:Ad X (compareOp .LtE) (Fb λi j=>.bl (decide (i<=j))):=MM λ_ _ _ _ _ _ _ q=>le_int q
theorem op_gt:Ad X (compareOp .Gt) (Fb λi j=>.bl (decide (j<i))):=MM λ_ _ _ _ _ _ _ q=>gt_int q
theorem op_ge:Ad X (compareOp .GtE) (Fb λi j=>.bl (decide (j<=i))):=MM λ_ _ _ _ _ _ _ q=>ge_int q
theorem zdw:Ad X (compareOp .In) (λx y H Q=>∃i j,x=.str i/\y=.str j/\Q (.bl (!(Builtin.Str.occurrences j i 0 j.length 1).isEmpty)) H):=by
 intro pins s σ H x y v u Q I rx ry h;obtain⟨i,j,rfl,rfl,q⟩:=h;obtain⟨t,rfl⟩:=rx;obtain⟨t',rfl⟩:=ry;exact in_str (Ka I q rfl)
theorem zlr:Ad X (compareOp .Is) (λx y H Q=>y=.non/\Q (.bl (decide (x=.non))) H):=by
 intro pins s σ H x y v u Q I rx ry h;obtain⟨rfl,q⟩:=h;cases ry;refine is_none_gen (Ka I q ?_)
 cases x<;>first
  |(cases rx;rfl)
  |(obtain⟨t,rfl⟩:=rx;rfl)
theorem zio:Ad X (compareOp .IsNot) (λx y H Q=>y=.non/\Q (.bl (!decide (x=.non))) H):=by
 intro pins s σ H x y v u Q I rx ry h;obtain⟨rfl,q⟩:=h;cases ry;refine isnot_none_gen (Ka I q ?_)
 cases x<;>first
  |(cases rx;rfl)
  |(obtain⟨t,rfl⟩:=rx;rfl)
theorem zil{op:CmpOp}{r:R2}(ho:Ad X (compareOp op) r)(ha:PE X a ta)(hb:PE X b tb)(hm:behindInMarks op b=false):PE X (.Compare a [op] [b] pos) (IT r ta tb):=by
 intro pins s σ H Q I h;exact wpAny_Compare1 (SS ha hb I h λv u s2 x y H2 I2 rx ry q=>ho pins s2 σ H2 x y v u Q I2 rx ry q) hm
def TK(t:TE):TT:=λσ H Q=>t σ H λx H'=>∃k,x=.bl k/\Q k H'
theorem zi9{op:CmpOp}{r:R2}(ho:Ad X (compareOp op) r)(ha:PE X a ta)(hb:PE X b tb)(hm:behindInMarks op b=false):PT X (.Compare a [op] [b] pos) (TK (IT r ta tb)):=by
 intro pins s σ H Q I h
 refine wpAny_isTrue_Compare1 (AS (ha pins s σ H _ I h) λv s1 ⟨x,H1,I1,r1,q1⟩=>AS (hb pins s1 σ H1 _ I1 q1) λu s2 ⟨y,H2,I2,r2,q2⟩ =>
  AS (ho pins s2 σ H2 x y v u _ I2 r1 r2 q2) λc s3 ⟨z,H3,I3,r3,k,e,q3⟩=>?_) hm
 subst e;cases r3;exact yee ⟨H3,I3,q3⟩
def Ny(r r':R2)(ta tb tc:TE):TE:=λσ H Q=>ta σ H λx H1=>tb σ H1 λy H2=>r x y H2 λz H3=>∃k,z=.bl k /\
 (if k=true then tc σ H3 λw' H4=>r' y w' H4 Q else Q (.bl false) H3)
theorem zg4{op op':CmpOp}{r r':R2}(ho:Ad X (compareOp op) r)(ho':Ad X (compareOp op') r')(ha:PE X a ta)(hb:PE X b tb)(hc:PE X c tc)
  (hm:lastMarks [op,op'] [b,c]=false:=by with_unfolding_all rfl):PE X (.Compare a [op,op'] [b,c] pos) (Ny r r' ta tb tc):=by
 intro pins s σ H Q I h
 refine Compare_chain (AS (ha pins s σ H _ I h) λv s1 ⟨x,H1,I1,r1,q1⟩=>chain_link (AS (hb pins s1 σ H1 _ I1 q1) λu s2 ⟨y,H2,I2,r2,q2⟩ =>
  AS (ho pins s2 σ H2 x y v u _ I2 r1 r2 q2) λd s3 ⟨z,H3,I3,r3,k,e,q3⟩=>?_)) hm
 subst e;cases r3;refine yee ?_;cases k with
 |false=>exact ite_ff ⟨.bl false,H3,I3,rfl,q3⟩
 |true=>exact ite_tt (chain_last (AS (hc pins s3 σ H3 _ I3 q3) λw' s4 ⟨z',H4,I4,r4,q4⟩=>ho' pins s4 σ H4 y z' u w' Q I4 r2 r4 q4))
theorem zfw{op op':CmpOp}{r r':R2}(ho:Ad X (compareOp op) r)(ho':Ad X (compareOp op') r')(ha:PE X a ta)(hb:PE X b tb)(hc:PE X c tc)
  (hm:lastMarks [op,op'] [b,c]=false:=by with_unfolding_all rfl):PT X (.Compare a [op,op'] [b,c] pos) (TK (Ny r r' ta tb tc)):=by
 intro pins s σ H Q I h
 refine isTrue_chain (AS (ha pins s σ H _ I h) λv s1 ⟨x,H1,I1,r1,q1⟩=>test_link (AS (hb pins s1 σ H1 _ I1 q1) λu s2 ⟨y,H2,I2,r2,q2⟩ =>
  AS (ho pins s2 σ H2 x y v u _ I2 r1 r2 q2) λd s3 ⟨z,H3,I3,r3,k,e,q3⟩=>?_)) hm
 subst e;cases r3;refine yee ?_;cases k with
 |false =>
  obtain⟨k',e',q'⟩:=q3;cases e';exact ite_ff ⟨H3,I3,q'⟩
 |true =>
  refine ite_tt (test_last (AS (hc pins s3 σ H3 _ I3 q3) λw' s4 ⟨z',H4,I4,r4,q4⟩=>AS (ho' pins s4 σ H4 y z' u w' _ I4 r2 r4 q4) λd' s5 ⟨z2,H5,I5,r5,k2,e2,q5⟩=>?_))
  subst e2;cases r5;exact yee ⟨H5,I5,q5⟩
theorem Mg:(sizeLine:Nat)<2 ^ 63:=by rw[yel];decide
theorem zd3:Ad X (binaryOp .Add) (λx y H Q=>∃i j,x=.str i/\y=.str j/\i.length+j.length<=sizeLine/\Q (.str (i++j)) H):=by
 intro pins s σ H x y v u Q I rx ry h;obtain⟨i,j,rfl,rfl,hz,q⟩:=h;obtain⟨t,rfl⟩:=rx;obtain⟨t',rfl⟩:=ry;exact add_str (λt' tk=>⟨.str (i++j),H,I.tok _,⟨_,rfl⟩,q⟩) hz
theorem DP{x:V}{us:List Value}(r:A9 [x] us):∃u,us=[u]/\RelV x u:=by
 cases r with
 |cons r1 r2=>cases r2;exact⟨_,rfl,r1⟩
theorem Jc{x y:V}{us:List Value}(r:A9 [x,y] us):∃u w',us=[u,w']/\RelV x u/\RelV y w':=by
 cases r with
 |cons r1 r2 =>
  cases r2 with
  |cons r3 r4=>cases r4;exact⟨_,_,rfl,r1,r3⟩
theorem zh8:B0 X (.builtin "abs") (λxs H Q=>∃i,xs=[.int i]/\Q (.int (if i<0 then -i else i)) H):=by
 intro pins s σ H xs us Q I r h;obtain⟨i,rfl,q⟩:=h;obtain⟨u,rfl,t,rfl⟩:=DP r;exact call_abs_int λu tk=>⟨.int (if i<0 then -i else i),H,I.tok _,⟨_,rfl⟩,q⟩
theorem zek(hc:X.calm=true):B0 X (.builtin "min") (λxs H Q=>∃i j,xs=[.int i,.int j]/\Q (.int (if j<i then j else i)) H):=by
 intro pins s σ H xs us Q I r h;obtain⟨i,j,rfl,q⟩:=h;obtain⟨u,w',rfl,⟨t,rfl⟩,⟨t',rfl⟩⟩:=Jc r;refine min_two_ints (I.ok.hd hc) λh' tk k=>⟨_,H,I.kept k,?_,q⟩
 by_cases hj:j<i
 .rw[if_pos hj,if_pos hj];exact⟨_,rfl⟩
 .rw[if_neg hj,if_neg hj];exact⟨_,rfl⟩
theorem Yz:B0 X (.type "int") (λxs H Q=>(∃i,xs=[.int i]/\Q (.int i) H)\/∃k,xs=[.bl k]/\Q (.int (if k then 1 else 0)) H):=by
 intro pins s σ H xs us Q I r h
 rcases h with ⟨i,rfl,q⟩|⟨k,rfl,q⟩
 .obtain⟨u,rfl,t,rfl⟩:=DP r;exact call_int_int ⟨.int i,H,I,⟨_,rfl⟩,q⟩
 .obtain⟨u,rfl,r1⟩:=DP r;cases r1;exact call_int_bool ⟨.int (if k then 1 else 0),H,I.tok _,⟨_,rfl⟩,q⟩
theorem zc3:B0 X (.type "str") (λxs H Q=>∃i,xs=[.int i]/\i.natAbs.log2<1920/\Q (.str (toString i)) H):=by
 intro pins s σ H xs us Q I r h;obtain⟨i,rfl,hz,q⟩:=h;obtain⟨u,rfl,t,rfl⟩:=DP r;exact PySem.P.str_of_int hz ⟨.str _,H,I.tok _,⟨_,rfl⟩,q⟩
def LenV(K:kA)(x:V)(H:Hp)(n:Nat):Prop :=
 match x with
 |.str y=>y.length<=sizeLine/\n=y.length
 |.byt y=>y.size<=sizeLine/\n=y.size
 |.ref p=>(∃xs,Ac K H p xs/\n=xs.length)\/∃xs,BY K H p xs/\n=xs.length
 |_=>False
theorem Yy:B0 X (.builtin "len") (λxs H Q=>∃x n,xs=[x]/\LenV X.K x H n/\Q (.int n) H):=by
 intro pins s σ H xs us Q I r h;obtain⟨x,n,rfl,e,q⟩:=h;obtain⟨u,rfl,rx⟩:=DP r;have hl:=Mg;have hs:sizeLine=16777216:=yel;cases x with
 |str y =>
  obtain⟨t,rfl⟩:=rx;obtain⟨hy,e'⟩:y.length<=sizeLine/\n=y.length:=e;subst e';exact len_str (by omega) ⟨.int _,H,I.tok _,⟨_,rfl⟩,q⟩
 |byt y =>
  obtain⟨t,rfl⟩:=rx;obtain⟨hy,e'⟩:y.size<=sizeLine/\n=y.size:=e;subst e';exact PySem.W.len_bytes (by omega) ⟨.int _,H,I.tok _,⟨_,rfl⟩,q⟩
 |ref p =>
  cases rx;have e':(∃xs,Ac X.K H p xs/\n=xs.length)\/∃xs,BY X.K H p xs/\n=xs.length:=e
  rcases e' with ⟨xs,hx,e'⟩|⟨xs,hx,e'⟩
  .subst e';obtain⟨its,r',pl,hz⟩:=I.list hx;have hlen:=r'.length;exact Calls.call_len_list pl.isList (by simp only[yaq];omega) ⟨.int xs.length,H,I.tok _,⟨_,by simp only[yaq];rw[hlen]⟩,q⟩
  .subst e';obtain⟨its,r',pl,hz⟩:=I.tuple hx;have hlen:=r'.length;exact len_tuple pl (by simp only[yaq];omega) ⟨.int xs.length,H,I.tok _,⟨_,by simp only[yaq];rw[hlen]⟩,q⟩
 |_=>exact(show False from e).elim
end
structure ObjM(h:Heap)(x dx C:Addr)(mA:Str->Option Value):Prop where
 obj:h.get? x=some (PySem.W.instObj C dx)
 ns:h.Ns1 dx mA
 ne:dx≠x
theorem ze4{h:Heap}{dx:Addr}{mA:Str->Option Value}(n:h.Ns1 dx mA):∃od,h.get? dx=some od/\∀name,PySem.W.lookIn name od=some (mA name):=by
 obtain⟨o,es,ep,ho,hd,hk,_,hm⟩:=n;refine⟨o,ho,λname=>?_⟩
 have e:=hm name;unfold nsFind findBy at e;rw[<- Array.find?_toList]at e;unfold PySem.W.lookIn;rw[hd];dsimp only;split
 .rename_i y q;rw[q]at e;exact congrArg some e
 .rename_i q;rw[q]at e
  have a:es.toList.any (·.refKey)=false:=by
   rw[List.any_eq_false];intro y hy;obtain⟨z,t,hkey⟩:=hk y (Array.mem_toList_iff.mp hy);simp[DictEntry.refKey,hkey]
  have a':¬ es.toList.any (·.refKey)=true:=by rw[a];exact yb9
  rw[if_neg a'];exact congrArg some e
theorem ObjM.look{h:Heap}{x dx C:Addr}{mA:Str->Option Value}(I:ObjM h x dx C mA):∃od,PySem.W.InstAt h x (PySem.W.instObj C dx) C (some od)/\∀name,PySem.W.lookIn name od=some (mA name) :=
 let ⟨od,ho,hl⟩:=ze4 I.ns
 ⟨od,⟨I.obj,rfl,rfl,ho⟩,hl⟩
section
variable {prog:Program}{w:World}{A:Around}{E:Value->Shared->Prop}{s:Shared}{K:kA}{x dx C f:Addr}{mA:Str->Option Value}{name:Str}{v:Value}
theorem zjo{expr:Bool}{Q:Value->Shared->Prop}(X:K.In s.heap)(I:ObjM s.heap x dx C mA)(hg:PySem.W.plainGet K C name=true)(hh:PySem.W.hasDictIn K C=true)
  (ha:PySem.W.findIn K (.ref C) name=some none) (hv:mA name=some v) (hv':PySem.W.handedIn v=true) (h:Q v { s with toks:=s.toks+1 }) :
  wpAny (model prog w) A (getAttr (.ref x) name expr) Q E s:=by
 obtain⟨od,J,hl⟩:=I.look;exact PySem.W.get_value X J (PySem.W.plainGet_of hg).1 (PySem.W.findObj_own hh ha rfl (by rw[hl,hv])) hv' h
theorem zhn{ns:List Str}{Q:Unit->Shared->Prop}(X:K.In s.heap)(I:ObjM s.heap x dx C mA)
  (hs:PySem.W.findIn K (.ref C) "__setattr__"=some (some (.builtin "object.__setattr__"))) (hp:PySem.W.plainOver K C=true) (ht:PySem.W.takerIn K C name=some none) (hh:PySem.W.hasDictIn K C=true)
  (hw:PySem.Within mA ns) (hsz:ns.length<=sizeLine)
  (h:∀h',ObjM h' x dx C (λy=>if y=name then some v else mA y)->Heap.SameBut dx s.heap h'->Q () { s with heap:=h',toks:=s.toks+2 }) :
  wpAny (model prog w) A (setAttr (.ref x) name v) Q E s:=by
 obtain⟨od,J,hl⟩:=I.look;refine PySem.W.set_plain X J hs (PySem.W.osa_open (s:={ s with toks:=s.toks+1 }) (r:=none) X J hp ht λb=>?_)
 obtain⟨cd,hc,hd'⟩:=PySem.W.any_some hh;have hx:s.heap.get? x=some ⟨.ref C,some dx,.plain,#[]⟩:=I.obj;refine yeg (yej (yeg (yeg (wpAny_loadPart hx (yeg (PySem.W.Looks.here (s:={ s with toks:=s.toks+1 }) (PySem.W.looks_clsIn X hc) ?_))))))
 rw[hd'];refine yej (a:=some dx) (yeg (yej (yeg ?_)));refine wpAny_nsSet1 (s:={ s with toks:=s.toks+1 }) I.ns λh' hn2 hs2=>?_
 obtain⟨oD,esD,epD,hoD,hdD,hcD⟩:=hn2.count (PySem.Within.cons name v hw);refine yeg (wpAny_lookBehind hoD (by rw[hdD];exact pastItsLine_dict (yap hcD (by rw[ya6];omega))) ?_)
 exact yej (h _ ⟨(hs2.2 _ (yb1 I.ne)).trans I.obj,hn2,I.ne⟩ hs2)
theorem zgf{R:Result->Shared->Prop}{vs:List Value}{kw:List (Str×Value)}(X:K.In s.heap)(hm:PySem.W.makesIn K C=true)
  (hi:PySem.W.findIn K (.ref C) "__init__"=some (some (.ref f))) (hf:PySem.W.typeIn K (.ref f)=some (.type "function"))
  (h : codeAny (model prog w) (A.under (.builtin "type.__call__" ⟨.ref C :: vs, kw⟩)) (.call (.ref f) ⟨.ref (s.heap.objs.size + 1) :: vs, kw⟩) (PySem.W.InitBack (s.heap.objs.size + 1) R)
   { s with heap:=(s.heap.push PySem.W.emptyDict).push (PySem.W.instObj C s.heap.objs.size) }) :
  codeAny (model prog w) A (.call (.ref C) ⟨vs,kw⟩) R s:=by
 obtain⟨hh,g,d,t,os⟩:=s;exact PySem.W.make_core (PySem.W.makes_of X hm) (PySem.W.looks_findIn X hi) (λself=>PySem.W.bind_fn X self hf) (.inl rfl) h
end
def C7(f:Str)(v:V):List (Str×V)->List (Str×V)
 |[]=>[(f,v)]
 |(g,x)::r=>if g=f then (g,v)::r else (g,x)::C7 f v r
theorem Wk(f g:Str)(v:V):∀fs:List (Str×V),(C7 f v fs).lookup g=if g=f then some v else fs.lookup g
 |[]=>by
  show List.lookup g [(f,v)]=_
  by_cases h:g=f
  .have hb:(g == f)=true:=beq_iff_eq.mpr h;simp only[List.lookup,hb,if_pos h]
  .have hb:(g == f)=false:=beq_eq_false_iff_ne.mpr h;simp only[List.lookup,hb,if_neg h]
 |(k,x)::r=>by
  have ih:=Wk f g v r;rw[show C7 f v ((k,x)::r)=(if k=f then (k,v)::r else (k,x)::C7 f v r) from rfl]
  by_cases hk:k=f
  .rw[if_pos hk]
   by_cases h:g=k
   .have hb:(g == k)=true:=beq_iff_eq.mpr h;simp only[List.lookup,hb,if_pos (h.trans hk)]
   .have hb:(g == k)=false:=beq_eq_false_iff_ne.mpr h;simp only[List.lookup,hb,if_neg (λe:g=f=>h (e.trans hk.symm))]
  .rw[if_neg hk]
   by_cases h:g=k
   .have hb:(g == k)=true:=beq_iff_eq.mpr h;simp only[List.lookup,hb,if_neg (λe:g=f=>hk (h.symm.trans e))]
   .have hb:(g == k)=false:=beq_eq_false_iff_ne.mpr h;simp only[List.lookup,hb];exact ih
theorem Q0(f:Str)(v:V):∀fs:List (Str×V),f∈(C7 f v fs).map (·.1)/\∀g,g∈fs.map (·.1)->g∈(C7 f v fs).map (·.1)
 |[]=>⟨by simp[C7],λg h=>by simp at h⟩
 |(k,x)::r=>by
  obtain⟨i1,i2⟩:=Q0 f v r;rw[show C7 f v ((k,x)::r)=(if k=f then (k,v)::r else (k,x)::C7 f v r) from rfl]
  by_cases hk:k=f
  .rw[if_pos hk];subst hk;exact⟨by simp,λg h=>by simpa using h⟩
  .rw[if_neg hk];refine⟨?_,λg h=>?_⟩
   .rw[yae];exact ya0 _ i1
   .rw[yae]at h ⊢
    rcases yad.mp h with e|e
    .exact yad.mpr (.inl e)
    .exact ya0 _ (i2 g e)
theorem Wp(f:Str)(v:V):∀fs:List (Str×V),(C7 f v fs).length<=fs.length+1
 |[]=>by simp[C7]
 |(k,x)::r=>by
  have ih:=Wp f v r;rw[show C7 f v ((k,x)::r)=(if k=f then (k,v)::r else (k,x)::C7 f v r) from rfl]
  by_cases hk:k=f
  .rw[if_pos hk,ya6,ya6];omega
  .rw[if_neg hk,ya6,ya6];omega
theorem FP.some_of{v:V}{o:Option Value}(r:FP (some v) o):∃u,o=some u/\RelV v u:=by
 cases o with
 |none=>exact(show False from r).elim
 |some u=>exact⟨u,rfl,r⟩
theorem zed{v:V}{u:Value}(r:RelV v u):PySem.W.handedIn u=true:=by
 cases v with
 |non=>cases (show u=Value.none from r);rfl
 |bl b=>cases (show u=Value.bool b from r);rfl
 |int i=>obtain⟨t,e⟩:=(show ∃t,u=Value.int i t from r);cases e;rfl
 |str x=>obtain⟨t,e⟩:=(show ∃t,u=Value.str x t from r);cases e;rfl
 |byt b=>obtain⟨t,e⟩:=(show ∃t,u=Value.bytes b t from r);cases e;rfl
 |flt b=>obtain⟨t,e⟩:=(show ∃t,u=Value.float b t from r);cases e;rfl
 |ref a=>cases (show u=Value.ref a from r);rfl
 |ty n=>cases (show u=Value.type n from r);rfl
section
variable {P:Program}{w:World}{H H':Hp}{h h':Heap}{a C dx:Addr}{fs fs':List (Str×V)}
theorem Q8(hok:HOk P w H h)(e:H a=some (.ins C dx fs)):∃mA,ObjM h a dx C mA/\(∀f,FP (fs.lookup f) (mA f))/\PySem.Within mA (fs.map (·.1))/\fs.length<=1000/\H dx=some (.own a):=by
 obtain⟨d,z,ne,ob,mA,n,r,q⟩:=(show BK P w H h a (.ins C dx fs) from hok a _ e);exact⟨mA,⟨ob,n,ne⟩,r,q,z,d⟩
end
structure Cls(K:kA)(C:Addr):Prop where
 pg:PySem.W.plainGet K C Str.empty=true
 hd:PySem.W.hasDictIn K C=true
 po:PySem.W.plainOver K C=true
 sa:PySem.W.findIn K (.ref C) "__setattr__"=some (some (.builtin "object.__setattr__"))
theorem Cls.get{K:kA}{C:Addr}(c:Cls K C)(f:Str):PySem.W.plainGet K C f=true:=c.pg
def BM(K:kA)(C:Addr)(f:Str):Prop:=PySem.W.findIn K (.ref C) f=some none
theorem BM.taker{K:kA}{C:Addr}{f:Str}(n:BM K C f):PySem.W.takerIn K C f=some none:=by
 unfold PySem.W.takerIn;rw[show PySem.W.findIn K (.ref C) f=some none from n]
 rfl
structure Meth(K:kA)(C:Addr)(m:Str)(f:Addr):Prop where
 at_:PySem.W.findIn K (.ref C) m=some (some (.ref f))
 fn:PySem.W.isFn K (.ref f)=true
 kp:PySem.W.keepIn K (.ref f)=true
section
variable {X:Cx}{pins:List (Addr×Obj)}{σ:St}{H:Hp}{s:Shared}{a C dx:Addr}{fs:List (Str×V)}{f:Str}{v:V}{A:Around}{E:Value->Shared->Prop}
theorem zd8{b:Bool}{Q:Value->Shared->Prop}(I:Inv X pins σ H s)(e:H a=some (.ins C dx fs))(c:Cls X.K C)(n:BM X.K C f)(l:fs.lookup f=some v)
  (h:∀u s',Inv X pins σ H s'->RelV v u->Q u s'):wpAny (model X.prog X.w) A (getAttr (.ref a) f b) Q E s:=by
 obtain⟨mA,O,r,_,_,_⟩:=Q8 I.hok e;obtain⟨u,hu,ru⟩:=FP.some_of (v:=v) (o:=mA f) (by rw[<- l];exact r f)
 exact zjo I.kIn O (c.get f) c.hd n hu (zed ru) (h u _ (I.tok _) ru)
theorem zcs{y:V}{u:Value}{Q:Unit->Shared->Prop}(I:Inv X pins σ H s)(e:H a=some (.ins C dx fs))(c:Cls X.K C)(n:BM X.K C f)(hl:fs.length<1000)(ry:RelV y u)
  (h:∀s',Inv X pins σ (upd H a (.ins C dx (C7 f y fs))) s'->Q () s'):wpAny (model X.prog X.w) A (setAttr (.ref a) f u) Q E s:=by
 obtain⟨mA,O,r,wi,_,ho⟩:=Q8 I.hok e;have hz:(fs.map (·.1)).length<=sizeLine:=by rw[ya1,yel];omega
 refine zhn I.kIn O c.sa c.po n.taker c.hd wi hz λh' O' sb=>h _ ?_
 have hd:∃o,h'.get? dx=some o:=let ⟨o,_,_,e',_⟩:=O'.ns;⟨o,e'⟩;refine I.write (x:=a) (e:=dx) (by rw[e];exact True.intro) (.inr ho) (λb q hb z=>(sb.2 b hb).trans z) hd ?_
 refine⟨by rw[Ak O.ne];exact ho,?_,O.ne,O'.obj,_,O'.ns,λg=>?_,λg hg=>?_⟩
 .have:=Wp f y fs;omega
 .show FP ((C7 f y fs).lookup g) (if g=f then some u else mA g)
  rw[Wk]
  by_cases q:g=f
  .rw[if_pos q,if_pos q];exact ry
  .rw[if_neg q,if_neg q];exact r g
 .by_cases q:g=f
  .rw[q];exact(Q0 f y fs).1
  .refine(Q0 f y fs).2 g (wi g λz=>hg ?_)
   show(if g=f then some u else mA g)=none
   rw[if_neg q];exact z
theorem Inv.made(I:Inv X pins σ H s):Inv X pins σ (upd (upd H s.heap.objs.size (.own (s.heap.objs.size+1))) (s.heap.objs.size+1) (.ins C s.heap.objs.size []))
  { s with heap:=(s.heap.push PySem.W.emptyDict).push (PySem.W.instObj C s.heap.objs.size) }:=by
 have e1:(s.heap.push PySem.W.emptyDict).get? s.heap.objs.size=some PySem.W.emptyDict:=yao s.heap rfl
 have e2:((s.heap.push PySem.W.emptyDict).push (PySem.W.instObj C s.heap.objs.size)).get? (s.heap.objs.size+1)=some (PySem.W.instObj C s.heap.objs.size):=by
  have:=yao (s.heap.push PySem.W.emptyDict) (o:=PySem.W.instObj C s.heap.objs.size) rfl
  rwa[yc4]at this
 have e3:(s.heap.push PySem.W.emptyDict).Ns s.heap.objs.size (λ_=>none):=⟨PySem.W.emptyDict,#[],_,e1,rfl,(λe he=>absurd he (by simp)),λ_=>rfl⟩
 have I1:=I.laid (a:=s.heap.objs.size) (o:=.own (s.heap.objs.size+1)) (h':=s.heap.push PySem.W.emptyDict) (t':=s.toks) (λb u q=>ya8 _ q) (yaf _) ⟨_,e1⟩
 refine I1.laid (a:=s.heap.objs.size+1) (o:=.ins C s.heap.objs.size []) (t':=s.toks) (λb u q=>ya8 _ q) (Nat.le_of_eq (yc4 _ _)) ?_
 have ne:s.heap.objs.size≠s.heap.objs.size+1:=yau (yc5 _);refine⟨by rw[Ak ne,Bq],ycf _,ne,e2,λ_=>none,(Heap.Ns1.of_empty e3).at λo q=>ya8 _ q,λ_=>True.intro,λy hy=>absurd rfl hy⟩
theorem zju{prog:Program}{w:World}{env:Env}{e:Expr}{f:Str}{pos:Pos}{s:Shared}{Q:Value->Shared->Prop}(hb:attributeBase e f env (eval e env)=eval e env)
  (h:wpAny (model prog w) A (eval e env) (λo s₁=>wpAny (model prog w) A (getAttr o f true) Q E s₁) E s):wpAny (model prog w) A (eval (.Attribute e f pos) env) Q E s :=
 Attribute_any_ h (by rw[arm_eval_Attribute,hb])
end
def tFld(K:kA)(ta:TE)(f:Str):TE:=λσ H Q=>ta σ H λx H1=>∃a C dx fs v,x=.ref a/\H1 a=some (.ins C dx fs)/\Cls K C/\BM K C f/\fs.lookup f=some v/\Q v H1
def sFld(K:kA)(ta tv:TE)(f:Str):TS:=λD σ H=>tv σ H λy H1=>ta σ H1 λx H2=>∃a C dx fs,x=.ref a/\H2 a=some (.ins C dx fs)/\Cls K C/\BM K C f/\fs.length<1000 /\
 D.nx σ (upd H2 a (.ins C dx (C7 f y fs)))
section
variable {X:Cx}{o e value:Expr}{f:Str}{pos pos' tpos:Pos}{ta tv:TE}
theorem Uz(he:PE X e ta)(hb:attributeBase e f X.env (eval e X.env)=eval e X.env):PE X (.Attribute e f pos) (tFld X.K ta f):=by
 intro pins s σ H Q I h;refine zju hb (AS (he pins s σ H _ I h) λu s1 ⟨x,H1,I1,rx,a,C,dx,fs,v,ex,ea,c,n,l,q⟩=>?_)
 subst ex;obtain rfl:u=Value.ref a:=rx;exact zd8 I1 ea c n l λu' s2 I2 ru=>⟨v,H1,I2,ru,q⟩
theorem zla(ha:PE X o ta)(hv:PE X value tv)(hs:swapsWith value (some (.Attribute o f pos')) pos.line X.env=pure false):PS X (.Assign [.Attribute o f pos'] value pos) (sFld X.K ta tv f):=by
 intro pins s σ H D I h;refine plainObj_wpAny_Assign_Attribute (AS (hv pins s σ H _ I h) λu s1 ⟨y,H1,I1,ry,q⟩=>AS (ha pins s1 σ H1 _ I1 q) λov s2 ⟨x,H2,I2,rx,a,C,dx,fs,ex,ea,c,n,l,q2⟩=>?_) hs
 subst ex;obtain rfl:ov=Value.ref a:=rx;exact zcs I2 ea c n l ry λs3 I3=>⟨σ,_,I3,q2⟩
end
section
variable {X:Cx}{pins:List (Addr×Obj)}{σ:St}{H:Hp}{s:Shared}{A:Around}{E:Value->Shared->Prop}{Q:Value->Shared->Prop}{c:Value}{b:Bool}
inductive TyOf(K:kA)(H:Hp):V->Value->Prop where
 |non:TyOf K H .non (.type "NoneType")
 |bl (x:Bool):TyOf K H (.bl x) (.type "bool")
 |int (i:Int):TyOf K H (.int i) (.type "int")
 |str (x:Str):TyOf K H (.str x) (.type "str")
 |flt (x:UInt64):TyOf K H (.flt x) (.type "float")
 |lst {a:Addr} {xs:List V} (e:H a=some (.lst xs)):TyOf K H (.ref a) (.type "list")
 |frz {a:Addr} {o:Obj} {xs:List V} (e:H a=some (.frz o (.lst xs))):TyOf K H (.ref a) (.type "list")
 |tup {a:Addr} {xs:List V} (e:H a=some (.tup xs)):TyOf K H (.ref a) (.type "tuple")
 |dK {a:Addr} {kvs:List (Key×V)} (e:H a=some (.dK kvs)):TyOf K H (.ref a) (.type "dict")
 |dT {a:Addr} {kvs:List (List Key×V)} (e:H a=some (.dT kvs)):TyOf K H (.ref a) (.type "dict")
 |ins {a C dx:Addr} {fs:List (Str×V)} (e:H a=some (.ins C dx fs)) (cl:Cls K C) (ha:PySem.W.findIn K (.ref C) "__class__"=some (some (.builtin "object.__class__")))
   (hn:PySem.W.specialIn K (.builtin "object.__class__") "__get__"=some (some (.builtin "getset_descriptor.__get__"))) (htk:PySem.W.takesIn K (.builtin "object.__class__")=some true)
   (hm:PySem.W.mroIn K C (.type "object")=some true):TyOf K H (.ref a) (.ref C)
theorem XO{x:V}{u t:Value}(I:Inv X pins σ H s)(rx:RelV x u)(ty:TyOf X.K H x t)(e:PySem.W.kitOne X.K t c=some b)(h:∀tk,Q (.bool b) { s with toks:=tk }) :
  wpAny (model X.prog X.w) A (call (.builtin "isinstance") [u,c]) Q E s:=by
 cases ty with
 |non=>cases (show u=Value.none from rx);exact ybb PySem.W.kitx_none I.kIn True.intro e (λz=>nomatch z) h
 |bl y=>cases (show u=Value.bool y from rx);exact ybb PySem.W.kitx_bool I.kIn True.intro e (λz=>nomatch z) h
 |int i=>obtain⟨t,q⟩:=(show ∃t,u=Value.int i t from rx);cases q;exact ybb PySem.W.kitx_int I.kIn True.intro e (λz=>nomatch z) h
 |str y=>obtain⟨t,q⟩:=(show ∃t,u=Value.str y t from rx);cases q;exact ybb PySem.W.kitx_str I.kIn True.intro e (λz=>nomatch z) h
 |flt y=>obtain⟨t,q⟩:=(show ∃t,u=Value.float y t from rx);cases q;exact ybb PySem.W.kitx_float I.kIn True.intro e (λz=>nomatch z) h
 |@lst a xs ea =>
  cases (show u=Value.ref a from rx);obtain⟨_,_,n,_,h1⟩:=(show BK X.prog X.w H s.heap a (.lst xs) from I.hok a _ ea);exact ybb PySem.W.kitx_list I.kIn ⟨_,h1,rfl⟩ e (λz=>nomatch z) h
 |@frz a ob xs ea =>
  cases (show u=Value.ref a from rx);obtain⟨_,_,_,n,_,h1⟩:=(show BK X.prog X.w H s.heap a (.frz ob (.lst xs)) from I.hok a _ ea);exact ybb PySem.W.kitx_list I.kIn ⟨_,h1,rfl⟩ e (λz=>nomatch z) h
 |@tup a xs ea =>
  cases (show u=Value.ref a from rx);obtain⟨_,_,_,p⟩:=(show BK X.prog X.w H s.heap a (.tup xs) from I.hok a _ ea);obtain⟨o,h1,h2,_⟩:=p;exact ybb PySem.W.kitx_tuple I.kIn ⟨o,h1,h2⟩ e (λz=>nomatch z) h
 |@dK a kvs ea =>
  cases (show u=Value.ref a from rx);obtain⟨_,_,vs,_,p⟩:=(show BK X.prog X.w H s.heap a (.dK kvs) from I.hok a _ ea);obtain⟨o,es,ep,h1,h2,_⟩:=p;exact ybb ye3 I.kIn ⟨o,h1,h2.1⟩ e (λz=>nomatch z) h
 |@dT a kvs ea =>
  cases (show u=Value.ref a from rx);obtain⟨_,_,xs,_,o,es,ep,h1,h2,_⟩:=(show BK X.prog X.w H s.heap a (.dT kvs) from I.hok a _ ea);exact ybb ye3 I.kIn ⟨o,h1,h2.1⟩ e (λz=>nomatch z) h
 |@ins a C dx fs ea cl ha hn htk hm =>
  cases (show u=Value.ref a from rx);obtain⟨mA,O,_⟩:=Q8 I.hok ea;obtain⟨od,J,_⟩:=O.look;exact ybb (PySem.W.kitx_own (cl.get _) cl.hd ha hn htk hm) I.kIn J e (λz=>nomatch z) h
end
structure Room(k:Nat)(A:Around):Prop where
 hd:A.handled=none
 dp:A.depth+3 * k+5<recursionLimit
 un:A.units+16 * k+200<cLine
theorem Room.mono{j k:Nat}{A:Around}(r:Room k A)(h:j<=k):Room j A:=⟨r.hd,by have:=r.dp;omega,by have:=r.un;omega⟩
theorem Room.deeper{k:Nat}{A:Around}(r:Room (k+1) A)(env:Env):Room k (A.deeper env) :=
 ⟨r.hd,by have:=r.dp;show A.depth+1+3 * k+5<_;omega,by have:=r.un;show A.units+3+16 * k+200<_;omega⟩
theorem zd5{A:Around}{C:Addr}{us:List Value}{kw:List (Str×Value)}:(A.under (.builtin "type.__call__" ⟨.ref C::us,kw⟩)).depth=A.depth+1:=by
 first|rfl|simp[Around.under,Code.weight,Code.isCreation,Code.isGuard,Code.isCaller,Code.frames,Code.isFrame,guardIds]
theorem zd4{A:Around}{C:Addr}{us:List Value}{kw:List (Str×Value)}:(A.under (.builtin "type.__call__" ⟨.ref C::us,kw⟩)).units=A.units+1:=by
 first|rfl|simp[Around.under,Code.cUnits,Code.frames,Code.isFrame]
theorem Room.make{k:Nat}{A:Around}(r:Room (k+1) A)(C:Addr)(us:List Value)(kw:List (Str×Value)):Room k (A.under (.builtin "type.__call__" ⟨.ref C::us,kw⟩)) :=
 ⟨r.hd,by have:=r.dp;rw[zd5];omega,by have:=r.un;rw[zd4];omega⟩
theorem Room.depth{k:Nat}{A:Around}(r:Room k A):A.depth<recursionLimit:=by have:=r.dp;omega
theorem Room.units{k:Nat}{A:Around}(r:Room k A):A.units+64<cLine:=by have:=r.un;omega
def tNil:TA:=λ_ H Q=>Q [] H
def tCons(ta:TE)(tr:TA):TA:=λσ H Q=>ta σ H λx H1=>tr σ H1 λxs H2=>Q (x::xs) H2
section
variable {X:Cx}{e:Expr}{es:List Expr}{te:TE}{t:TA}{pos:Pos}
theorem DU:PA X [] tNil:=λ_ _ _ _ H Q I h=>Calls.spliced_nil ⟨[],H,I,.nil,h⟩
theorem Cj(ha:PE X e te)(hr:PA X es t)(hs:starEach (e::es) X.env=(false,eval e X.env)::starEach es X.env:=by rfl):PA X (e::es) (tCons te t):=by
 intro pos pins s σ H Q I h;rw[hs];show wpAny _ _ (spliced ((false,eval e X.env)::backTo pos (starEach es X.env))) _ _ s;refine Calls.spliced_cons (AS (ha pins s σ H _ I h) λu s1 ⟨x,H1,I1,r1,q1⟩=>?_)
 exact AS (hr pos pins s1 σ H1 _ I1 q1) λus s2 ⟨xs,H2,I2,r2,q2⟩=>⟨x::xs,H2,I2,.cons r1 r2,q2⟩
def tTup(t:TA):TE:=λσ H Q=>t σ H λxs H1=>xs.length<=sizeLine/\∀p,H1 p=none->Q (.ref p) (upd H1 p (.tup xs))
def tLst(t:TA):TE:=λσ H Q=>t σ H λxs H1=>xs.length<=sizeLine/\∀p,H1 p=none->Q (.ref p) (upd H1 p (.lst xs))
theorem zlh{x1}(h:PA X es t):PE X (.Tuple es x1 pos) (tTup t):=by
 intro pins s σ H Q I hq;refine wpAny_Tuple_spliced (AS (h pos pins s σ H _ I hq) λus s1 ⟨xs,H1,I1,r,z,q⟩=>⟨by rw[<- r.length];exact z,?_⟩)
 have hf:H1 s1.heap.objs.size=none:=I1.hok.fresh (yaf _);refine⟨.ref s1.heap.objs.size,upd H1 s1.heap.objs.size (.tup xs),I1.laid (t':=s1.toks) (λb u e=>ya8 _ e) (yaf _) ?_,rfl,q _ hf⟩
 exact⟨z,us,r,⟨_,yao _ rfl,rfl,_,rfl⟩⟩
theorem zll(h:PA X es t):PE X (.List es pos) (tLst t):=by
 intro pins s σ H Q I hq;refine wpAny_List_spliced (AS (h pos pins s σ H _ I hq) λus s1 ⟨xs,H1,I1,r,z,q⟩=>⟨by rw[<- r.length];exact z,?_⟩)
 have hf:H1 s1.heap.objs.size=none:=I1.hok.fresh (yaf _);refine⟨.ref s1.heap.objs.size,upd H1 s1.heap.objs.size (.lst xs),I1.laid (t':=s1.toks) (λb u e=>ya8 _ e) (yaf _) ?_,rfl,q _ hf⟩
 exact⟨z,us,0,r,yao _ rfl⟩
end
abbrev Sp:=List V->Hp->VK->XK->Prop
abbrev Ek:=List Env->Hp->Shared->XK->Value->Shared->Prop
structure Env0(P:Program)(w:World)(K:kA)(mg:Str->Option Value)(base:Heap)(A:Around)(outer:List Env)(s:Shared)(H:Hp):Prop where
 frames:A.frames=some outer
 mod:Mod K mg base
 bs:∀b o,base.get? b=some o->s.heap.get? b=some o/\H b=none
 bsz:base.objs.size<=s.heap.objs.size
 funs:s.heap.FunFrames base outer
 frf:∀b∈Az outer,H b=none
 hok:HOk P w H s.heap
 bare:AllBare s.gens
def CE(outer:List Env)(P:Program)(w:World)(H:Hp)(s:Shared)(Q:VK)(u:Value)(s':Shared):Prop :=
 ∃v H',s'.os=s.os/\AllBare s'.gens/\Un (Az outer) [] H H' s.heap s'.heap/\HOk P w H' s'.heap/\RelV v u/\Q v H'
def CR(CX:Ek)(outer:List Env)(P:Program)(w:World)(H:Hp)(s:Shared)(Q:VK)(E:XK)(r:Result)(s':Shared):Prop :=
 match r with
 |.ok (.ret u)=>CE outer P w H s Q u s'
 |.ok _=>False
 |.error e=>CX outer H s E e s'
structure FnOk(P:Program)(w:World)(K:kA)(mg:Str->Option Value)(base:Heap)(CX:Ek)(k:Nat)(f:Addr)(fd:FuncData)(ps:List Str)(sp:Sp):Prop where
 len:∀vs H Q E,sp vs H Q E->vs.length=ps.length
 run:∀(A:Around) (outer:List Env) (s:Shared) (H:Hp) (args:Args) (us:List Value) (vs:List V) (Q:VK) (E:XK),Room k A->Env0 P w K mg base A outer s H->BindsTo s fd args (ps.zip us)->A9 vs us->sp vs H Q E ->
  codeAny (model P w) A (.call (.ref f) args) (CR CX outer P w H s Q E) s
theorem Env0.make{P:Program}{w:World}{K:kA}{mg:Str->Option Value}{base:Heap}{A:Around}{outer:List Env}{s:Shared}{H:Hp}(e:Env0 P w K mg base A outer s H)(C:Addr)(us:List Value)(kw:List (Str×Value)) :
  Env0 P w K mg base (A.under (.builtin "type.__call__" ⟨.ref C::us,kw⟩)) outer s H:=⟨by first|exact e.frames|(simpa[Around.under,Code.envs,Code.isFrame,pushEnvs] using e.frames),e.mod,e.bs,e.bsz,e.funs,e.frf,e.hok,e.bare⟩
section
variable {X:Cx}{pins:List (Addr×Obj)}{σ:St}{H:Hp}{s s':Shared}
theorem Inv.env0(I:Inv X pins σ H s):Env0 X.prog X.w X.K X.mg X.base X.A X.stack s H :=
 ⟨I.ok.frames,I.ok.mod,I.bs,yap I.ok.bsz I.sz,I.stack,I.stkFree,I.hok,I.bare⟩
theorem Inv.after{Q:VK}{u:Value}(I:Inv X pins σ H s)(h:CE X.stack X.prog X.w H s Q u s'):EP X pins σ Q u s':=by
 obtain⟨v,H',os,bare,un,hok,r,q⟩:=h;obtain⟨hh,g,d,t,os'⟩:=s';obtain rfl:os'=s.os:=os;exact⟨v,H',I.call (h':=hh) (g':=g) (d':=d) (t':=t) (ch:=[]) un hok bare (λb z=>absurd z (by simp)),r,q⟩
end
def Cq(K:kA)(fd:FuncData)(ps:List Str)(ds:List Value):Prop :=
 ∀(s:Shared) (us:List Value),K.In s.heap->(us++ds).length=ps.length->BindsTo s fd ⟨us,[]⟩ (ps.zip (us++ds))
theorem Cq.all{K:kA}{fd:FuncData}{ps:List Str}(h:∀us:List Value,us.length=ps.length->bindArgs fd ⟨us,[]⟩=pure (ps.zip us)):Cq K fd ps []:=λs us _ hl=>by
 rw[yb4]at hl ⊢;exact .of_eq (h us hl)
section
variable {X:Cx}{CX:Ek}{k:Nat}{f C:Addr}{fd:FuncData}{ps:List Str}{sp:Sp}{dvs:List V}{ds:List Value}{E:XK}{x m:Str}{p pos apos:Pos}{e o:Expr}{es:List Expr}{ta:TE}{t:TA}
structure Mk(K:kA)(C f:Addr):Prop where
 makes:PySem.W.makesIn K C=true
 init:PySem.W.findIn K (.ref C) "__init__"=some (some (.ref f))
 fn:PySem.W.isFn K (.ref f)=true
 kp:PySem.W.keepIn K (.ref C)=true
end
section
variable {X:Cx}{CX:Ek}{k:Nat}{f C:Addr}{fd:FuncData}{ps ks:List Str}{sp:Sp}{E:XK}{x m:Str}{p pos apos kpos:Pos}{e o:Expr}{es:List Expr}{kws:List Keyword}{te ta:TE}{t tk:TA}{nm:Option Str}
variable {g:List Value->List Value->List Value}{gV:List V->List V->List V}
end
structure FnScope(N P:List Str)(sc:Scope):Prop where
 kind:sc.kind=.function
 co:sc.isCoroutine=false
 gen:sc.isGenerator=false
 nd:N.Nodup
 pre:N.take P.length=P
 par:∀x∈P,sc.names.lookup x=some .local\/sc.names.lookup x=some .cell
 nofree:∀y∈sc.names,y.2≠.free
theorem ZJ{kindOf:Str->Option NameKind}{x:Str}:∀{binds:List (Str×Value)} {m:Str->Option Value},(∀v,(x,v)∉binds)->bindL kindOf binds m x=m x
 |[],_,_=>rfl
 |(n,v)::r,m,h=>by
  unfold bindL;rw[ZJ λw hw=>h w (ya0 _ hw)]
  split
  .have:x≠n:=by rintro rfl;exact h v ya3
   simp[this]
  .rfl
theorem ZL{kindOf:Str->Option NameKind}{x:Str}:∀{binds:List (Str×Value)} {m:Str->Option Value},(∀v,(x,v)∉binds)->bindC kindOf binds m x=m x
 |[],_,_=>rfl
 |(n,v)::r,m,h=>by
  unfold bindC;rw[ZL λw hw=>h w (ya0 _ hw)]
  split
  .rfl
  .have:x≠n:=by rintro rfl;exact h v ya3
   simp[this]
theorem ZK{kindOf:Str->Option NameKind}{x:Str}{v:Value}:∀{P:List Str} {vs:List Value} {i:Nat} {m:Str->Option Value},P.Nodup->P[i]?=some x->vs[i]?=some v->kindOf x=some .local ->
  bindL kindOf (P.zip vs) m x=some v
 |[],_,_,_,_,h,_,_=>by simp at h
 |_::_,[],_,_,_,_,h,_=>by simp at h
 |p::P,w::vs,0,m,nd,h1,h2,hk=>by
  simp at h1 h2;subst h1;subst h2;show bindL kindOf ((p,w)::P.zip vs) m p=_;unfold bindL;rw[ZJ λv hv=>(yd4.mp nd).1 (ydu hv).1,if_pos hk]
  simp
 |p::P,w::vs,i+1,m,nd,h1,h2,hk=>by
  show bindL kindOf ((p,w)::P.zip vs) m x=_;unfold bindL;exact ZK (i:=i) (yd4.mp nd).2 (by simpa using h1) (by simpa using h2) hk
theorem ZM{kindOf:Str->Option NameKind}{x:Str}{v:Value}:∀{P:List Str} {vs:List Value} {i:Nat} {m:Str->Option Value},P.Nodup->P[i]?=some x->vs[i]?=some v->kindOf x≠some .local ->
  bindC kindOf (P.zip vs) m x=some v
 |[],_,_,_,_,h,_,_=>by simp at h
 |_::_,[],_,_,_,_,h,_=>by simp at h
 |p::P,w::vs,0,m,nd,h1,h2,hk=>by
  simp at h1 h2;subst h1;subst h2;show bindC kindOf ((p,w)::P.zip vs) m p=_;unfold bindC;rw[ZL λv hv=>(yd4.mp nd).1 (ydu hv).1,if_neg hk]
  simp
 |p::P,w::vs,i+1,m,nd,h1,h2,hk=>by
  show bindC kindOf ((p,w)::P.zip vs) m x=_;unfold bindC;exact ZM (i:=i) (yd4.mp nd).2 (by simpa using h1) (by simpa using h2) hk
def start(N:List Str)(vs:List V):St:=vs.map some++List.replicate (N.length - vs.length) none
noncomputable def ES(CX:Ek)(P:Program)(w:World)(K:kA)(mg:Str->Option Value)(base:Heap)(N:List Str)(qual:Str)(scope:Scope)(f:Addr)(cd:Value)(A:Around)(outer:List Env)(s:Shared)(H:Hp)(E:XK):Cx where
 prog:=P
 w:=w
 K:=K
 mg:=mg
 base:=base
 A:=A.deeper (envOfC qual scope s.heap.objs.size f cd)
 N:=N
 s₀:=s
 H₀:=H
 env:=envOfC qual scope s.heap.objs.size f cd
 outer:=outer
 stack:=envOfC qual scope s.heap.objs.size f cd::outer
 ex:=[]
 calm:=true
 fn:=λ_=>true
 pn:=[]
 xe:=λe s'=>wpAny (model P w) (A.deeper (envOfC qual scope s.heap.objs.size f cd)) (leaving (envOfC qual scope s.heap.objs.size f cd) e) (λ_ s''=>CX outer H s E e s'') (λe' s''=>CX outer H s E e' s'') s'
theorem Yv{sc:Scope}{n:Nat}{x:Str}(h:sc.names.lookup x=some .cell):∃c,(cellsFrom n sc.names []).lookup x=some c:=by
 have q:=ydj sc.names n [] (.inl h);exact yda.mp q
theorem XT{CX:Ek}{P:Program}{w:World}{K:kA}{mg:Str->Option Value}{base:Heap}{N ps:List Str}{qual:Str}{scope:Scope}{f:Addr}{cd:Value}{A:Around}{outer:List Env}{s s1:Shared}{H:Hp}{E:XK}{us:List Value}{vs:List V}
  (S:FnScope N ps scope) (hd:A.handled=none) (e0:Env0 P w K mg base A outer s H) (hl:vs.length=ps.length) (r:A9 vs us)
  (x:InCallC s s.heap.objs.size (bindL (envOfC qual scope s.heap.objs.size f cd).kindOf (ps.zip us) λ_=>none) (cellsFrom (s.heap.objs.size+1) scope.names []) (bindC (envOfC qual scope s.heap.objs.size f cd).kindOf (ps.zip us) λ_=>none) s1) :
  Inv (ES CX P w K mg base N qual scope f cd A outer s H E) [] (start N vs) H s1:=by
 have hpl:ps.length<=N.length:=by have:=congrArg List.length S.pre;rw[ycu]at this;omega
 obtain⟨h1,tk,rfl,hk⟩:=x.done;have noA:∀b:Addr,b∉(ES CX P w K mg base N qual scope f cd A outer s H E).ex:=λb z=>absurd (show b∈([]:List Addr) from z) (by simp)
 refine⟨⟨e0.mod,S.kind,rfl,rfl,yaf _,λy z c h1 h2=>?_,λy hy=>?_,λy c _ h=>?_,λ_=>hd,Around.frames_deeper e0.frames,.inr ⟨rfl,rfl⟩,λb z=>absurd z (noA b),e0.bs,e0.bsz,λb _ _=>noA b,λb z=>absurd z (noA b),e0.funs,e0.frf⟩,
  rfl,e0.bare,Un.kept hk,⟨_,x.toInCall.ns,λi y v h1 h2 h3=>?_⟩,λy c h=>⟨_,x.cell y c h⟩,e0.hok.fresh (yaf _),λy c h=>?_,λp hp=>absurd (show p∈([]:List (Addr×Obj)) from hp) (by simp),e0.hok.kept hk,?_⟩
 .exact name_of_addr x.apart (ybr h1) (ybr h2)
 .have hy:scope.names.lookup y=some .cell\/scope.names.lookup y=some .free:=hy
  rcases hy with hy|hy
  .exact Yv hy
  .exact absurd rfl (S.nofree _ (ybr hy))
 .exact ye5 (x.above y c (ybr h))
 .have hi:i<vs.length:=by
   unfold start at h2
   by_cases hi:i<vs.length
   .exact hi
   .rw[yb0 (by simpa using hi)]at h2
    rw[ydf]at h2;split at h2<;>cases h2
  have ha:vs[i]?=some v:=by
   unfold start at h2;rw[yay (by simpa using hi),yaj]at h2
   cases e:vs[i]? with
   |none=>rw[e]at h2;cases h2
   |some a=>rw[e]at h2;cases h2;rfl
  obtain⟨u,hu,rv⟩:=r.get ha
  have hp:ps[i]?=some y:=by
   rw[<- S.pre,List.getElem?_take_of_lt (by omega)];exact h1
  have ndP:ps.Nodup:=by rw[<- S.pre];exact S.nd.sublist (List.take_sublist _ _)
  refine⟨u,rv,?_⟩
  rcases S.par y (List.mem_of_getElem? hp) with k|k
  .exact .inl ⟨k,ZK ndP hp hu k⟩
  .obtain⟨c,e⟩:=Yv (n:=s.heap.objs.size+1) k;refine .inr ⟨.inl k,c,e,?_⟩;have q:=x.cell y c e;rw[ZM ndP hp hu (by show scope.names.lookup y≠_;rw[k];decide)]at q
   exact q
 .exact e0.hok.fresh (ye5 (x.above y c (ybr h)))
 .unfold start;show _=N.length;rw[yag,ya1,ydr]
  omega
theorem fn_of{CX:Ek}{P:Program}{w:World}{K:kA}{mg:Str->Option Value}{base:Heap}{k:Nat}{f:Addr}{name qual:Str}{params:Arguments}{body:List Stmt}{scope:Scope}{dV kV doc pm cdv ct oc:Value}{an od:Option Addr}
  {osl:Array (Option Value)} {N ps:List Str} {sp:Sp} (lk:K.lookup f=some ⟨oc,od,.func (PySem.W.fnOf name qual params body scope dV kV doc pm an cdv ct),osl⟩) (hcd:PySem.W.codeIn K cdv qual=true) (S:FnScope N ps scope)
  (len:∀vs H Q E,sp vs H Q E->vs.length=ps.length)
  (hbody : ∀ (A : Around) (outer : List Env) (s : Shared) (H : Hp) (vs : List V) (Q : VK) (E : XK), Room k (A.deeper (envOfC qual scope s.heap.objs.size f cdv)) -> sp vs H Q E ->
   ∃t,BJ (ES CX P w K mg base N qual scope f cdv A outer s H E) body t/\t { nx:=λ_ H'=>Q .non H',rt:=Q } (start N vs) H) :
  FnOk P w K mg base CX (k+1) f (PySem.W.fnOf name qual params body scope dV kV doc pm an cdv ct) ps sp:=by
 refine⟨len,λA outer s H args us vs Q E hr e0 hb r hsp=>?_⟩
 have hl:=len _ _ _ _ hsp;have KX:K.In s.heap:=e0.mod.kin.keeps λb o e=>(e0.bs b o e).1
 have AY:s.heap.NoLimit:=e0.mod.nolimit.keeps λb o e=>(e0.bs b o e).1
 have hkind:∀y∈ps.zip us,scope.names.lookup y.1=some .local\/(scope.names.lookup y.1=some .cell/\((cellsFrom (s.heap.objs.size+1) scope.names []).lookup y.1).isSome=true):=λ⟨n,v⟩ hy=>by
  rcases S.par n (ydu hy).1 with q|q
  .exact .inl q
  .exact .inr ⟨q,ydj _ _ _ (.inl q)⟩
 refine codeAny_call_function hr.depth (KX _ _ lk) rfl S.co S.gen rfl (PySem.W.codeRec_of KX hcd) (hb _ _ _ _ ?_);refine wpAny_newFunctionEnv_cells S.kind hkind λenv he s1 x=>?_
 subst he;refine⟨AY.keeps x.toInCall.keep,codeAny_func ?_⟩;obtain⟨t,ht,hq⟩:=hbody A outer s H vs Q E (hr.deeper _) hsp;have I:Inv (ES CX P w K mg base N qual scope f cdv A outer s H E) [] (start N vs) H s1:=XT S hr.hd e0 hl r x;refine yed (ht [] s1 (start N vs) H _ I hq) (λfl s' hs=>?_) λe s' hs=>hs
 have Al:∀{σ':St} {H':Hp} {v:V} {u:Value},Inv (ES CX P w K mg base N qual scope f cdv A outer s H E) [] σ' H' s'->RelV v u->Q v H'->CE outer P w H s Q u s' :=
  λ{σ' H' v u} J rv q=>⟨v,H',J.os,J.bare,J.base,J.hok,rv,q⟩
 cases fl with
 |ret u =>
  obtain⟨v,σ',H',J,rv,q⟩:=hs;exact Al J rv q
 |next =>
  obtain⟨σ',H',J,q⟩:=hs;exact Al (v:=V.non) (u:=Value.none) J rfl q
 |brk =>
  obtain⟨_,_,_,q⟩:=hs;exact False.elim q
 |cont =>
  obtain⟨_,_,_,q⟩:=hs;exact False.elim q
section
variable {X:Cx}{x:Str}{p pos:Pos}{e:Expr}{es:List Expr}{t:TA}{id T:String}{r:List V->Hp->VK->Prop}
def T7(r:List V->Hp->VK->Prop)(t:TA):TE:=λσ H Q=>t σ H λvs H1=>r vs H1 Q
theorem KA(hc:B0 X (.builtin id) r)(hg:Gl X x)(hm:X.mg x=none)(hv:bootBuiltins x=some (.builtin id))(ha:PA X (e::es) t)(hn:x≠"__name__":=by decide)(hdb:(x == ("__debug__":Str))=false:=by decide)
  (he:starEach (e::es) X.env=(false,eval e X.env)::starEach es X.env:=by rfl) (hpl:(backTo pos (starEach es X.env)).any (·.1)=false:=by rfl):PE X (.Call (.Name x p) (e::es) [] pos) (T7 r t):=by
 intro pins s σ H Q I h;refine yem (JC I hg hm hv ?_ hn hdb);exact PyProof.Rows.callWith_builtin1 (AS (ha pos pins s σ H _ I h) λus s1 ⟨vs,H1,I1,r1,q1⟩=>hc pins s1 σ H1 vs us Q I1 r1 q1) he hpl
theorem VA(hc:B0 X (.type T) r)(hg:Gl X x)(hm:X.mg x=none)(hv:bootBuiltins x=some (.type T))(ha:PA X (e::es) t)(hn:x≠"__name__":=by decide)(hdb:(x == ("__debug__":Str))=false:=by decide)
  (he:starEach (e::es) X.env=(false,eval e X.env)::starEach es X.env:=by rfl) (hpl:(backTo pos (starEach es X.env)).any (·.1)=false:=by rfl):PE X (.Call (.Name x p) (e::es) [] pos) (T7 r t):=by
 intro pins s σ H Q I h;refine yem (JC I hg hm hv ?_ hn hdb);exact yc6 (AS (ha pos pins s σ H _ I h) λus s1 ⟨vs,H1,I1,r1,q1⟩=>hc pins s1 σ H1 vs us Q I1 r1 q1) he hpl
end
end L2
namespace HT
open PySem PyProof.Rows
section
open PySem.SeqAt
open PySem.AutoSeq1 (wpAny_loadPart')
open PySem.MeetsSeq PySem.MeetsSeq2 PySem.MeetsSeq3
end
section
variable {prog:Program}{w:World}{A:Around}{E:Value->Shared->Prop}{s:Shared}
noncomputable def sIx(n d:Nat):Option Int->Nat
 |none=>d
 |some v=>if v<0 then (v+(n:Int)).toNat else min v.toNat n
theorem sIx_none(n d:Nat):sIx n d none=d:=rfl
theorem sIx_nat(n d k:Nat):sIx n d (some (k:Int))=min k n:=by
 show(if (k:Int)<0 then ((k:Int)+(n:Int)).toNat else min (k:Int).toNat n)=min k n
 rw[if_neg (by omega),ybi]
end
end HT
namespace L2
open PySem PySem.Spec PyProof.Rows
abbrev TO:=St->Hp->(Option Int->Hp->Prop)->Prop
def PO(X:Cx)(e:Option Expr)(t:TO):Prop :=
 ∀(pins:List (Addr×Obj)) (s:Shared) (σ:St) (H:Hp) (Q:Option Int->Hp->Prop),Inv X pins σ H s->t σ H Q ->
  wpAny (model X.prog X.w) X.A (evalPart e X.env) (λu s'=>∃o H',Inv X pins σ H' s'/\IsPart u o/\Q o H') X.xe s
def zhh:TO:=λ_ H Q=>Q none H
def tPart(t:TE):TO:=λσ H Q=>t σ H λx H1=>∃i,x=.int i/\Q (some i) H1
section
variable {X:Cx}{e:Expr}{te:TE}{lo hi:Option Expr}{tl th:TO}{pos p2:Pos}
theorem zif:PO X none zhh:=by
 intro pins s σ H Q I h;rw[evalPart_none];exact yej ⟨none,H,I,.none,h⟩
theorem zie(h:PE X e te):PO X (some e) (tPart te):=by
 intro pins s σ H Q I hw;rw[evalPart_some];refine AS (h pins s σ H _ I hw) λu s1 ⟨x,H1,I1,r1,q1⟩=>?_
 obtain⟨i,rfl,q⟩:=q1;obtain⟨t,rfl⟩:=r1;exact⟨some i,H1,I1,.int i t,q⟩
def S8(X:Cx)(r:V->Option Int->Option Int->Hp->VK->Prop):Prop :=
 ∀(pins:List (Addr×Obj)) (s:Shared) (σ:St) (H:Hp) (x:V) (v vl vu:Value) (lo hi:Option Int) (sl:Addr) (Q:VK),Inv X pins σ H s->RelV x v->s.heap.IsSliceOf sl vl vu .none->IsPart vl lo->IsPart vu hi->r x lo hi H Q ->
  ∃T id,typeLookup (.type T) "__getitem__"=pure (some (.builtin id))/\s.TypeIs v T/\wpAny (model X.prog X.w) X.A (getItem v (.ref sl)) (EP X pins σ Q) X.xe s
def tSl(r:V->Option Int->Option Int->Hp->VK->Prop)(te:TE)(tl th:TO):TE:=λσ H Q=>te σ H λx H1=>tl σ H1 λl H2=>th σ H2 λu H3=>r x l u H3 Q
theorem Ux{r:V->Option Int->Option Int->Hp->VK->Prop}(hr:S8 X r)(he:PE X e te)(hl:PO X lo tl)(hu:PO X hi th):PE X (.Subscript e (.Slice lo hi none p2) pos) (tSl r te tl th):=by
 intro pins s σ H Q I h;refine Subscript_ (AS (he pins s σ H _ I h) λv s1 ⟨x,H1,I1,r1,q1⟩=>?_)
 refine wpAny_Slice (AS (hl pins s1 σ H1 _ I1 q1) λvl s2 ⟨l,H2,I2,pl,q2⟩=>AS (hu pins s2 σ H2 _ I2 q2) λvu s3 ⟨u,H3,I3,pu,q3⟩=>?_)
 rw[evalPart_none];refine yej ?_;have I4:Inv X pins σ H3 { s3 with heap:=s3.heap.push { cls:=.type "slice",data:=.fields #[vl,vu,.none] } }:=I3.kept (t':=s3.toks) λb ob q=>ya8 _ q
 obtain⟨T,id,hT,ht,hg⟩:=hr pins { s3 with heap:=s3.heap.push { cls:=.type "slice",data:=.fields #[vl,vu,.none] } } σ H3 x v vl vu l u s3.heap.objs.size Q I4 r1 (Heap.IsSliceOf.new ..) pl pu q3
 show wpAny (model X.prog X.w) X.A (subscriptTail e (.Slice lo hi none p2) v (.ref s3.heap.objs.size)) (EP X pins σ Q) X.xe { s3 with heap:=s3.heap.push { cls:=.type "slice",data:=.fields #[vl,vu,.none] } }
 exact tail_any (ops:=[.ref s3.heap.objs.size,v]) ht hT hg (by with_unfolding_all rfl)
def JW(xs:List V)(lo hi:Option Int):List V:=(xs.drop (HT.sIx xs.length 0 lo)).take (HT.sIx xs.length xs.length hi - HT.sIx xs.length 0 lo)
theorem zch(xs:List V)(lo hi:Option Int):(JW xs lo hi).length<=xs.length:=by
 unfold JW;rw[ycu,ycv]
 omega
end
noncomputable def Gd(n:Nat)(i:Int):Option Nat:=if 0<=i then (if i<n then some i.toNat else none) else if -(n:Int)<=i then some (i+n).toNat else none
def Af{α:Type}(xs:List α)(i:Int):Option α:=(Gd xs.length i).bind λj=>xs[j]?
theorem zjg{n:Nat}{i:Int}{j:Nat}(h:Gd n i=some j):seqIndex? i n=some j/\j<n/\-(n:Int)<=i/\i<n:=by
 unfold Gd at h
 by_cases h0:0<=i
 .rw[if_pos h0]at h
  by_cases h1:i<n
  .rw[if_pos h1]at h;have e:i.toNat=j:=ya9 h;exact⟨by rw[seqIndex_of h0 h1,e],by omega,by omega,h1⟩
  .rw[if_neg h1]at h;cases h
 .rw[if_neg h0]at h
  by_cases h1:-(n:Int)<=i
  .rw[if_pos h1]at h;have e:(i+n).toNat=j:=ya9 h;exact⟨by rw[seqIndex_neg (by omega) h1,e],by omega,h1,by omega⟩
  .rw[if_neg h1]at h;cases h
theorem SW{α:Type}{xs:List α}{i:Int}{v:α}(h:Af xs i=some v):∃j,seqIndex? i xs.length=some j/\xs[j]?=some v/\j<xs.length/\-(xs.length:Int)<=i/\i<xs.length:=by
 unfold Af at h;cases e:Gd xs.length i with
 |none=>rw[e]at h;cases h
 |some j =>
  rw[e]at h;obtain⟨h1,h2,h3,h4⟩:=zjg e;exact⟨j,h1,h,h2,h3,h4⟩
theorem NP{α:Type}{xs:List α}{j:Nat}{v:α}(h:xs[j]?=some v):Af xs (j:Int)=some v:=by
 have hj:j<xs.length:=(yac.mp h).1
 have e:Gd xs.length (j:Int)=some j:=by
  unfold Gd;rw[if_pos (by omega),if_pos (by omega)];simp
 unfold Af;rw[e];exact h
def Sd(b:Expr):Prop:=∀o i,subscripted b false o i=operate [o,i] (getItem o i)
def GB(X:Cx)(r:R2):Prop :=
 ∀(value slice:Expr) (pins:List (Addr×Obj)) (s:Shared) (σ:St) (H:Hp) (x y:V) (v u:Value) (Q:VK),Inv X pins σ H s->RelV x v->RelV y u->r x y H Q ->
  subscripted slice false v u=operate [v,u] (getItem v u)->wpAny (model X.prog X.w) X.A (subscriptTail value slice v u) (EP X pins σ Q) X.xe s
def MtR(X:Cx)(id:String)(r:V->List V->Hp->VK->Prop):Prop :=
 ∀(pins:List (Addr×Obj)) (s:Shared) (σ:St) (H:Hp) (x:V) (xs:List V) (v:Value) (us:List Value) (Q:VK),Inv X pins σ H s->RelV x v->A9 xs us->r x xs H Q ->
  wpAny (model X.prog X.w) X.A (call (.builtin id) (v::us)) (EP X pins σ Q) X.xe s
section
variable {X:Cx}{a b:Expr}{ta tb:TE}{pos:Pos}
theorem GB.or{r r':R2}(h:GB X r)(h':GB X r'):GB X (λx y H Q=>r x y H Q\/r' x y H Q):=by
 intro value slice pins s σ H x y v u Q I rx ry q hs
 rcases q with q|q
 .exact h value slice pins s σ H x y v u Q I rx ry q hs
 .exact h' value slice pins s σ H x y v u Q I rx ry q hs
theorem pe_ix{r:R2}(hr:GB X r)(ha:PE X a ta)(hb:PE X b tb)(hs:Sd b):PE X (.Subscript a b pos) (IT r ta tb):=by
 intro pins s σ H Q I h;exact Subscript_ (SS ha hb I h λv u s2 x y H2 I2 rx ry q=>hr a b pins s2 σ H2 x y v u Q I2 rx ry q (hs _ _))
def Ue(K:kA):R2:=λx y H Q=>∃p xs i v,x=.ref p/\y=.int i/\Ac K H p xs/\Af xs i=some v/\Q v H
def Uc(K:kA):R2:=λx y H Q=>∃p xs i v,x=.ref p/\y=.int i/\BY K H p xs/\Af xs i=some v/\Q v H
def Ud:R2:=λx y H Q=>∃z i c,x=.str z/\y=.int i/\z.length<=sizeLine/\Af z.cps.toList i=some c/\Q (.str ⟨#[c]⟩) H
theorem zjf:GB X (Ue X.K):=by
 intro value slice pins s σ H x y v u Q I rx ry h hs;obtain⟨p,xs,i,z,rfl,rfl,hq,he,q⟩:=h;cases rx;obtain⟨t,rfl⟩:=ry;obtain⟨its,r,pl,hz⟩:=I.list hq;obtain⟨j,h1,h2,h3,h4,h5⟩:=SW he;obtain⟨w,ew,rw'⟩:=r.get h2;have hl:=r.length;have hn:=Mg;have Al:EP X pins σ Q w s:=⟨z,H,I,rw',q⟩
 by_cases h0:0<=i
 .have hj:i.toNat=j:=by
   rw[seqIndex_of h0 h5]at h1;exact ya9 h1
  exact item_listR pl.isList h0 (by omega) (by rw[hj];simpa using ew) Al hs
 .have hj:(i+(its.toArray.size:Int)).toNat=j:=by
   rw[seqIndex_neg (by omega) h4]at h1
   rw[yaq,<- hl];exact ya9 h1
  exact subscriptTail_builtinR (x:=w) pl.isList.typeIs slot_list_getitem.lookup
   (wpAny_getItem_list_neg (Q:=λr s'=>r=w/\EP X pins σ Q r s') pl.isList (by omega) (by rw[yaq]<;>omega) (by omega) (by rw[hj];simpa using ew) ⟨rfl,Al⟩) hs
theorem zmp:GB X (Uc X.K):=by
 intro value slice pins s σ H x y v u Q I rx ry h hs;obtain⟨p,xs,i,z,rfl,rfl,hq,he,q⟩:=h;cases rx;obtain⟨t,rfl⟩:=ry;obtain⟨its,r,pl,hz⟩:=I.tuple hq;obtain⟨j,h1,h2,h3,h4,h5⟩:=SW he;obtain⟨w,ew,rw'⟩:=r.get h2;have hl:=r.length;have hn:=Mg;have Al:EP X pins σ Q w s:=⟨z,H,I,rw',q⟩
 exact subscriptTail_builtinR (x:=w) pl.typeIs slot_tuple_getitem.lookup
  (getItem_tuple (j:=j) (Q:=λr s'=>r=w/\EP X pins σ Q r s') pl (by omega) (by omega) (by rw[yaq,<- hl];exact h1) (by simpa using ew) ⟨rfl,Al⟩) hs
theorem zmq:GB X Ud:=by
 intro value slice pins s σ H x y v u Q I rx ry h hs;obtain⟨z,i,c,rfl,rfl,hz,he,q⟩:=h;obtain⟨t,rfl⟩:=rx;obtain⟨t',rfl⟩:=ry;obtain⟨j,h1,h2,h3,h4,h5⟩:=SW he;have hl:z.cps.toList.length=z.length:=by simp[Str.length]
 rw[hl]at h1 h4 h5;have hn:=Mg
 exact tail_any (yen s z t) slot_str_getitem.lookup (getItem_str (c:=c) (by
  have e1:decide (i < -(2 ^ 63:Int))=false:=yec (by omega)
  have e2:decide (i ≥ 2 ^ 63)=false:=yec (by omega)
  rw[e1,e2,ycy]) (by rw[h1];simpa using h2) ⟨.str ⟨#[c]⟩,H,I.tok _,⟨_,rfl⟩,q⟩) hs
def Ug(K:kA):R2:=λx y H Q=>Ue K x y H Q\/Uc K x y H Q\/Ud x y H Q
theorem zmr:GB X (Ug X.K):=zjf.or (zmp.or zmq)
theorem zbk(lo hi:Option Int)(n:Nat):(sliceBounds lo hi none n).1=((HT.sIx n 0 lo:Nat):Int)/\(sliceBounds lo hi none n).2.1=((HT.sIx n n hi:Nat):Int)/\(sliceBounds lo hi none n).2.2=1:=by
 refine⟨?_,?_,rfl⟩
 .cases lo with
  |none=>simp[sliceBounds,HT.sIx]
  |some i =>
   simp only[sliceBounds,HT.sIx,Option.getD_none,show(1:Int) > 0 by decide,yeo]
   by_cases h:i<0
   .simp only[h,yeo]<;>omega
   .simp only[h,yep]<;>omega
 .cases hi with
  |none=>simp[sliceBounds,HT.sIx]
  |some i =>
   simp only[sliceBounds,HT.sIx,Option.getD_none,show(1:Int) > 0 by decide,yeo]
   by_cases h:i<0
   .simp only[h,yeo]<;>omega
   .simp only[h,yep]<;>omega
theorem zb3(its:List Value)(lo hi:Option Int):slicePick its.toArray lo hi none=((its.drop (HT.sIx its.length 0 lo)).take (HT.sIx its.length its.length hi - HT.sIx its.length 0 lo)).toArray:=by
 obtain⟨h1,h2,h3⟩:=zbk lo hi its.toArray.size;unfold slicePick;rw[h1,h2,h3];simp only[sliceRange_one,pick_run,yaq]<;>rfl
def Ua(K:kA):V->Option Int->Option Int->Hp->VK->Prop:=λx lo hi H Q=>∃a xs,x=.ref a/\Ac K H a xs/\∀p,H p=none->Q (.ref p) (upd H p (.lst (JW xs lo hi)))
theorem zhm:S8 X (Ua X.K):=by
 intro pins s σ H x v vl vu lo hi sl Q I rx hs pl pu h;obtain⟨a,xs,rfl,hx,q⟩:=h;cases rx;obtain⟨its,r,ht,hz⟩:=I.list hx;have hlen:=r.length;refine⟨"list",_,slot_list_getitem.lookup,ht.isList.typeIs,?_⟩;refine wpAny_getItem_list_slice ht.isList hs pl pu .none (by simp) ?_ (by rw[yaq]<;>omega)
 rw[zb3,<- hlen];refine⟨.ref s.heap.objs.size,_,I.laid (t':=s.toks) (o:=.lst (JW xs lo hi)) (λb ob q=>ya8 _ q) (yaf _) ?_,rfl,q _ (I.hok.fresh (yaf _))⟩
 exact⟨yap (zch xs lo hi) hz,_,0,(r.drop (HT.sIx xs.length 0 lo)).take (HT.sIx xs.length xs.length hi - HT.sIx xs.length 0 lo),yao _ rfl⟩
theorem zc4:B0 X (.type "list") (λxs H Q=>∃p ys,xs=[.ref p]/\(Ac X.K H p ys\/BY X.K H p ys)/\∀l,H l=none->Q (.ref l) (upd H l (.lst ys))):=by
 intro pins s σ H xs us Q I r h;obtain⟨p,ys,rfl,hq,q⟩:=h;obtain⟨u,rfl,rx⟩:=DP r;cases rx
 have Al:∀(its:List Value),A9 ys its->ys.length<=sizeLine->∀(h':Heap) (c':Nat),(∀b o',s.heap.get? b=some o'->h'.get? b=some o') ->
   h'.get? s.heap.objs.size=some { cls:=.type "list",dict:=none,data:=.seq its.toArray c',slots:=#[] }->EP X pins σ Q (.ref s.heap.objs.size) { s with heap:=h' }:=λits r' hz h' c' kp e =>
  ⟨.ref s.heap.objs.size,_,I.laid (t':=s.toks) kp (yaf _) (show BK X.prog X.w _ h' _ (.lst ys) from⟨hz,its,c',r',e⟩),rfl,q _ (I.hok.fresh (yaf _))⟩
 rcases hq with hq|hq
 .obtain⟨its,r',pl,hz⟩:=I.list hq;have hlen:=r'.length;obtain⟨o,ho,hc,n,hd⟩:=pl.isList;exact call_list_seq p (.inl rfl) ho hc hd (λh' c' kp e=>Al its r' hz h' c' kp e) (by simp only[yaq]<;>omega)
 .obtain⟨its,r',pl,hz⟩:=I.tuple hq;have hlen:=r'.length;obtain⟨o,ho,hc,n,hd⟩:=pl;exact call_list_seq p (.inr rfl) ho hc hd (λh' c' kp e=>Al its r' hz h' c' kp e) (by simp only[yaq]<;>omega)
theorem zbi:B0 X (.type "tuple") (λxs H Q=>∃p ys,xs=[.ref p]/\((Ac X.K H p ys/\∀l,H l=none->Q (.ref l) (upd H l (.tup ys)))\/(BY X.K H p ys/\Q (.ref p) H))):=by
 intro pins s σ H xs us Q I r h;obtain⟨p,ys,rfl,h⟩:=h;obtain⟨u,rfl,rx⟩:=DP r;cases rx
 rcases h with ⟨hq,q⟩|⟨hq,q⟩
 .obtain⟨its,r',pl,hz⟩:=I.list hq;have hlen:=r'.length;refine call_tuple_list pl.isList (λh' kp=>?_) (by simp only[yaq]<;>omega)
  have I1:Inv X pins σ H { s with heap:=h' }:=I.kept (t':=s.toks) kp
  have I2:Inv X pins σ (upd H h'.objs.size (.tup ys)) { s with heap:=h'.push { cls:=.type "tuple",data:=.seq its.toArray } } :=
   I1.laid (t':=s.toks) (λb o e=>ya8 _ e) (yaf _) (show BK X.prog X.w _ _ _ (.tup ys) from⟨hz,its,r',IsTup.new _ _⟩)
  exact⟨.ref h'.objs.size,_,I2,rfl,q _ (I1.hok.fresh (yaf _))⟩
 .obtain⟨its,r',pl,hz⟩:=I.tuple hq;exact call_tuple_same pl ⟨.ref p,H,I,rfl,q⟩
def TC(K:kA)(T:String)(x:V)(H:Hp):Prop:=match x with
 |.str _=>T="str"
 |.int _=>T="int"
 |.ref p=>(T="list"/\∃xs,Ac K H p xs)\/(T="tuple"/\∃o,K.lookup p=some o/\o.cls=.type "tuple"/\o.dict=none) \/
   (T="dict"/\((∃kvs,H p=some (.dK kvs))\/∃kvs,H p=some (.dT kvs)))\/(T="set"/\∃S n,H p=some (.set S n))
 |_=>False
theorem zk2{pins:List (Addr×Obj)}{σ:St}{H:Hp}{s:Shared}{T:String}{x:V}{v:Value}(I:Inv X pins σ H s)(r:RelV x v)(ty:TC X.K T x H) :
  s.TypeIs v T/\∀a,v=.ref a->∃ob,s.heap.get? a=some ob/\ob.dict=none:=by
 cases x with
 |str z =>
  obtain⟨t,rfl⟩:=r;cases (show T="str" from ty);exact⟨yen s z t,λ_ e=>nomatch e⟩
 |int i =>
  obtain⟨t,rfl⟩:=r;cases (show T="int" from ty);exact⟨typeIs_int s i t,λ_ e=>nomatch e⟩
 |ref p =>
  cases r
  rcases ty with ⟨rfl,xs,hq⟩|⟨rfl,o,hk,hc,hd⟩|⟨rfl,hk⟩|⟨rfl,S,n,hk⟩
  .obtain⟨its,_,pl,_⟩:=I.list hq;refine⟨pl.isList.typeIs,λa e=>?_⟩
   cases e;obtain⟨o,n,e,c,hd,_⟩:=pl;exact⟨o,e,hd⟩
  .refine⟨⟨o,I.kIn p o hk,hc⟩,λa e=>?_⟩
   cases e;exact⟨o,I.kIn _ o hk,hd⟩
  .have z:∃o,s.heap.get? p=some o/\o.ExactDict:=by
    rcases hk with ⟨kvs,hk⟩|⟨kvs,hk⟩
    .obtain⟨_,_,_,_,o,_,_,e,ex,_⟩:=I.hok p _ hk;exact⟨o,e,ex⟩
    .obtain⟨_,_,_,_,o,_,_,e,ex,_⟩:=I.hok p _ hk;exact⟨o,e,ex⟩
   obtain⟨o,e,ex⟩:=z;refine⟨⟨o,e,ex.1⟩,λa e2=>?_⟩
   cases e2;exact⟨o,e,ex.2.1⟩
  .obtain⟨o,_,_,_,e,ex,_⟩:=I.hok p _ hk;refine⟨⟨o,e,ex.1⟩,λa e2=>?_⟩
   cases e2;exact⟨o,e,ex.2.1⟩
 |_=>exact False.elim ty
def tBM(K:kA)(T:String)(r:V->List V->Hp->VK->Prop)(to:TE)(t:TA):TE:=λσ H Q=>to σ H λx H1=>TC K T x H1/\t σ H1 λxs H2=>r x xs H2 Q
variable {o e:Expr}{es:List Expr}{to:TE}{t:TA}{name:Str}{apos cpos:Pos}{T id:String}{r:V->List V->Hp->VK->Prop}
theorem Io(pa:PlainAttrs T)(slot:Slot T name id)(hty:typeOf (.builtin id)=pure (.type "method_descriptor"))(hm:MtR X id r)(ho:PE X o to)(ha:PA X (e::es) t)
  (hbase:attributeBase o name X.env (eval o X.env)=eval o X.env:=by rfl)
  (hfew : ((backTo cpos (starEach (e :: es) X.env)).all (fun x => !x.1) && (backToKw cpos (keywordEach [] X.env)).all (fun x => x.1.isSome)
   && decide ((e::es).length+([]:List Keyword).length+(if ([]:List Keyword).isEmpty then 0 else 1)<30))=true:=by rfl)
  (hline:(apos.endLine == cpos.line)=true:=by rfl) (hs:starEach (e::es) X.env=(false,eval e X.env)::starEach es X.env:=by rfl) (hplain:(backTo cpos (starEach es X.env)).any (·.1)=false:=by rfl) :
  PE X (.Call (.Attribute o name apos) (e::es) [] cpos) (tBM X.K T r to t):=by
 intro pins s σ H Q I h;refine wpAny_Call_method_late hbase hfew hline rfl (AS (ho pins s σ H _ I h) λv s1 ⟨x,H1,I1,r1,ty,q1⟩=>?_)
 obtain⟨h1,h2⟩:=zk2 I1 r1 ty;refine⟨T,id,pa,slot,hty,h1,h2,?_⟩;have hA:=ha cpos pins s1 σ H1 _ I1 q1;rw[hs]at hA ⊢;refine Calls.callWith_builtin (by show(false || (backTo cpos (starEach es X.env)).any (·.1))=false;rw[hplain]<;>rfl) (Calls.evalArgs_plain ?_)
 exact AS hA λus s2 ⟨vs,H2,I2,r2,q2⟩=>hm pins s2 σ H2 x vs v us Q I2 r1 r2 q2
end
def J8(X:Cx)(id:String)(r:V->List V->Hp->VK->Prop):Prop :=
 ∀(pins:List (Addr×Obj)) (s:Shared) (σ:St) (H:Hp) (x:V) (xs:List V) (v:Value) (us:List Value) (Q:VK),Inv X pins σ H s->RelV x v->A9 xs us->r x xs H Q ->
  wpAny (model X.prog X.w) X.A (call (.builtin id) (v::us)) (EP X pins σ Q) X.xe s
theorem A9.one:∀{x:V} {us:List Value},A9 [x] us->∃u,us=[u]/\RelV x u
 |_,_,.cons r .nil=>⟨_,rfl,r⟩
theorem A9.rep{xs:List V}{us:List Value}(h:A9 xs us):∀k:Nat,A9 (List.replicate k xs).flatten (List.replicate k us).flatten
 |0=>.nil
 |k+1=>by
  rw[ybj,ybj,yc0,yc0];exact A9.append h (A9.rep h k)
theorem YM(its:List Value):∀(k:Nat) (A4:List Value),
  List.foldl (λx1 x2=>x1++x2) A4.toArray (List.replicate k its.toArray)=(A4++(List.replicate k its).flatten).toArray
 |0,A4=>by simp
 |k+1,A4=>by
  have e:A4.toArray++its.toArray=(A4++its).toArray:=by simp
  have e2:(A4++its)++(List.replicate k its).flatten=A4++(List.replicate (k+1) its).flatten:=by
   rw[ybj,yc0,yc1]
  rw[<- e2,<- YM its k (A4++its),<- e,ybj,List.foldl_cons]
section
variable {X:Cx}{pins:List (Addr×Obj)}{σ:St}{H:Hp}{s:Shared}{l b:Addr}{xs ys zs:List V}
theorem Inv.lset{its its':List Value}{n:Nat}{f:Array Value->Array Value}{t':Nat}(I:Inv X pins σ H s)(hH:H l=some (.lst xs))
  (e:s.heap.get? l=some { cls:=.type "list",data:=.seq its.toArray n }) (hf:f its.toArray=its'.toArray) (hv:A9 ys its') (hz:ys.length<=sizeLine) :
  Inv X pins σ (upd H l (.lst ys)) { s with heap:=s.heap.update l (Obj.mapSeq f),toks:=t' }:=by
 have q:=PySem.IsL.update e f;rw[hf]at q;refine I.write (x:=l) (e:=l) (by rw[hH];exact trivial) (.inl rfl) (λb' u hb hu=>(ybf s.heap (Obj.mapSeq f) (yb1 hb)).trans hu) ⟨_,q⟩ ?_
 exact⟨hz,its',_,hv,q⟩
theorem Inv.lnew{its:List Value}{t':Nat}(I:Inv X pins σ H s)(hv:A9 ys its)(hz:ys.length<=sizeLine) :
  Inv X pins σ (upd H s.heap.objs.size (.lst ys)) { s with heap:=s.heap.push { cls:=.type "list",data:=.seq its.toArray },toks:=t' } :=
 I.laid (λ_ _ q=>ya8 _ q) (yaf _) ⟨hz,its,0,hv,yao _ rfl⟩
theorem Inv.fresh(I:Inv X pins σ H s):H s.heap.objs.size=none:=I.hok.fresh (yaf _)
theorem Inv.lstM(I:Inv X pins σ H s)(hH:H l=some (.lst xs)):xs.length<=sizeLine/\∃(its:List Value) (n:Nat),A9 xs its/\xs.length=its.length/\s.heap.get? l=some { cls:=.type "list",data:=.seq its.toArray n }:=by
 obtain⟨z,its,n,r,e⟩:=I.hok l _ hH;exact⟨z,its,n,r,r.length,e⟩
theorem zga{n:Nat}(h:n<=sizeLine):Builtin.List.listTooLong n=false:=by
 unfold Builtin.List.listTooLong;exact yec (by omega)
end
section
variable {X:Cx}
def zi6:V->List V->Hp->VK->Prop:=λx vs H Q=>∃l xs y,x=.ref l/\vs=[y]/\H l=some (.lst xs)/\xs.length<sizeLine/\Q .non (upd H l (.lst (xs++[y])))
theorem ze3:J8 X "list.append" zi6:=by
 intro pins s σ H x vs v us Q I rx rv h;obtain⟨l,xs,y,rfl,rfl,hH,hz,q⟩:=h;cases rx;obtain⟨u,rfl,ru⟩:=rv.one;obtain⟨z,its,n,r,hl,e⟩:=I.lstM hH;refine yeq F.slot_list_append ⟨_,e,rfl⟩ F.entry_list_append (F.args_list_append_2 _ _) (PySem.list_append l its.toArray n u (by rw[yaq];omega)) ⟨e,?_⟩
 refine⟨.non,_,I.lset (its':=its++[u]) hH e (by simp) (r.append (.cons ru .nil)) ?_,rfl,q⟩
 rw[yag,ybn]
 omega
def rCat:R2:=λx y H Q=>∃l b xs zs,x=.ref l/\y=.ref b/\H l=some (.lst xs)/\H b=some (.lst zs)/\xs.length+zs.length<=sizeLine/\∀p,H p=none->Q (.ref p) (upd H p (.lst (xs++zs)))
theorem zlt:Ad X (binaryOp .Add) rCat:=by
 intro pins s σ H x y v u Q I rx ry h;obtain⟨l,b,xs,zs,rfl,rfl,hH,hB,hz,q⟩:=h;cases rx;cases ry;obtain⟨z,its,n,r,hl,e⟩:=I.lstM hH;obtain⟨z2,its2,n2,r2,hl2,e2⟩:=I.lstM hB;refine PySem.P.add_list e e2 ?_ (by rw[yaq,yaq];omega)
 have ea:its.toArray++its2.toArray=(its++its2).toArray:=by simp
 rw[ea];exact⟨.ref _,_,I.lnew (t':=s.toks) (r.append r2) (by rw[yag];omega),rfl,q _ I.fresh⟩
def rRep:R2:=λx y H Q=>∃l k xs,x=.ref l/\y=.int k/\H l=some (.lst xs)/\-(2 ^ 63)<=k/\k<2 ^ 63/\xs.length * k.toNat<=sizeLine /\
 ∀p,H p=none->Q (.ref p) (upd H p (.lst (List.replicate k.toNat xs).flatten))
theorem zja{α:Type}(xs:List α)(k:Nat):(List.replicate k xs).flatten.length=k * xs.length:=by
 induction k with
 |zero=>simp
 |succ k ih=>rw[ybj,yc0,yag,ih,Nat.succ_mul,Nat.add_comm]
theorem zlp:Ad X (binaryOp .Mult) rRep:=by
 intro pins s σ H x y v u Q I rx ry h;obtain⟨l,k,xs,rfl,rfl,hH,h1,h2,hz,q⟩:=h;cases rx;obtain⟨t,rfl⟩:=ry;obtain⟨z,its,n,r,hl,e⟩:=I.lstM hH;have hlen:its.toArray.size * k.toNat<=sizeLine:=by rw[yaq,<- hl];exact hz
 have hcap:¬ its.toArray.size * k.toNat > (2 ^ 63 - 1) / 8:=by
  have:(sizeLine:Nat)<=(2 ^ 63 - 1) / 8:=by decide
  omega
 have hfit:¬ (!Builtin.List.listFitsIndex k)=true:=by
  rw[fitsIndex_both h1 h2];exact yb9
 have hlong:¬ Builtin.List.listTooLong (its.toArray.size * k.toNat)=true:=by
  rw[zga hlen];exact yb9
 have hnew:List.foldl (λx1 x2=>x1++x2) #[] (List.replicate (if its.toArray.isEmpty=true then 0 else k.toNat) its.toArray)=(List.replicate k.toNat its).flatten.toArray:=by
  have f0:∀m:Nat,List.foldl (λx1 x2=>x1++x2) #[] (List.replicate m its.toArray)=(List.replicate m its).flatten.toArray:=λm=>by
   have:=YM its m [];rw[List.nil_append]at this;exact this
  rw[f0];cases its with
  |nil=>simp
  |cons a r'=>rw[if_neg (by simp)]
 refine wpAny_binaryOp_repeat_ref (T:="list") (U:="int") (by decide) ⟨_,e,rfl⟩ (λs'=>typeIs_int s' k t) noFill_list_mul F.fills_int_mul F.slot_int_rmul repeat_list F.slot_int_index.lookup
  (yeq F.slot_int_rmul (typeIs_int s k t) F.entry_int_rmul (F.args_int_rmul_2 _ _) (int___rmul___int_list k t l its.toArray n)
   ⟨e,rfl,⟨_,e,rfl⟩,yeq F.slot_list_mul ⟨_,e,rfl⟩ F.entry_list_mul (F.args_list_mul_2 _ _) (AutoListH.list___mul___list_int_3 l its.toArray n k t hfit hcap hlong) ⟨e,?_⟩⟩)
 rw[hnew];exact⟨.ref _,_,I.lnew (t':=s.toks) (r.rep k.toNat) (by rw[zja,Nat.mul_comm];exact hz),rfl,q _ I.fresh⟩
end
section
variable {prog:Program}{w:World}{A:Around}{E:Value->Shared->Prop}{s:Shared}
end
section
variable {X:Cx}
end
end L2
namespace Att
open PySem PySem.W PySem.Calls PyProof.Rows
theorem zak{P:Params}{h:Heap}:∀(ns:List Int) (vs:List Value),WellAll P h vs (ns.map WData.int)->IntsAre vs ns:=by
 intro ns
 induction ns with
 |nil =>
  intro vs w;rw[ybx]at w;cases w;exact .nil
 |cons n ns ih =>
  intro vs w;rw[yae]at w;cases w with
  |cons a b =>
   cases a;exact .cons _ _ (ih _ b)
theorem zdq{l:OpenLaw}{n:Nat}(hn:l.most=some n){P:Params}{h:Heap}{args:List WData}{vals:List Value}
  (hpre:l.row.toRowW.claim.pre args=true) (hwl:WellAll P h vals args) :
  ∃a vs ns,vals=[Value.ref a]/\args=[WData.list (ns.map WData.int)]/\h.get? a=some { cls:=.type "list",data:=.seq vs.toArray }/\IntsAre vs ns/\ns.length<=n:=by
 have hsh:WShape.hasAll [] args [.list .int]=true:=(pre_splitW hpre).1;have hc:l.pre.holds [] { args:=args }=true:=(pre_splitW hpre).2;obtain⟨d,r,rfl,h1,h2⟩:=hasAllW_cons hsh;obtain rfl:=hasAllW_nil h2;obtain⟨xs,rfl,h3⟩:=hasW_list h1;obtain⟨ns,rfl⟩:=items_int h3
 have hlen:ns.length<=n:=by
  unfold OpenLaw.pre at hc
  have h4:(WTm.not (.lt (.lit (.int (n:Int))) (.len (.arg 0)))).holds [] { args:=[.list (ns.map .int)] }=true:=by
   have h4:=(holds_andW hc).1;rw[hn]at h4;exact h4
  have h5:=condW_of h4 (w_not (w_lt w_lit (w_len_list (w_arg rfl))));rw[ya1]at h5;refine Nat.le_of_not_lt λq=>?_
  have q':(n:Int)<((ns.length:Nat):Int):=by omega
  first
   |(rw[yer q']at h5;exact absurd h5 (by decide))
   |(simp at h5;omega)
 cases hwl with
 |cons w1 w2 =>
  cases w2;cases w1 with
  |list ho hall=>exact⟨_,_,ns,rfl,rfl,ho,zak ns _ hall,hlen⟩
theorem zdu(l:OpenLaw)(args:List WData):l.row.toRowW.claim.post args (.bool true) args=true :=
 postW_of (r:=l.row.toRowW) (X:=(true == true))
  (show WShape.has [] (.bool true) .bool=true by first|rfl|decide|simp[WShape.has,WShape.arms,WShape.armsAll])
  (show(WTm.eq .res (.lit (.bool true))).value [] { args:=args,res:=some (.bool true),after:=args }=some (.bool (true == true)) from w_eq_bool (w_res rfl) w_lit) rfl
theorem attach_call{l:OpenLaw}{n:Nat}{q:Program}{loose:List Str}{XP:(Str->Option Value)->Heap->Prop}{YP:World->Heap->Prop}{d:DefRec}
  (hn:l.most=some n) (hdf:d.params.defaults=[])
  (call : ∀ (w : World) (s₀ s₁ : Shared) (mg mb : Str -> Option Value) (fa : Addr) (o : Obj) (pm cd doc : Value) (a : Addr) (vs : List Value) (ns : List Int),
   Ground q loose [] XP w s₀ mg mb s₁.heap->YP w s₁.heap ->
   s₁.heap.get? fa=some o->o.data=.func (docDef d.name d.params d.body d.scope pm cd doc)->s₁.heap.CodeRec cd d.name->mg d.name=some (.ref fa) ->
   s₁.heap.get? a=some { cls:=.type "list",data:=.seq vs.toArray }->IntsAre vs ns->ns.length<=n->s₁.gens=#[] ->
   codeAny (model l.prog w) callerA (.call (.ref fa) ⟨[.ref a],[]⟩) (λr s'=>r=.ok (.ret (.bool true))/\OldK s₁.heap s'.heap/\s'.os=s₁.os/\AllBare s'.gens) s₁) :
  WalkO q loose XP YP l.row.toRowW d [] (λf vs=>PySem.call f vs):=by
 intro w s₀ s₁ mg mb G Y fa o pm cd doc dV kV ho hd hcd hD hmg hg args vals as hpre hlay hrd hwl hlo;obtain rfl:dV=.none:=Dflts.none hD hdf;obtain rfl:kV=.none:=Dflts.noKw hD;obtain⟨a,vs,ns,rfl,rfl,hobj,hints,hlen⟩:=zdq hn hpre hwl;refine enter_call (yes (call w s₀ s₁ mg mb fa o pm cd doc a vs ns G Y ho (fd_plain hd) hcd hmg hobj hints hlen hg) λr s' hq=>?_)
 obtain⟨rfl,h2,h3,h4⟩:=hq;exact⟨.inl ⟨.bool true,.bool true,[],rfl,λ_=>rfl,.bool true,zdu l _,λ_=>⟨List.Pairwise.nil,λ_ hm=>(nomatch hm)⟩⟩,h2,h3,h4⟩
section
variable {prog:Program}{w:World}{A:Around}{E:Value->Shared->Prop}{s:Shared}{K:Frag}
end
end Att
namespace L2
open PySem PySem.Spec PyProof.Rows
theorem Sx:∀{vs:List Value} {ns:List Int},IntsAre vs ns->A9 (ns.map V.int) vs
 |_,_,.nil=>.nil
 |_,_,.cons n t h=>.cons ⟨t,rfl⟩ (Sx h)
def Se(H:Hp):Prop:=∀b,H b=none\/∃o xs,H b=some (.frz o (.lst xs))
theorem zgk{P:Program}{w:World}{K:kA}{mg mb:Str->Option Value}{CX:Ek}{k:Nat}{fa a:Addr}{fd:FuncData}{x:Str}{sp:Sp}{s₁:Shared}{vs:List Value}{ns:List Int}
  (KX:K.In s₁.heap) (hns:s₁.heap.Ns mainGlobals mg) (hb:s₁.heap.Ns builtinsNs mb) (hbb:∀x:Str,x≠"__name__"->mb x=bootBuiltins x) (hlim:s₁.heap.NoLimit) (hg:s₁.gens=#[])
  (ha:s₁.heap.get? a=some { cls:=.type "list",data:=.seq vs.toArray }) (hi:IntsAre vs ns) (hl:ns.length<=sizeLine) (hr:Room k callerA)
  (F:∀base:Heap,K.In base->base.Ns mainGlobals mg->FnOk P w K mg base CX k fa fd [x] sp) (hbind:∀(s:Shared) (u:Value),BindsTo s fd ⟨[u],[]⟩ [(x,u)])
  (hsp:∀H:Hp,Se H->Ac K H a (ns.map V.int)->sp [.ref a] H (λv _=>v=.bl true) λ_ _ _=>False)
  (hCX:∀H e s',CX [] H s₁ (λ_ _ _=>False) e s'->False) :
  codeAny (model P w) callerA (.call (.ref fa) ⟨[.ref a],[]⟩) (λr s'=>r=.ok (.ret (.bool true))/\OldK s₁.heap s'.heap/\s'.os=s₁.os/\AllBare s'.gens) s₁:=by
 have rv:=Sx hi;have lenV:=hi.length
 have core:∀H:Hp,Se H->Ac K H a (ns.map V.int)->HOk P w H s₁.heap->(∀b,H b≠none->b=a)->(H a≠none->K.lookup a=none) ->
   codeAny (model P w) callerA (.call (.ref fa) ⟨[.ref a],[]⟩) (λr s'=>r=.ok (.ret (.bool true))/\OldK s₁.heap s'.heap/\s'.os=s₁.os/\AllBare s'.gens) s₁:=by
  intro H hO hS hok hA hK;have base_of:∀{b:Addr} {o:Obj},s₁.heap.get? b=some o->H b=none->(Fo s₁.heap H).get? b=some o:=λe n=>zgo e n
  have noA:∀{b:Addr} {o:Obj} {es:Array DictEntry} {ep:Nat},s₁.heap.get? b=some o->o.data=.dict es ep->H b=none:=λ{b o es ep} e d=>by
   cases q:H b with
   |none=>rfl
   |some u =>
    have e':b=a:=hA b (by rw[q];simp)
    subst e';rw[ha]at e;cases e;have d':Data.seq vs.toArray _=Data.dict es ep:=d;cases d'
  have nsK:∀{b:Addr} {m:Str->Option Value},s₁.heap.Ns b m->(Fo s₁.heap H).Ns b m:=λ{b m} ⟨o,es,ep,e,d,r⟩=>⟨o,es,ep,base_of e (noA e d),d,r⟩
  have hKb:K.In (Fo s₁.heap H):=λb o e=>base_of (KX b o e) (by
   cases q:H b with
   |none=>rfl
   |some u =>
    have e':b=a:=hA b (by rw[q];simp)
    subst e';rw[hK (by rw[q];simp)]at e;cases e)
  have hM:Mod K mg (Fo s₁.heap H):=⟨hKb,nsK hns,⟨mb,nsK hb,hbb⟩,let ⟨mc,h1,h2⟩:=hlim;⟨mc,nsK h1,h2⟩⟩;have e0:Env0 P w K mg (Fo s₁.heap H) callerA [] s₁ H:=⟨rfl,hM,λb o e=>zix e,Nat.le_of_eq (zec _ _),trivial,λb hb=>absurd (show b∈([]:List Addr) from hb) (by simp),hok,.of_eq hg⟩
  refine yes ((F _ hKb (nsK hns)).run callerA [] s₁ H ⟨[.ref a],[]⟩ [.ref a] [.ref a] _ _ hr e0 (hbind s₁ (.ref a)) (.cons rfl .nil) (hsp H hO hS)) λr s' h=>?_
  cases r with
  |error e=>exact(hCX H e s' h).elim
  |ok fl =>
   cases fl with
   |next=>exact False.elim h
   |brk=>exact False.elim h
   |cont=>exact False.elim h
   |ret u =>
    obtain⟨v,H',os,bare,un,hok',r',q⟩:=h;have q':v=.bl true:=q;subst q';obtain rfl:u=Value.bool true:=r';refine⟨rfl,OldK.of_keep λb o e=>?_,os,bare⟩
    cases q:H b with
    |none=>exact un.keep b o e q (by intro z;exact absurd (show b∈([]:List Addr) from z) (by simp)) (by simp)
    |some u =>
     rcases hO b with z|⟨ob,xs,z⟩
     .rw[q]at z;cases z
     .have z2:=un.frzs b ob _ z;obtain⟨e1,_⟩:=hok b _ z;obtain⟨e2,_⟩:=hok' b _ z2;rw[e]at e1;cases e1;exact e2
 cases hk:K.lookup a with
 |some o =>
  have e:=KX a o hk;rw[ha]at e;cases e;refine core (λ_=>none) (λ_=>.inl rfl) (.inr ⟨_,vs.toArray,_,hk,rfl,rfl,rfl,by rw[yaq,lenV];exact hl,by simpa using rv⟩) (λb u z=>by have z':(none:Option HO)=some u:=z;cases z') (λb z=>absurd rfl z) λz=>absurd rfl z
 |none =>
  refine core (λb=>if b=a then some (.frz { cls:=.type "list",data:=.seq vs.toArray } (.lst (ns.map V.int))) else none) (λb=>?_) (.inl (.inr ⟨{ cls:=.type "list",data:=.seq vs.toArray },if_pos rfl⟩)) (λb u z=>?_) (λb z=>?_) λ_=>hk
  .by_cases hb:b=a
   .exact .inr ⟨_,_,if_pos hb⟩
   .exact .inl (if_neg hb)
  .by_cases hb:b=a
   .have z':=(if_pos hb).symm.trans z;cases z';subst hb;exact⟨ha,by rw[ya1];exact hl,vs,_,rv,ha⟩
   .have z':=(if_neg hb).symm.trans z;cases z'
  .by_cases hb:b=a
   .exact hb
   .exact absurd (if_neg hb) z
theorem walk_of{l:PySem.W.OpenLaw}{n k:Nat}{q:Program}{loose:List Str}{XP:(Str->Option Value)->Heap->Prop}{YP:World->Heap->Prop}{d:DefRec}{K:Params->kA}{CX:World->Ek}{sp:World->Sp}{x:Str}
  (hn:l.most=some n) (hn2:n<=sizeLine) (hdf:d.params.defaults=[]) (hr:Room k callerA)
  (hY:∀(w:World) (h:Heap),YP w h->(K w.params).In h)
  (F : ∀ (w : World) (mg : Str -> Option Value) (fa : Addr) (h : Heap), (K w.params).In h -> h.Ns mainGlobals mg -> mg d.name = some (.ref fa) ->
   ∃fd:FuncData,(∀(s:Shared) (u:Value),BindsTo s fd ⟨[u],[]⟩ [(x,u)]) /\
    ∀base:Heap,(K w.params).In base->base.Ns mainGlobals mg->FnOk l.prog w (K w.params) mg base (CX w) k fa fd [x] (sp w))
  (hsp:∀(w:World) (H:Hp) (a:Addr) (ns:List Int),ns.length<=n->Se H->Ac (K w.params) H a (ns.map V.int)->sp w [.ref a] H (λv _=>v=.bl true) λ_ _ _=>False)
  (hCX:∀(w:World) (H:Hp) (s:Shared) (e:Value) (s':Shared),CX w [] H s (λ_ _ _=>False) e s'->False) :
  PySem.W.WalkO q loose XP YP l.row.toRowW d [] (λf vs=>PySem.call f vs):=by
 refine Att.attach_call hn hdf λw s₀ s₁ mg mb fa o pm cd doc a vs ns G Y ho hd hcd hmg hobj hints hlen hg=>?_
 have KX:=hY w _ Y;obtain⟨fd,hb,hF⟩:=F w mg fa _ KX G.T.g hmg;exact zgk KX G.T.g G.T.b G.T.builtins G.T.nolimit hg hobj hints (yap hlen hn2) hr hF hb (λH hO hS=>hsp w H a ns hlen hO hS) λH e s'=>hCX w H s₁ e s'
def JU(s:Stmt):Arguments:=match s with
 |.FunctionDef _ a _ _ _ _ _ _ _ _=>a
 |_=>{ posonlyargs:=[],args:=[],vararg:=none,kwonlyargs:=[],kw_defaults:=[],kwarg:=none,defaults:=[] }
def Ah(s:Stmt):List Stmt:=match s with
 |.FunctionDef _ _ b _ _ _ _ _ _ _=>b
 |_=>[]
noncomputable def AL(s:Stmt):Scope:=match s with
 |.FunctionDef _ _ _ _ _ _ sc _ _ _=>sc
 |_=>{ kind:=.function,names:=[],isGenerator:=false,isCoroutine:=false }
abbrev IG:Ek:=λ_ _ _ _ _ _=>False
abbrev E0:XK:=λ_ _ _=>False
section
variable {P:Program}{w:World}{K:kA}{mg:Str->Option Value}{base:Heap}
end
section
variable {X:Cx}
end
theorem K0{A B:Prop}(h:B):if false=true then A else B:=by
 rw[if_neg yb9];exact h
theorem KZ{A B:Prop}(h:A):if true=true then A else B:=by
 rw[if_pos rfl];exact h
def AZ(H H':Hp):Prop:=∀b o,H b=some o->H' b=some o
theorem AZ.refl(H:Hp):AZ H H:=λ_ _ h=>h
theorem AZ.trans{H H1 H2:Hp}(a:AZ H H1)(b:AZ H1 H2):AZ H H2:=λc o h=>b c o (a c o h)
theorem AZ.seq{K:kA}{H H':Hp}{a:Addr}{xs:List V}(e:AZ H H')(h:Ac K H a xs):Ac K H' a xs:=by
 rcases h with (h|⟨o,h⟩)|h
 .exact .inl (.inl (e _ _ h))
 .exact .inl (.inr ⟨o,e _ _ h⟩)
 .exact .inr h
section
variable {κ:Type} [DecidableEq κ]
noncomputable def HD(kvs:List (κ×V))(k:κ):Option V:=(kvs.find? λkv=>decide (kv.1=k)).map (·.2)
noncomputable def DS(kvs:List (κ×V))(k:κ)(v:V):List (κ×V) :=
 if (kvs.any λkv=>decide (kv.1=k))=true then kvs.map (λkv=>if kv.1=k then (kv.1,v) else kv) else kvs++[(k,v)]
theorem Sy{p:κ×V}{r:List (κ×V)}{k:κ}(e:p.1=k):HD (p::r) k=some p.2:=by simp[HD,ydv,e]
theorem Sz{p:κ×V}{r:List (κ×V)}{k:κ}(e:¬ p.1=k):HD (p::r) k=HD r k:=by simp[HD,ydv,e]
theorem TB(k:κ):∀kvs:List (κ×V),(kvs.any λkv=>decide (kv.1=k))=(HD kvs k).isSome
 |[]=>rfl
 |p::r=>by
  rw[ye1]
  by_cases e:p.1=k
  .simp only[Sy e,yer e,ydb,Option.isSome_some]
  .rw[Sz e,yec e,ybp];exact TB k r
theorem Wo(kvs:List (κ×V))(k:κ)(v:V):(DS kvs k v).length<=kvs.length+1:=by
 unfold DS;split
 .rw[ya1];omega
 .rw[yag,ya6,yc9];omega
theorem FP.isSome_eq{o:Option V}{u:Option Value}(r:FP o u):o.isSome=u.isSome:=by
 cases o with
 |none=>cases u with
  |none=>rfl
  |some _=>exact(show False from r).elim
 |some _=>cases u with
  |none=>exact(show False from r).elim
  |some _=>rfl
theorem KV.any{kvs:List (κ×V)}{vs:List (κ×Value)}(r:KV kvs vs)(k:κ):(kvs.any λkv=>decide (kv.1=k))=vs.any λkv=>decide (kv.1=k):=by
 unfold KV at r
 induction r with
 |nil=>rfl
 |cons h t ih=>rw[ye1,ye1,ih,h.1]
theorem KV.repl{kvs:List (κ×V)}{vs:List (κ×Value)}(r:KV kvs vs)(k:κ){y:V}{u:Value}(ry:RelV y u) :
  KV (kvs.map λkv=>if kv.1=k then (kv.1,y) else kv) (vs.map λkv=>if kv.1=k then (kv.1,u) else kv):=by
 unfold KV at r ⊢
 induction r with
 |nil=>exact .nil
 |@cons p q ps qs h t ih =>
  rw[yae,yae];refine .cons ?_ ih;obtain⟨h1,h2⟩:=h
  by_cases e:p.1=k
  .rw[if_pos e,if_pos (h1.symm.trans e)];exact⟨h1,ry⟩
  .rw[if_neg e,if_neg (λz=>e (h1.trans z))];exact⟨h1,h2⟩
theorem KV.put{kvs:List (κ×V)}{vs:List (κ×Value)}(r:KV kvs vs)(k:κ){y:V}{u:Value}(ry:RelV y u):KV (DS kvs k y) (stored vs k u):=by
 unfold DS stored;rw[r.any k]
 by_cases e:(vs.any λkv=>decide (kv.1=k))=true
 .rw[if_pos e,if_pos e];exact r.repl k ry
 .rw[if_neg e,if_neg e];exact Paired.snoc r ⟨rfl,ry⟩
theorem KV.length{kvs:List (κ×V)}{vs:List (κ×Value)}(r:KV kvs vs):kvs.length=vs.length:=Paired.length r
end
theorem XC{P:Program}{w:World}{k:Key}{u:Value}(r:RelV (kV k) u):(Cy P w).is k u=true:=by
 cases k with
 |inl i=>obtain⟨t,e⟩:=(show ∃t,u=Value.int i t from r);subst e;exact zce P w i t
 |inr x=>obtain⟨t,e⟩:=(show ∃t,u=Value.str x t from r);subst e;exact zcd P w x t
theorem XN{P:Program}{w:World}:∀{ks:List Key} {us:List Value},A9 (ks.map kV) us->ItemsAre (Cy P w) ks us
 |[],_,r=>by rw[ybx]at r;cases r;exact .nil
 |k::ks,_,r=>by
  rw[yae]at r;cases r with
  |cons h t=>exact .cons (XC h) (XN t)
abbrev KT(H:Hp):List (List Key×V)->List (List Key×Addr×Value)->Prop:=Paired λp q=>p.1=q.1/\H q.2.1=some (.tup (p.1.map kV))/\RelV p.2 q.2.2
theorem KT.val{H:Hp}{kvs:List (List Key×V)}{xs:List (List Key×Addr×Value)}(r:KT H kvs xs)(k:List Key):FP (HD kvs k) ((atKey xs k).map (·.2)):=by
 induction r with
 |nil=>exact True.intro
 |@cons p q ps qs h t ih =>
  obtain⟨h1,_,h2⟩:=h
  by_cases e:p.1=k
  .have e':q.1=k:=h1.symm.trans e;have b:atKey (q::qs) k=some q.2:=by simp[atKey,ydv,e']
   rw[Sy e,b];exact h2
  .have e':¬ q.1=k:=λz=>e (h1.trans z)
   have b:atKey (q::qs) k=atKey qs k:=by simp[atKey,ydv,e']
   rw[Sz e,b];exact ih
theorem KT.repl{H:Hp}{kvs:List (List Key×V)}{xs:List (List Key×Addr×Value)}(r:KT H kvs xs)(k:List Key){y:V}{u:Value}(ry:RelV y u) :
  KT H (kvs.map λkv=>if kv.1=k then (kv.1,y) else kv) (xs.map (putAt k u)):=by
 induction r with
 |nil=>exact .nil
 |@cons p q ps qs h t ih =>
  rw[yae,yae];refine .cons ?_ ih;obtain⟨h1,h2,h3⟩:=h;unfold putAt
  by_cases e:p.1=k
  .rw[if_pos e,if_pos (h1.symm.trans e)];exact⟨h1,h2,ry⟩
  .rw[if_neg e,if_neg (λz=>e (h1.trans z))];exact⟨h1,h2,h3⟩
theorem KT.put{H:Hp}{kvs:List (List Key×V)}{xs:List (List Key×Addr×Value)}(r:KT H kvs xs)(k:List Key){b:Addr}{y:V}{u:Value}(hb:H b=some (.tup (k.map kV)))(ry:RelV y u) :
  KT H (DS kvs k y) (storedH xs k b u):=by
 have e:(kvs.any λkv=>decide (kv.1=k))=(atKey xs k).isSome:=by
  rw[TB,(r.val k).isSome_eq,Option.isSome_map]
 unfold DS storedH;rw[e]
 by_cases q:(atKey xs k).isSome=true
 .rw[if_pos q,if_pos q];exact r.repl k ry
 .rw[if_neg q,if_neg q];exact Paired.snoc r ⟨rfl,hb,ry⟩
theorem KT.keeps{H H':Hp}{kvs:List (List Key×V)}{xs:List (List Key×Addr×Value)}(r:KT H kvs xs)(ht:∀b ys,H b=some (.tup ys)->H' b=some (.tup ys)):KT H' kvs xs :=
 Paired.mapP r λ_ _ z=>⟨z.1,ht _ _ z.2.1,z.2.2⟩
section
variable {P:Program}{w:World}{H:Hp}{h:Heap}{a:Addr}
theorem UN{u:HO}(ok:HOk P w H h)(e:Rd H a u):BK P w H h a u:=e.ok ok
theorem dk_rd{kvs:List (Key×V)}(ok:HOk P w H h)(e:Rd H a (.dK kvs)):kvs.length<=sizeLine/\(a == sysModules)=false/\∃vs,KV kvs vs/\h.DictOf (Cy P w) a vs :=
 show BK P w H h a (.dK kvs) from UN ok e
theorem dk_of{kvs:List (Key×V)}(ok:HOk P w H h)(e:H a=some (.dK kvs)):kvs.length<=sizeLine/\(a == sysModules)=false/\∃vs,KV kvs vs/\h.DictOf (Cy P w) a vs:=dk_rd ok (.inl e)
theorem XA{ks:List Key}(ok:HOk P w H h)(e:H a=some (.tup (ks.map kV))):(tupleKind (Cy P w)).is h ks a:=by
 obtain⟨_,its,r,o,h1,h2,n,h3⟩:=(show BK P w H h a (.tup (ks.map kV)) from ok a _ e);exact⟨o,its.toArray,n,h1,h2,h3,by simpa using XN r⟩
theorem dt_rd{kvs:List (List Key×V)}(ok:HOk P w H h)(e:Rd H a (.dT kvs)):kvs.length<=sizeLine/\(a == sysModules)=false /\
  ∃xs,KT H kvs xs/\h.DictOfH (tupleKind (Cy P w)) a xs:=by
 obtain⟨z,y,xs,r,o,es,ep,h1,h2,h3,h4,h5⟩:=(show BK P w H h a (.dT kvs) from UN ok e);refine⟨z,y,xs,r,o,es,ep,h1,h2,h3,h4,λx hx=>?_,h5⟩
 have all:∀{l:List (List Key×V)} {m:List (List Key×Addr×Value)},KT H l m->∀x∈m,(tupleKind (Cy P w)).is h x.1 x.2.1:=by
  intro l m q
  induction q with
  |nil=>intro x hx;exact nomatch hx
  |@cons p q ps qs hq t ih =>
   intro x hx
   rcases(yad.mp hx) with e|hx
   .subst e;exact XA ok (by rw[<- hq.1];exact hq.2.1)
   .exact ih x hx
 exact all r x hx
theorem dt_of{kvs:List (List Key×V)}(ok:HOk P w H h)(e:H a=some (.dT kvs)):kvs.length<=sizeLine/\(a == sysModules)=false /\
  ∃xs,KT H kvs xs/\h.DictOfH (tupleKind (Cy P w)) a xs:=dt_rd ok (.inl e)
end
def Ng(H:Hp)(a:Addr)(y v:V)(H':Hp):Prop :=
 (∃kvs k,H a=some (.dK kvs)/\y=kV k/\kvs.length<sizeLine/\H'=upd H a (.dK (DS kvs k v))) \/
 ∃kvs k b,H a=some (.dT kvs)/\y=.ref b/\H b=some (.tup (k.map kV))/\kvs.length<sizeLine/\H'=upd H a (.dT (DS kvs k v))
theorem Ng.k{H:Hp}{a:Addr}{kvs:List (Key×V)}{k:Key}{v:V}(e:H a=some (.dK kvs))(hl:kvs.length<sizeLine):Ng H a (kV k) v (upd H a (.dK (DS kvs k v))):=.inl ⟨kvs,k,e,rfl,hl,rfl⟩
section
variable {X:Cx}{pins:List (Addr×Obj)}{σ:St}{H:Hp}{s:Shared}{a:Addr}{y v:V}{u r:Value}{o:Option V}{A:Around}{E:Value->Shared->Prop}
theorem Inv.big(I:Inv X pins σ H s):sysModules<s.heap.objs.size:=by
 have h:mainGlobals<s.heap.objs.size:=(I.mod.glob.keeps I.bk).lt;exact yd9 (by decide) h
theorem Yc{h':Heap}{t':Nat}{ob:HO}(I:Inv X pins σ H s)(mu:LH (H a))(hs:Heap.SameBut a s.heap h')(he:∃q,h'.get? a=some q)(new:BK X.prog X.w (upd H a ob) h' a ob) :
  Inv X pins σ (upd H a ob) { s with heap:=h',toks:=t' } :=
 I.write (x:=a) (e:=a) mu (.inl rfl) (λb q hb z=>(hs.2 b hb).trans z) he new
theorem zn4{P:Program}{w:World}{H':Hp}{h':Heap}{kvs:List (Key×V)}{vs:List (Key×Value)}(z:kvs.length<=sizeLine)(hd:(a == sysModules)=false)(rel:KV kvs vs)(dd:h'.DictOf (Cy P w) a vs) :
  BK P w H' h' a (.dK kvs):=⟨z,hd,vs,rel,dd⟩
theorem zef{H':Hp}{Q:Unit->Shared->Prop}(hu:A.units+1<cLine)(I:Inv X pins σ H s)(g:Ng H a y v H')(ry:RelV y u)(rv:RelV v r)(h:∀s',Inv X pins σ H' s'->Q () s') :
  wpAny (model X.prog X.w) A (setItem (.ref a) u r) Q E s:=by
 rcases g with ⟨kvs,k,e,ey,l,eH⟩|⟨kvs,k,b,e,ey,eb,l,eH⟩
 .subst ey eH;obtain⟨z,hd,vs,rel,dd⟩:=dk_of I.hok e;have hz:vs.length<=sizeLine:=by rw[<- rel.length];exact z
  have hl:(DS kvs k v).length<=sizeLine:=by have:=Wo kvs k v;omega
  refine wpAny_setItem_pairs (hsz:=hz) (XC ry) dd λh' dd' hs=>h _ ?_
  have he:∃q,h'.get? a=some q:=let ⟨q,_,_,hq,_⟩:=dd';⟨q,hq⟩;exact Yc I (by rw[e];exact True.intro) hs he (zn4 hl hd (rel.put k rv) dd')
 .subst ey eH;cases (show u=Value.ref b from ry);obtain⟨z,hd,xs,rel,dd⟩:=dt_of I.hok e;have hz:xs.length<=sizeLine:=by rw[<- Paired.length rel];exact z
  have hl:(DS kvs k v).length<=sizeLine:=by have:=Wo kvs k v;omega
  refine wpAny_setItem_heap (hsz:=hz) (tupleKind_room_in1 hu) (XA I.hok eb) dd λh' dd' hs=>h _ ?_
  obtain⟨q,es,ep,hq,h2,h3,h4,_,h5⟩:=dd';refine Yc I (by rw[e];exact True.intro) hs ⟨q,hq⟩ ⟨hl,hd,_,(rel.put k eb rv).keeps λc ys ec=>?_,q,es,ep,hq,h2,h3,h4,h5⟩
  rw[Ak (ne_of ec e (λz=>nomatch z))]
  exact ec
end
section
variable {X:Cx}{pins:List (Addr×Obj)}{σ:St}{H:Hp}{s:Shared}{a:Addr}{kvs:List (Key×V)}{k:Key}{u:Value}{A:Around}{E:Value->Shared->Prop}
end
section
variable {X:Cx}{o i e value:Expr}{pos pos' tpos:Pos}{td ty tv:TE}
end
theorem zgv{P:Program}{w:World}{H:Hp}(h:Heap)(hb:sysModules<h.objs.size):BK P w H (h.push { cls:=.type "dict",data:=.dict #[] }) h.objs.size (.dK []) :=
 ⟨ycf _,beq_eq_false_iff_ne.mpr (yb1 (yau hb)),[],.nil,Heap.DictOf.new h⟩
section
variable {X:Cx}{pos:Pos}
end
section
variable {X:Cx}{pins:List (Addr×Obj)}{σ:St}{H:Hp}{s:Shared}{a:Addr}{y d:V}{u r:Value}{o:Option V}{A:Around}{E:Value->Shared->Prop}
end
section
variable {X:Cx}{o e f:Expr}{apos cpos:Pos}{td ty tx:TE}
end
section
variable {X:Cx}{pins:List (Addr×Obj)}{σ:St}{H:Hp}{s:Shared}{a:Addr}{kvs:List (Key×V)}{A:Around}{E:Value->Shared->Prop}
end
section
variable {X:Cx}{pins:List (Addr×Obj)}{σ:St}{H:Hp}{s:Shared}{a:Addr}{y:V}{u:Value}{A:Around}{E:Value->Shared->Prop}
end
end L2
namespace Zm
theorem zgr(a b:Int):Int.gcd b (a.fmod b)=Int.gcd a b:=by
 rw[Int.fmod_def,Int.gcd_comm a b,Int.mul_comm];exact Int.gcd_sub_mul_right_right b a (a.fdiv b)
theorem fmod_less(a:Int){b:Int}(h:b≠0):(a.fmod b).natAbs<b.natAbs:=by
 rcases Int.lt_or_gt_of_ne h with hb|hb
 .have e:a.fmod b=-((-a).fmod (-b)):=by rw[Int.neg_fmod_neg,Int.neg_neg]
  have h1:=yb7 (-a) (show 0 < -b by omega)
  have h2:=ybo (-a) (show 0 < -b by omega)
  omega
 .have h1:=yb7 a hb;have h2:=ybo a hb
  omega
def gd(a b:Int):Int:=(Int.gcd a b:Nat)
theorem gd_turn{a b a0 b0:Int}(hg:gd a b=gd a0 b0):gd b (a.fmod b)=gd a0 b0:=by
 rw[<- hg];unfold gd;rw[zgr]
theorem gd_abs(a b:Int):gd (if a<0 then -a else a) (if b<0 then -b else b)=gd a b:=by
 unfold gd
 have e1:Int.gcd (if a<0 then -a else a) (if b<0 then -b else b)=Int.gcd a b:=by
  split<;>split<;>simp[Int.gcd_neg,Int.neg_gcd]
 rw[e1]
end Zm
namespace Zw
open PySem PySem.Spec PyProof.Rows L2
def Sm(i:Int):Prop:=-(10 ^ 70)<i/\i<10 ^ 70
theorem Sm.nat{i:Int}(h:Sm i):i.natAbs<10 ^ 70:=by
 unfold Sm at h
 omega
theorem zlc:10 ^ 70<=2 ^ 300:=by decide +kernel
theorem Sm.log{i:Int}(h:Sm i):i.natAbs.log2<300:=by
 by_cases z:i.natAbs=0
 .rw[z]
  decide
 .exact(Nat.log2_lt z).mpr (yam h.nat zlc)
theorem Sm.bits{i:Int}(h:Sm i):Builtin.Int.intBits i<=2 ^ 20:=by
 have q:=h.log;have e20:(2:Nat) ^ 20=1048576:=by decide
 unfold Builtin.Int.intBits;split<;>omega
section
variable {X:Cx}
theorem zir:Ad X (binaryOp .Mult) (rI (λi j=>Sm i/\Sm j) λi j=>.int (i * j)):=KE λ_ _ _ _ _ _ _ hc q=>mul_int q (.of_bits hc.1.bits hc.2.bits)
theorem zg5:Ad X (binaryOp .FloorDiv) (rI (λ_ j=>j≠0/\Sm j) λi j=>.int (i.fdiv j)) :=
 KE λ_ _ _ _ _ _ _ hc q=>floordiv_int hc.1 q (.inl (PyProof.noPylong_of_log2 (yd9 hc.2.log (by decide))))
theorem XS{x:V}{v:Value}{b:Bool}(r:RelV x v):PySem.plainIs v (.bool b)=true/\(v == Value.bool b)=decide (x=V.bl b):=by
 cases x with
 |non=>cases r;exact⟨rfl,by simp⟩
 |bl c=>cases r;exact⟨rfl,by cases c<;>cases b<;>simp⟩
 |int i=>obtain⟨t,rfl⟩:=r;exact⟨rfl,by simp⟩
 |str i=>obtain⟨t,rfl⟩:=r;exact⟨rfl,by simp⟩
 |byt i=>obtain⟨t,rfl⟩:=r;exact⟨rfl,by simp⟩
 |flt i=>obtain⟨t,rfl⟩:=r;exact⟨rfl,by simp⟩
 |ref i=>cases r;exact⟨rfl,by simp⟩
 |ty i=>cases r;exact⟨rfl,by simp⟩
theorem zls:Ad X (compareOp .Is) (λx y H Q=>∃b,y=.bl b/\Q (.bl (decide (x=.bl b))) H):=by
 intro pins s σ H x y v u Q I rx ry h;obtain⟨b,rfl,q⟩:=h;cases ry;obtain⟨e1,e2⟩:=XS (b:=b) rx;exact wpAny_is_plain e1 (Ka I q e2.symm)
theorem ziq:Ad X (compareOp .IsNot) (λx y H Q=>∃b,y=.bl b/\Q (.bl (!decide (x=.bl b))) H):=by
 intro pins s σ H x y v u Q I rx ry h;obtain⟨b,rfl,q⟩:=h;cases ry;obtain⟨e1,e2⟩:=XS (b:=b) rx;exact wpAny_isNot_plain e1 (Ka I q (by rw[e2]))
theorem zh6{c:String}:B0 X (.builtin "isinstance") (λxs H Q=>∃x t b,xs=[x,.ty c]/\TyOf X.K H x t/\PySem.W.kitOne X.K t (.type c)=some b/\Q (.bl b) H):=by
 intro pins s σ H xs us Q I r h;obtain⟨x,t,b,rfl,ty,e,q⟩:=h;obtain⟨u,w',rfl,rx,ry⟩:=Jc r;cases ry;exact XO I rx ty e λtk=>⟨.bl b,H,I.tok _,rfl,q⟩
end
section
variable {X:Cx}
end
section
variable {X:Cx}{pos:Pos}
end
section
variable {X:Cx}
end
theorem zcg:PySem.W.kitMeta "int"=true:=by decide +kernel
theorem zbt:PySem.W.kitMeta "bool"=true:=by decide +kernel
theorem zb9:PySem.W.kitMeta "tuple"=true:=by decide +kernel
theorem zgm(K:kA)(c:String):PySem.W.kitOne K (.type c) (.type c)=some true:=by
 unfold PySem.W.kitOne;rw[if_pos (by simp)]
theorem zmk(K:kA){t c:String}{l:List Value}{b:Bool}(h:t≠c)(hm:PySem.W.kitMeta c=true)(hl:(fastBuiltinMro t).map (·.contains (Value.type c))=some b):PySem.W.kitOne K (.type t) (.type c)=some b:=by
 unfold PySem.W.kitOne;rw[if_neg (by simpa using h)]
 unfold PySem.W.kitCls;show(if PySem.W.kitMeta c=true then PySem.W.subIn K (.type t) (.type c) else none)=some b
 rw[if_pos hm];exact hl
set_option genInjectivity false in
structure FunD(K:kA)(x qual:Str)(st:Stmt)(f:Addr)(fd:FuncData):Prop where
 ex:∃(oc:Value) (od:Option Addr) (dV kV doc pm:Value) (an:Option Addr) (cdv ct:Value) (osl:Array (Option Value)),
  fd=PySem.W.fnOf x qual (JU st) (Ah st) (AL st) dV kV doc pm an cdv ct/\K.lookup f=some ⟨oc,od,.func fd,osl⟩/\PySem.W.codeIn K cdv qual=true
 kp:PySem.W.keepIn K (.ref f)=true
theorem Gh{K:kA}{x qual:Str}{st:Stmt}{f:Addr}{oc:Value}{od an:Option Addr}{osl:Array (Option Value)}{dV kV doc pm cdv ct:Value}(l:K.lookup f=some ⟨oc,od,.func (PySem.W.fnOf x qual (JU st) (Ah st) (AL st) dV kV doc pm an cdv ct),osl⟩)
  (c:PySem.W.codeIn K cdv qual=true) (k:PySem.W.keepIn K (.ref f)=true):FunD K x qual st f (PySem.W.fnOf x qual (JU st) (Ah st) (AL st) dV kV doc pm an cdv ct):=⟨⟨oc,od,dV,kV,doc,pm,an,cdv,ct,osl,rfl,l,c⟩,k⟩
set_option genInjectivity false in
structure Tx(K:kA)(mg:Str->Option Value)(x:Str)(st:Stmt)(ps:List Str) where
 f:Addr
 fd:FuncData
 F:FunD K x x st f fd
 m:mg x=some (.ref f)
 b:Cq K fd ps []
section
variable {X:Cx}{k j:Nat}{x:Str}{ps:List Str}{sp:Sp}{p pos:Pos}{e:Expr}{es:List Expr}{t:TA}
end
theorem Lh{H:Hp}{p:Addr}(h:H p=none)(o:HO):AZ H (upd H p o):=λb u q=>by
 rw[Ak (Bf q h)];exact q
noncomputable def znb(X:Cx)(scope:Scope)(cl:List (Str×Addr))(N':List Str)(C:Addr)(s₀:Shared)(H₀:Hp)(ex:List Addr):Cx :=
 { X with N:=N',s₀:=s₀,H₀:=H₀,env:=compEnvC scope cl C X.env,outer:=X.stack,ex:=ex,fn:=λ_=>false,xe:=λ_ _=>False }
theorem HOk.adopt{P:Program}{w:World}{H:Hp}{h:Heap}{a:Addr}{o:HO}(x:HOk P w H h)(hn:H a=none)(new:BK P w (upd H a o) h a o):HOk P w (upd H a o) h:=λb u e=>by
 by_cases hb:b=a
 .subst hb;rw[Bq]at e;cases e;exact new
 .rw[Ak hb]at e;exact(x b u e).stay (λc v _ q=>q) (λc q=>by rw[Ak (Bf q hn)];exact q) λc xs q=>by rw[Ak (Bf q hn)];exact q
section
variable {X:Cx}{elt iter tg:Expr}{scope:Scope}{pos:Pos}{cl:List (Str×Addr)}{N':List Str}{wi:TI}{g:TG}{te:TE}
end
end Zw
namespace Zx
open PySem PySem.Spec PyProof.Rows L2 Zw
def NU(h B:Heap)(a:Addr)(cls fl:Value):Prop :=
 ∃oe vs T oT ts,h.get? a=some oe/\(oe.cls=cls/\vs[2]?=some .none)/\oe.data=.fields vs/\vs[1]?=some (.ref T)/\B.get? T=none/\T≠a/\h.get? T=some oT/\oT.data=.fields ts/\ts[3]?=some fl
def Ei(B:Heap)(l:List Env)(a:Addr)(cls:Value)(h:Heap):Prop:=B.StaysIn h/\B.get? a=none/\h.FunFrames B l/\NU h B a cls .none
def Sj(B:Heap)(l:List Env)(a:Addr)(cls:Value)(L:Addr)(h:Heap):Prop:=B.StaysIn h/\B.get? a=none/\h.FunFrames B l/\NU h B a cls (rawInt L)
theorem Ei.first{B h:Heap}{l:List Env}{a:Addr}{cls:Value}(x:Ei B l a cls h):∃oe vs,h.get? a=some oe/\oe.cls=cls/\oe.data=.fields vs/\vs[2]?=some .none :=
 let ⟨_,_,_,oe,vs,_,_,_,he,hc,hd,_⟩:=x;⟨oe,vs,he,hc.1,hd,hc.2⟩
theorem Ei.there{B h:Heap}{l:List Env}{a:Addr}{cls:Value}(x:Ei B l a cls h):∃ob,h.get? a=some ob/\ob.cls=cls :=
 let ⟨oe,_,he,hc,_⟩:=x.first;⟨oe,he,hc⟩
section
variable {M:Model}{A:Around}{E:Value->Shared->Prop}{s:Shared}{B:Heap}{env v:Env}{l:List Env}{L a:Addr}{cls:Value}{Q:Unit->Shared->Prop}
theorem Y3{oe:Obj}{vs:Array Value}{head:Value}{hn:Bool}(hfr:A.frames=some (v::l))(hl:s.heap.FunFrames B (v::l))(hL:v.frame=some L)(he:s.heap.get? a=some oe)(hk:B.StaysIn s.heap)(ha:B.get? a=none)
  (hd:oe.data=.fields vs) (hsz:1<vs.size) (h2:vs[2]?=some .none) (h:∀h',Sj B (v::l) a oe.cls L h'->s.heap.UpToSlots h'->Q () { s with heap:=h' }) :
  wpAny M A (do let f <- frameOf v;let pl <- entryPlaceOf L hn;let b <- EntryCells.newEntry head f .none (rawInt L) .none pl;setField (.ref a) 1 b) Q E s:=by
 have nof:a∉(v::l).filterMap (·.frame):=λz=>by
  obtain⟨_,o,ho,n⟩:=hl.mem z;rw[he]at ho;cases ho;exact n vs hd
 refine yeg (wpAny_frameOf_fun hfr hl hL λh1 k1=>?_)
 refine yeg (wpAny_entryPlaceOf λpl hpl=>?_)
 unfold EntryCells.newEntry newFields;refine yeg (yet ?_ (hpl.sizeOk5 _ _ _ _ _));have e1:h1.get? a=some oe:=(k1.2.1 a nof).trans he;have b1:B.StaysIn h1:=λb o q=>(k1.2.1 b λz=>by rw[(hl.mem z).1]at q;cases q).trans (hk b o q)
 have ne:h1.objs.size≠a:=Nat.ne_of_gt (yah e1);refine yeu (ya8 _ e1) hd hsz ?_;have hd3:=ydc hd (·.setIfInBounds 1 (Value.ref h1.objs.size));have kp:∀nw b o,b≠a->h1.get? b=some o->((h1.push nw).update a (Obj.mapFields (·.setIfInBounds 1 (Value.ref h1.objs.size)))).get? b=some o:=λnw b o n q=>(ybf _ _ (yb1 n)).trans (ya8 _ q)
 have nr:∀b o,s.heap.get? b=some o->(∀ws,o.data≠.fields ws)->b≠a:=λb o q n z=>by
  rw[z,he]at q;cases q;exact n vs hd
 have sm:∀nw,s.heap.UpToSlots ((h1.push nw).update a (Obj.mapFields (·.setIfInBounds 1 (Value.ref h1.objs.size)))):=λnw b o q n=>by
  obtain⟨sl,q1⟩:=k1.2.2 b o q;exact⟨sl,kp nw b _ (nr b o q n) q1⟩
 refine h _ ⟨λb o q=>kp _ b o (λz=>by rw[z,ha]at q;cases q) (b1 b o q),ha,hl.of_keeps λb o q n=>?_,_,_,h1.objs.size,_,_,ycs _ (ya8 _ e1) (yds hd3),⟨Obj.cls_mapFields _ _,?_⟩,hd3,by simp[hsz],b1.fresh,ne,
  (ybf _ _ (yb1 ne)).trans (yao h1 rfl),rfl,?_⟩ (sm _)
 .obtain⟨sl,q1⟩:=sm _ b o q n;exact⟨_,q1,rfl⟩
 .rw[Array.getElem?_setIfInBounds_ne (by decide)]
  exact h2
 .first|(simp;done)|(rcases hpl with rfl|⟨_,_,_,_,_,_,_,rfl⟩<;>simp)
theorem YX{fl:Value}(hk:B.StaysIn s.heap)(ha:B.get? a=none)(hl:s.heap.FunFrames B l)(ht:NU s.heap B a cls fl)(h:∀h',Ei B l a cls h'->s.heap.UpToSlots h'->Q () { s with heap:=h' }):wpAny M A (setFlight (.ref a) none) Q E s:=by
 obtain⟨oe,vs,T,oT,ts,he,hc,hd,g1,nT,Tne,hT,dT,g3⟩:=ht;have s3:3<ts.size:=(ybs.mp g3).1;have oth:∀b,b≠T->(s.heap.update T (Obj.mapFields (·.setIfInBounds 3 ((none:Option Addr).elim Value.none λf=>rawInt f)))).get? b=s.heap.get? b:=λb hb=>ybf _ _ (yb1 hb)
 have nr:∀b o,s.heap.get? b=some o->(∀ws,o.data≠.fields ws)->b≠T:=λb o q n z=>by
  rw[z,hT]at q;cases q;exact n ts dT
 unfold setFlight;refine yeg (yev he hd g1 ?_);rw[if_pos (by simp)]
 exact yeu hT dT s3 (h _ ⟨λb o q=>(oth b λz=>by rw[z,nT]at q;cases q).trans (hk b o q),ha,hl.of_keeps λb o q n=>⟨o,(oth b (nr b o q n)).trans q,rfl⟩,
  oe,vs,T,_,_,(oth a (yb1 Tne)).trans he,hc,hd,g1,nT,Tne,ycs _ hT (yds (ydc dT _)),ydc dT _,by simp[s3]⟩ λb o q n=>⟨o.slots,(oth b (nr b o q n)).trans q⟩)
theorem QZ(hh:Sj B l a cls L s.heap)(hQ:∀h',Ei B l a cls h'->s.heap.UpToSlots h'->Q () { s with heap:=h' }):wpAny M A (setFlight (.ref a) none) Q E s :=
 YX hh.1 hh.2.1 hh.2.2.1 hh.2.2.2 hQ
theorem znj(hh:Ei B l a cls s.heap)(hQ:∀h',Ei B l a cls h'->s.heap.UpToSlots h'->Q () { s with heap:=h' }):wpAny M A (setFlight (.ref a) none) Q E s :=
 YX hh.1 hh.2.1 hh.2.2.1 hh.2.2.2 hQ
theorem madeX{h:Heap}{args:List Value}(hfr:A.frames=some (v::l))(hL:v.frame=some L)(hk:B.StaysIn h)(hl:h.FunFrames B (v::l))(hx:Heap.MadeExcOf h s.heap a cls args)
  (hQ:∀h',Ei B l a cls h'->s.heap.UpToSlots h'->Q () { s with heap:=h' }):wpAny M A (leaving v (.ref a)) Q E s:=by
 obtain⟨t,he,_,_⟩:=hx.there
 have fr:B.get? a=none:=by
  cases q:B.get? a with
  |none=>rfl
  |some o =>
   have:=hk a o q;rw[hx.new]at this;cases this
 unfold leaving noteFrame;simp only[hL];refine yeg (yeg (yev (x:=.none) he rfl rfl ?_));rw[if_neg (by simp)]
 refine Y3 hfr (hl.of_keeps λb o q _=>⟨o,hx.keeps b o q,rfl⟩) hL he (λb o q=>hx.keeps b o (hk b o q)) fr rfl (by simp) rfl λh1 k1 sm=>QZ (s:={ s with heap:=h1 }) k1 λh2 k2 sm2=>?_
 obtain⟨k1,k2,⟨_,_,k3⟩,k4⟩:=k2;exact hQ h2 ⟨k1,k2,k3,k4⟩ (sm.trans sm2)
end
def IE(B:Heap)(l:List Env)(a:Addr)(cls:Value)(h:Heap):Prop:=∃fl,B.StaysIn h/\B.get? a=none/\h.FunFrames B l/\NU h B a cls fl
theorem YW{B h:Heap}{l:List Env}{a:Addr}{cls:Value}(x:Ei B l a cls h):IE B l a cls h:=⟨.none,x⟩
section
variable {M:Model}{A:Around}{E:Value->Shared->Prop}{s:Shared}{B:Heap}{env v:Env}{l:List Env}{L a:Addr}{cls:Value}{Q:Unit->Shared->Prop}
theorem Pn(hfr:A.frames=some (v::l))(hv:env.frame=v.frame)(hL:v.frame=some L)(hx:IE B (v::l) a cls s.heap)(hQ:∀h',Sj B (v::l) a cls L h'->s.heap.UpToSlots h'->Q () { s with heap:=h' }):wpAny M A (noteFrame (.ref a) env) Q E s:=by
 have en:noteFrame (.ref a) env=noteFrame (.ref a) v:=by
  unfold noteFrame PySem.frameOf;rw[hv]
 rw[en];obtain⟨fl,f1,f2,f3,f4⟩:=hx
 by_cases hfl:fl=rawInt L
 .subst hfl;obtain⟨oe,ws,Tb,oT,ts,ha,_,hd,g1,_,_,hT,dT,g3⟩:=id f4;unfold noteFrame;simp only[hL];refine yeg (yev ha hd g1 ?_);rw[if_pos (by simp)]
  refine yeg (yev hT dT g3 ?_);rw[if_pos (by simp)]
  exact yej (hQ _ ⟨f1,f2,f3,f4⟩ (.refl _))
 .obtain⟨oe,ws,Tb,oT,ts,ha,⟨rfl,g0⟩,hd,g1,nT,Tne,hT,dT,g3⟩:=f4;have g3s:=(ybs.mp g3).1;have oth:∀b,b≠Tb->(s.heap.update Tb (Obj.mapFields (·.setIfInBounds 3 Value.none))).get? b=s.heap.get? b:=λb hb=>ybf _ _ (yb1 hb)
  have nr:∀b o,s.heap.get? b=some o->(∀us,o.data≠.fields us)->b≠Tb:=λb o hb hn z=>by
   rw[z,hT]at hb;cases hb;exact hn ts dT
  unfold noteFrame;simp only[hL];refine yeg (yev ha hd g1 ?_);rw[if_pos (by simp)]
  refine yeg (yev hT dT g3 ?_);rw[if_neg (λz=>hfl (beq_iff_eq.mp z))]
  refine yeg (yeu hT dT g3s ?_);refine Y3 hfr (f3.of_keeps λb o hb hn=>⟨o,(oth b (nr b o hb hn)).trans hb,rfl⟩) hL ((oth a (yb1 Tne)).trans ha) (λb o hb=>(oth b λz=>by rw[z,nT]at hb;cases hb).trans (f1 b o hb)) f2 hd (ybs.mp g1).1 g0 λh' k k4=>?_
  exact hQ h' k λb o hb hn=>k4 b o ((oth b (nr b o hb hn)).trans hb) hn
theorem leavX(hfr:A.frames=some (v::l))(hL:v.frame=some L)(hx:IE B (v::l) a cls s.heap)(hQ:∀h',Ei B l a cls h'->s.heap.UpToSlots h'->Q () { s with heap:=h' }):wpAny M A (leaving v (.ref a)) Q E s:=by
 unfold leaving;refine yeg (Pn hfr rfl hL hx λh1 hh sm1=>QZ hh λh2 hf sm2=>?_)
 obtain⟨k1,k2,⟨_,_,k3⟩,k4⟩:=hf;exact hQ h2 ⟨k1,k2,k3,k4⟩ (sm1.trans sm2)
end
def Bk(P:Program)(w:World):Ek:=λouter H s E e s'=>∃(a:Addr) (cls:Value) (H':Hp) (B:Heap),
 e=.ref a/\s'.os=s.os/\AllBare s'.gens/\Un (Az outer) [] H H' s.heap s'.heap/\HOk P w H' B/\(∀b o,s.heap.get? b=some o->H b=none->b∉Az outer->B.get? b=some o) /\
 (∀b o,s.heap.get? b=some o->b∉Az outer->∃o',B.get? b=some o')/\IE B outer a cls s'.heap/\E cls none H'
theorem zez{P:Program}{w:World}{H:Hp}{h:Heap}{a:Addr}{o:HO}(x:BK P w H h a o):∃ob,h.get? a=some ob:=by
 cases o with
 |lst xs=>obtain⟨_,_,_,_,e⟩:=x;exact⟨_,e⟩
 |tup xs=>obtain⟨_,_,_,o',e,_⟩:=x;exact⟨o',e⟩
 |dK kvs=>obtain⟨_,_,_,_,o',_,_,e,_⟩:=x;exact⟨o',e⟩
 |dT kvs=>obtain⟨_,_,_,_,o',_,_,e,_⟩:=x;exact⟨o',e⟩
 |set S n=>obtain⟨o',_,_,_,e,_⟩:=x;exact⟨o',e⟩
 |ins C dx fs=>obtain⟨_,_,_,e,_⟩:=x;exact⟨_,e⟩
 |own y=>exact x
 |xd fs=>obtain⟨_,⟨o',_,_,e,_⟩,_⟩:=x;exact⟨o',e⟩
 |rng lo hi=>obtain⟨_,_,_,e⟩:=x;exact⟨_,e⟩
 |frz ob u=>obtain⟨e,_⟩:=x;exact⟨_,e⟩
 |tbl ps=>exact⟨_,(show h.get? a=some _ from x)⟩
 |met f y=>exact⟨_,(show h.get? a=some _ from x)⟩
 |ext φ=>obtain⟨_,e,_⟩:=x;exact e
theorem zj1{P:Program}{w:World}{H:Hp}{h:Heap}{a:Addr}(x:HOk P w H h)(e:h.get? a=none):H a=none:=by
 cases q:H a with
 |none=>rfl
 |some u =>
  obtain⟨ob,z⟩:=zez (x a u q);rw[e]at z;cases z
theorem znk{P:Program}{w:World}{H:Hp}{h:Heap}{a:Addr}{o:HO}(x:HOk P w H h)(hn:H a=none)(new:BK P w (upd H a o) h a o):HOk P w (upd H a o) h:=λb u e=>by
 by_cases hb:b=a
 .subst hb;have e':=Bq.symm.trans e;cases e';exact new
 .have e':=(Ak (H:=H) (o:=o) hb).symm.trans e;exact(x b u e').stay (λc v _ q=>q) (λc q=>(Ak (Bf q hn)).trans q) λc xs q=>(Ak (Bf q hn)).trans q
def BH(X:Cx)(E:L2.St->XK):Prop:=∀(pins:List (Addr×Obj)) (σ:L2.St) (H:Hp) (s:Shared) (e:Value) (s':Shared),Inv X pins σ H s->Bk X.prog X.w X.stack H s (E σ) e s'->X.xe e s'
def Sf(X:Cx)(E:L2.St->XK):Prop:=∀(pins:List (Addr×Obj)) (σ:L2.St) (H:Hp) (s:Shared) (a:Addr) (cls:Value) (vs:List Value) (h':Heap),Inv X pins σ H s->Heap.MadeExcOf s.heap h' a cls vs->E σ cls none H->X.xe (.ref a) { s with heap:=h' }
section
variable {X:Cx}{pins:List (Addr×Obj)}{σ:L2.St}{H:Hp}{s:Shared}
theorem MQ(I:Inv X pins σ H s){b:Addr}{o:Obj}(e:X.s₀.heap.get? b=some o)(hb:b∉Az X.outer):b∉Az X.stack:=λz=>by
 rcases yad.mp (I.stkSub b z) with q|q
 .exact absurd (yam (yah e) I.ok.above) (by rw[q];exact yba _)
 .exact hb q
theorem zdo(hst:X.stack=X.env::X.outer){b:Addr}(hb:b∈Az X.outer):b∈Az X.stack:=by
 rw[hst];obtain⟨v,h1,h2⟩:=yc7.mp hb;exact yc7.mpr ⟨v,ya0 _ h1,h2⟩
theorem zmy(I:Inv X pins σ H s):HOk X.prog X.w H (PySem.W.hideAll s.heap (Az X.stack)):=λb u e=>(I.hok b u e).stay (λc v hc q=>yc3 _ q λz=>by
  have f:=I.stkFree c z
  rcases hc with y|y
  .rw[y,e]at f;cases f
  .rw[y]at f;cases f) (λ_ q=>q) λ_ _ q=>q
theorem zj8(hst:X.stack=X.env::X.outer)(hf:X.env.frame=some X.env.locals)(hex:X.ex=[]){E:XK}{a:Addr}{cls:Value}{vs:List Value}{h':Heap}{Ex:Value->Shared->Prop}(I:Inv X pins σ H s)(hx:Heap.MadeExcOf s.heap h' a cls vs)(he:E cls none H) :
  wpAny (model X.prog X.w) X.A (leaving X.env (.ref a)) (λ_ s2=>Bk X.prog X.w X.outer X.H₀ X.s₀ E (.ref a) s2) Ex { s with heap:=h' }:=by
 have nex:∀b:Addr,b∉X.ex:=λb z=>by rw[hex]at z;cases z
 have hfr:X.A.frames=some (X.env::X.outer):=hst▸I.ok.frames
 have FF:s.heap.FunFrames (PySem.W.hideAll s.heap (Az X.stack)) (X.env::X.outer):=by
  rw[<- hst];exact PySem.W.funFrames_hide I.stack λv hv b hb=>yc7.mpr ⟨v,hv,hb⟩
 refine madeX (B:=PySem.W.hideAll s.heap (Az X.stack)) (h:=s.heap) (args:=vs) hfr hf (λb o q=>ycm _ q) FF hx λh2 fl sm=>?_
 have kB:∀b o,X.s₀.heap.get? b=some o->X.H₀ b=none->b∉Az X.outer->(PySem.W.hideAll s.heap (Az X.stack)).get? b=some o:=λb o e n hb=>yc3 _ (I.base.keep b o e n hb (nex b)) (MQ I e hb)
 have tB:∀b o,X.s₀.heap.get? b=some o->b∉Az X.outer->∃o',(PySem.W.hideAll s.heap (Az X.stack)).get? b=some o':=λb o e hb=>by
  obtain⟨o',e'⟩:=I.base.there b o e (nex b);exact⟨o',yc3 _ e' (MQ I e hb)⟩
 have sl:∀b o,X.s₀.heap.get? b=some o->X.H₀ b=none->b∈Az X.outer->∃z,h2.get? b=some { o with slots:=z }:=λb o e n hb=>by
  obtain⟨z,e1⟩:=I.base.slot b o e n hb (nex b);obtain⟨_,o2,ho2,hd⟩:=I.funs.mem hb;rw[e1]at ho2;cases ho2;obtain⟨z3,e3⟩:=sm b { o with slots:=z } (hx.keeps b _ e1) hd
  exact⟨z3,e3⟩
 refine⟨a,cls,H,_,rfl,I.os,I.bare,⟨λb o e n hb _=>fl.1 b o (kB b o e n hb),λb o e n hb _=>sl b o e n hb,λb o e n _=>I.base.free b o e n (nex b),λb o e _=>?_,I.base.tups,I.base.frzs,I.base.tbls⟩,zmy I,kB,tB,YW fl,he⟩
 by_cases hb:b∈Az X.outer
 .obtain⟨z,q⟩:=sl b o e (I.ok.frf b hb) hb;exact⟨_,q⟩
 .obtain⟨o',q⟩:=tB b o e hb;exact⟨o',fl.1 b o' q⟩
theorem zin(hst:X.stack=X.env::X.outer)(hf:X.env.frame=some X.env.locals)(hex:X.ex=[]){E:XK}{e:Value}{s':Shared}{Ex:Value->Shared->Prop}(I:Inv X pins σ H s)(h:Bk X.prog X.w X.stack H s E e s') :
  wpAny (model X.prog X.w) X.A (leaving X.env e) (λ_ s2=>Bk X.prog X.w X.outer X.H₀ X.s₀ E e s2) Ex s':=by
 obtain⟨a,cls,H',B,rfl,os,bare,un,hok,kB0,tB0,fl0,he⟩:=h;have nex:∀b:Addr,b∉X.ex:=λb z=>by rw[hex]at z;cases z
 have hfr:X.A.frames=some (X.env::X.outer):=hst▸I.ok.frames;have fl1:IE B (X.env::X.outer) a cls s'.heap:=hst▸fl0;refine leavX hfr hf fl1 λh2 fl sm=>?_
 have kB:∀b o,X.s₀.heap.get? b=some o->X.H₀ b=none->b∉Az X.outer->B.get? b=some o:=λb o e n hb=>kB0 b o (I.base.keep b o e n hb (nex b)) (I.base.free b o e n (nex b)) (MQ I e hb)
 have tB:∀b o,X.s₀.heap.get? b=some o->b∉Az X.outer->∃o',B.get? b=some o':=λb o e hb=>by
  obtain⟨o',e'⟩:=I.base.there b o e (nex b);exact tB0 b o' e' (MQ I e hb)
 have sl:∀b o,X.s₀.heap.get? b=some o->X.H₀ b=none->b∈Az X.outer->∃z,h2.get? b=some { o with slots:=z }:=λb o e n hb=>by
  obtain⟨z,e1⟩:=I.base.slot b o e n hb (nex b);obtain⟨_,o2,ho2,hd⟩:=I.funs.mem hb;rw[e1]at ho2;cases ho2;obtain⟨z2,e2⟩:=un.slot b { o with slots:=z } e1 (I.base.free b o e n (nex b)) (zdo hst hb) (by simp)
  obtain⟨z3,e3⟩:=sm b { o with slots:=z2 } e2 hd
  exact⟨z3,e3⟩
 refine⟨a,cls,H',B,rfl,os.trans I.os,bare,⟨λb o e n hb _=>fl.1 b o (kB b o e n hb),λb o e n hb _=>sl b o e n hb,λb o e n _=>?_,λb o e _=>?_,λb xs e=>un.tups b xs (I.base.tups b xs e),λb o u e=>un.frzs b o u (I.base.frzs b o u e),λb ps e=>?_⟩,hok,kB,tB,YW fl,he⟩
 .obtain⟨o',e'⟩:=I.base.there b o e (nex b);exact un.free b o' e' (I.base.free b o e n (nex b)) (by simp)
 .by_cases hb:b∈Az X.outer
  .obtain⟨z,q⟩:=sl b o e (I.ok.frf b hb) hb;exact⟨_,q⟩
  .obtain⟨o',q⟩:=tB b o e hb;exact⟨o',fl.1 b o' q⟩
 .obtain⟨m1,e1⟩:=I.base.tbls b ps e;obtain⟨m2,e2⟩:=un.tbls b _ e1;exact⟨m1++m2,e2.trans (by rw[Array.append_assoc])⟩
end
section
variable {P:Program}{w:World}{K:kA}{mg:Str->Option Value}{base:Heap}
theorem VD{N:List Str}{qual:Str}{sc:Scope}{f:Addr}{cd:Value}{A:Around}{outer:List Env}{s:Shared}{H:Hp}{E:XK}:BH (ES (Bk P w) P w K mg base N qual sc f cd A outer s H E) (λ_=>E) :=
 λ_ _ _ _ _ _ I h=>zin rfl rfl rfl I h
theorem Wc{N:List Str}{qual:Str}{sc:Scope}{f:Addr}{cd:Value}{A:Around}{outer:List Env}{s:Shared}{H:Hp}{E:XK}:Sf (ES (Bk P w) P w K mg base N qual sc f cd A outer s H E) (λ_=>E) :=
 λ_ _ _ _ _ _ _ _ I hx he=>zj8 rfl rfl rfl I hx he
theorem VM{x qual:Str}{st:Stmt}{f:Addr}{fd:FuncData}{N ps:List Str}{k:Nat}{sp:Sp}(F:FunD K x qual st f fd)(S:FnScope N ps (AL st))(len:∀vs H Q E,sp vs H Q E->vs.length=ps.length)
  (hbody : ∀ (cdv : Value) (A : Around) (outer : List Env) (s : Shared) (H : Hp) (vs : List V) (Q : VK) (E : XK), Room k (A.deeper (envOfC qual (AL st) s.heap.objs.size f cdv)) -> sp vs H Q E ->
   ∃t,BJ (ES (Bk P w) P w K mg base N qual (AL st) f cdv A outer s H E) (Ah st) t/\t { nx:=λ_ H'=>Q .non H',rt:=Q } (start N vs) H):FnOk P w K mg base (Bk P w) (k+1) f fd ps sp:=by
 obtain⟨oc,od,dV,kV,doc,pm,an,cdv,ct,osl,rfl,lk,hcd⟩:=F.ex;exact fn_of lk hcd S len λA outer s H vs Q E hr hsp=>hbody cdv A outer s H vs Q E hr hsp
end
set_option genInjectivity false in
structure DefX(P:Program)(w:World)(K:kA)(mg:Str->Option Value)(base:Heap)(k:Nat)(x:Str)(ps:List Str)(sp:Sp) where
 f:Addr
 fd:FuncData
 ok:FnOk P w K mg base (Bk P w) k f fd ps sp
 m:mg x=some (.ref f)
 kp:PySem.W.keepIn K (.ref f)=true
 b:Cq K fd ps []
section
variable {X:Cx}{k j:Nat}{f:Addr}{fd:FuncData}{x:Str}{ps:List Str}{sp:Sp}{p pos:Pos}{e:Expr}{es:List Expr}{t:TA}{E:L2.St->XK}{dvs:List V}
theorem zhv{pins:List (Addr×Obj)}{σ:L2.St}{H:Hp}{s:Shared}{Q:VK}{us ds:List Value}{vs:List V}(F:FnOk X.prog X.w X.K X.mg X.base (Bk X.prog X.w) k f fd ps sp)(hr:Room k X.A)(hb:Cq X.K fd ps ds)(hd:A9 dvs ds)(hx:BH X E)
  (I:Inv X pins σ H s) (r:A9 vs us) (h:sp (vs++dvs) H Q (E σ)):wpAny (model X.prog X.w) X.A (call (.ref f) us) (EP X pins σ Q) X.xe s:=by
 have r2:A9 (vs++dvs) (us++ds):=r.append hd;have hl:(us++ds).length=ps.length:=r2.length.symm.trans (F.len _ _ _ _ h);refine yew (yes (F.run X.A X.stack s H ⟨us,[]⟩ (us++ds) (vs++dvs) Q (E σ) hr I.env0 (hb s us I.kIn hl) r2 h) λr s' hq=>?_)
 cases r with
 |error v=>exact hx pins σ H s v s' I hq
 |ok fl =>
  cases fl with
  |ret u=>exact I.after hq
  |_=>exact False.elim hq
def T6(sp:Sp)(dvs:List V)(E:L2.St->XK)(t:TA):TE:=λσ H Q=>t σ H λvs H1=>sp (vs++dvs) H1 Q (E σ)
theorem px(D:DefX X.prog X.w X.K X.mg X.base k x ps sp)(hr:Room j X.A)(hx:BH X E)(ha:PA X (e::es) t)(hk:k<=j:=by decide)(hg:Gl X x:=by rfl)(hdb:(x == ("__debug__":Str))=false:=by decide)
  (he:starEach (e::es) X.env=(false,eval e X.env)::starEach es X.env:=by rfl) (hpl:(backTo pos (starEach es X.env)).any (·.1)=false:=by rfl):PE X (.Call (.Name x p) (e::es) [] pos) (T6 sp [] E t):=by
 intro pins s σ H Q I h;refine yem (JB I hg D.m ?_ hdb);refine ydz (h₀:=X.base) I.ok.mod.kin D.kp (AS (ha pos pins s σ H _ I h) λus s1 ⟨vs,H1,I1,r,q⟩=>⟨I1.kIn,?_⟩) he hpl
 exact zhv D.ok (hr.mono hk) D.b .nil hx I1 r q
end
abbrev vmro:List Value:=[.type "ValueError",.type "Exception",.type "BaseException",.type "object"]
structure ExcK(K:kA)(C:Addr):Prop where
 q:PySem.W.excIn K C vmro "ValueError.__new__"=true
 self:PySem.W.subIn K (.ref C) (.ref C)=some true
 cd:∃cd,PySem.W.clsIn K C=some cd
 ty:PySem.W.typeIn K (.ref C)=some (.type "type")
 ga:PySem.W.findIn K (.ref C) "__getattribute__"=some (some (.builtin "BaseException.__getattribute__"))
 gt:PySem.W.findIn K (.ref C) "__getattr__"=some none
 ca:PySem.W.findIn K (.ref C) "__class__"=some (some (.builtin "object.__class__"))
 ob:PySem.W.mroIn K C (.type "object")=some true
 be:PySem.W.mroIn K C (.type "BaseException")=some true
 gs:PySem.W.specialIn K (.builtin "object.__class__") "__get__"=some (some (.builtin "getset_descriptor.__get__"))
 tk:PySem.W.takesIn K (.builtin "object.__class__")=some true
structure ECls(K:kA)(mg:Str->Option Value)(x:Str) where
 C:Addr
 m:mg x=some (.ref C)
 k:ExcK K C
theorem YZ{K:kA}{h:Heap}{C:Addr}{bmB:List Value}{newId:String}(X:K.In h)(q:PySem.W.excIn K C bmB newId=true):∃bm N nm qn bs hd sn sub ab col dd k0 k1 k2 k3 k5 mN,
  h.get? C=some (excClassObj nm qn C N bs bm hd sn sub ab col dd k0 k1 k2 k3 k5 newId)/\h.Ns N mN/\mN "__init__"=none/\OwnTail h bmB bm:=by
 unfold PySem.W.excIn at q;split at q
 .rename_i dd cd sl ho;split at q
  .rename_i C2 bm k0 k1 k2 k3 nid k5 hm hs;simp only[ycb,ya2,yex]at q;obtain⟨⟨⟨⟨⟨z1,z2⟩,hdel⟩,ht⟩,hok⟩,hni⟩:=q;subst z1;subst z2;obtain⟨nm,bs,mro,nsp,qn,hd,sn,sub,ab,col,dl⟩:=cd;dsimp only at hm hok hni hdel;subst hm;subst hdel
   have hsl:sl=#[k0,k1,k2,k3,some (.builtin nid),k5]:=by
    obtain⟨l⟩:=sl;have hs':l=[k0,k1,k2,k3,some (.builtin nid),k5]:=hs;rw[hs']
   subst hsl;exact⟨bm,nsp,nm,qn,bs,hd,sn,sub,ab,col,dd,k0,k1,k2,k3,k5,_,X _ _ ho,.of_isNs (PySem.W.isNs_of_in X hok),PySem.W.nsMap_none_of_in X hok hni,PySem.W.tail_of_in X ht⟩
  .exact absurd q yb9
 .exact absurd q yb9
section
variable {X:Cx}{x:Str}{p cpos pos:Pos}{e:Expr}{es:List Expr}{t:TA}{E:L2.St->XK}
def zk7(C:Addr)(E:L2.St->XK)(t:TA):TS:=λ_ σ H=>t σ H λvs H1=>vs.length<=sizeLine/\E σ (.ref C) none H1
theorem zfz(T:ECls X.K X.mg x)(hc:X.calm=true)(hx:Sf X E)(ha:PA X (e::es) t)(hg:Gl X x:=by rfl)(hdb:(x == ("__debug__":Str))=false:=by decide)
  (he:starEach (e::es) X.env=(false,eval e X.env)::starEach es X.env:=by rfl) (hpl:(backTo cpos (starEach (e::es) X.env)).any (·.1)=false:=by rfl) :
  PS X (.Raise (some (.Call (.Name x p) (e::es) [] cpos)) none pos) (zk7 T.C E t):=by
 intro pins s σ H D I h;obtain⟨bm,N,nm,qn,bs,hd,sn,sub,ab,col,dd,k0,k1,k2,k3,k5,mN,hC,hN,hni,TL⟩:=YZ I.mod.kin T.k.q
 refine wpAny_Raise_call_subT (C:=T.C) (nm:=nm) (q:=qn) (N:=N) (bs:=bs) (bm:=bm) (hdct:=hd) (sn:=sn) (sub:=sub) (ab:=ab) (col:=col) (dd:=dd) (k0:=k0) (k1:=k1) (k2:=k2) (k3:=k3) (k5:=k5) (mN:=mN)
  ycz (TL.hasType ycz.hasBase) (I.ok.hd hc) hpl hni (JB I hg T.m ⟨rfl,?_⟩ hdb)
 have h2:=ha cpos pins s σ H _ I h;rw[he]at h2 ⊢;exact Calls.evalArgs_plain (AS h2 λus s1 ⟨vs,H1,I1,r,z,q1⟩=>⟨rfl,r.length▸z,I1.bk _ _ hC,hN.keeps I1.bk,TL.keeps I1.bk,λh' a hm=>hx pins σ H1 s1 a _ us h' I1 hm q1⟩)
end
def EW(H:Hp)(a C:Addr):Prop:=∃ob,H a=some (.frz ob (.own 0))/\ob.cls=.ref C/\∃vs,ob.data=.fields vs/\vs[2]?=some .none
theorem EW.of{H F:Hp}{a C:Addr}(x:EW H a C)(e:∀u,H a=some u->F a=some u):EW F a C :=
 let ⟨ob,y,r⟩:=x;⟨ob,e _ y,r⟩
section
variable {K:kA}{a C:Addr}
open PySem.W PySem.Builtin PySem.Builtin.ObjectAttr PySem.Builtin.Getset_descriptor in
theorem zjy{prog:Program}{w:World}{A:Around}{R:Result->Shared->Prop}{s:Shared}{tp:Value}(X:K.In s.heap)(k:ExcK K C)(h0:∃o,s.heap.get? a=some o/\o.cls=.ref C)
  (h:R (.ok (.ret (.ref C))) s):codeAny (model prog w) A (.call (.builtin "getset_descriptor.__get__") ⟨[.builtin "object.__class__",.ref a,tp],[]⟩) R s:=by
 obtain⟨o,ho,hc⟩:=h0;obtain⟨hp9,g,dr,t,os⟩:=s;have L0:Looks (model prog w) hp9 (typeOf (.ref a)) (.ref C):=hc▸(Looks.ld ho).andThen .now;have L1:=looks_mroIn (M:=model prog w) X k.ob;refine(yey KF.slot_gs.plain KF.entry_gs (KF.slot_gs.check _ _ _ _ _ _ _ _ KF.type_class (KF.args_gs _ _ _) ?_));unfold Builtin.«getset_descriptor.__get__» descrGet;rw[dga_obj];refine yeg (yej ?_);unfold descrGetter descrCheckInstance descrNameAndClass isInstance;simp only[KF.owner_class]
 repeat lk
 refine⟨(Code.quiet_builtin _ (by decide +kernel)),(yez KF.entry_class ?_)⟩
 (unfold Builtin.«object.__class__» shownTypeOf)
 repeat lk
 exact h
open PySem.W PySem.Builtin PySem.Builtin.ObjectAttr in
theorem zhc{M:Model}{h:Heap}(X:K.In h)(k:ExcK K C):Looks M h (Builtin.ObjectAttr.find (.ref a) (.ref C) "__class__") (.bind (.builtin "getset_descriptor.__get__") (.builtin "object.__class__")):=by
 have L1:=looks_findIn (M:=M) X k.ca;have L2:Looks M h (getOf (some (.builtin "object.__class__"))) (some (.builtin "getset_descriptor.__get__")):=looks_specialIn X k.gs;have L3:=looks_takesIn (M:=M) X k.tk;exact L1.andThen (L2.andThen ((show Looks M h (dataDescriptor? (some (.builtin "object.__class__")) (some (.builtin "getset_descriptor.__get__"))) (some (.builtin "getset_descriptor.__get__",.builtin "object.__class__")) from L3.andThen .now).andThen (Looks.tag .now)))
theorem zew:(Value.builtin "BaseException.__getattribute__" == Value.builtin "object.__getattribute__")=false:=by decide +kernel
theorem zhb:builtinKind "BaseException.__getattribute__"=some .slot:=by decide +kernel
theorem zev:splitId "BaseException.__getattribute__"=some ("BaseException","__getattribute__"):=by decide +kernel
open PySem.W in
theorem zhd{prog:Program}{w:World}{A:Around}{E:Value->Shared->Prop}{Q:Option Value->Shared->Prop}{s:Shared}(X:K.In s.heap)(k:ExcK K C)(h0:∃o,s.heap.get? a=some o/\o.cls=.ref C)
  (h:Q (some (.ref C)) { s with toks:=s.toks+1 }):wpAny (model prog w) A (getAttr? (.ref a) "__class__") Q E s:=by
 obtain⟨o,ho,hc⟩:=id h0;obtain⟨hp9,g,dr,t,os⟩:=s;have L0:Looks (model prog w) hp9 (typeOf (.ref a)) (.ref C):=hc▸(Looks.ld ho).andThen .now;have L1:=looks_findIn (M:=model prog w) X k.ga;have L2:=looks_findIn (M:=model prog w) X k.gt;have LI:Looks (model prog w) hp9 (isInstance (.ref a) (.type "BaseException")) true:=L0.andThen (looks_mroIn X k.be);have LF:=zhc (M:=model prog w) (a:=a) X k
 (unfold getAttr? getAttrBy? getAttrBy)
 refine yeg (wpAny_mkText (yeg (wpAny_attempt (yeh (yeg (L0.at (yeg (L1.at ?ga))))))))
 case ga =>
  have hx1:(onTheHeap (Value.ref C) && Value.builtin "BaseException.__getattribute__" == Value.builtin "object.__getattribute__")=false:=by
   rw[zew]
   rfl
  dsimp only;rw[if_neg (by rw[hx1];exact yb9)]
  unfold getAttrByItsOwn hookBefore;rw[if_pos (show onTheHeap (Value.ref C)=true from rfl)];refine yeg (L2.at (yeg (wpAny_attempt (yeh ?_))));unfold callGetattribute boundAndCalled;rw[if_neg (by exact yb9)]
  refine yeg (yf0 (PySem.F.excAttr_ValueError.ga.bind (.ref a)) ?_);show wpAny _ _ (call (.builtin "BaseException.__getattribute__") [.ref a,.str "__class__" t]) _ _ _;refine yew (yey PySem.F.excAttr_ValueError.ga.plain PySem.F.entry_bexc_ga ?_);have ha:=PySem.F.args_bexc_ga (.ref a) (.str (Str.ofString "__class__") t);obtain⟨i,hi⟩:∃i,i="BaseException.__getattribute__":=⟨_,rfl⟩;have k1:=zhb;have k2:=zev;rw[<- hi]at k1 k2 ha ⊢;refine PySem.W.check_slot k1 k2 LI ha ?_;refine yeg (yej (yeg (yej (yeg (L0.at (yeg (LF.at ?_)))))));show wpAny _ _ (holding [.builtin "object.__class__"] (call (.builtin "getset_descriptor.__get__") [.builtin "object.__class__",.ref a,.ref C]) >>= ret) _ _ _;refine yeg (yeh (yew (zjy X k h0 ?_)));exact yej (handed_on rfl (yej h))
open PySem.W in
theorem zgl(k:ExcK K C):KitX K (.ref a) (.ref C) (λh=>∃o,h.get? a=some o/\o.cls=.ref C) where
 ty:=λ_ _ _ p=>by
  obtain⟨o,ho,hc⟩:=p;exact hc▸(Looks.ld ho).andThen .now
 it:=λ_ _ X _=>by
  obtain⟨cd,hcd⟩:=k.cd;unfold clsIn at hcd;split at hcd
  .rename_i c' d' cd' sl' ho;intro A' Q' E' s' kk q;unfold isType loadHead;exact(yeg (wpAny_loadPart (kk _ _ (X _ _ ho)) (yej q)))
  .cases hcd
 ne:=λh tp dd its n sl X hq0=>by
  obtain⟨cd,hcd⟩:=k.cd;refine(yar.mpr λq=>?_)
  have e:C=tp:=Value.ref.inj (beq_iff_eq.mp q);subst e;unfold clsIn at hcd;split at hcd
  .rename_i c' d' cd' sl' ho;have z:=(X _ _ ho).symm.trans hq0;cases z
  .cases hcd
 ca:=λX p kk=>zhd X k p kk
end
def Rk:V->Value
 |.ref C=>.ref C
 |.ty T=>.type T
 |_=>.none
section
variable {X:Cx}
theorem zh5:B0 X (.builtin "isinstance") (λxs H Q=>∃a C c b,xs=[.ref a,c]/\EW H a C/\ExcK X.K C/\(∃D,c=.ref D\/∃T,c=.ty T)/\PySem.W.kitOne X.K (.ref C) (Rk c)=some b/\Q (.bl b) H):=by
 intro pins s σ H xs us Q I r h;obtain⟨a,C,c,b,rfl,ho,k,hc,e,q⟩:=h;obtain⟨u,w',rfl,rx,ry⟩:=Jc r;cases rx
 have hv:w'=Rk c:=by
  obtain⟨D,hc|⟨T,hc⟩⟩:=hc
  .subst hc;exact ry
  .subst hc;exact ry
 subst hv
 have p0:∃o,s.heap.get? a=some o/\o.cls=.ref C:=by
  obtain⟨ob,y,r,_⟩:=ho;exact⟨ob,(I.hok a _ y).1,r⟩
 exact ybb (zgl k) I.kIn p0 e (λz=>nomatch z) λtk=>⟨.bl b,H,I.tok _,rfl,q⟩
end
noncomputable abbrev Ft(X:Cx)(pins:List (Addr×Obj))(xe:Value->Shared->Prop):Cx:={ X with pn:=X.pn++pins,xe:=xe }
abbrev DJ(X:Cx)(a:Addr):Cx:={ X with A:=X.A.mark (some (.ref a)),calm:=false,xe:=λ_ _=>False }
section
variable {X:Cx}{pins:List (Addr×Obj)}{σ:L2.St}{H:Hp}{s:Shared}{xe:Value->Shared->Prop}
theorem zm0(ok:X.Ok):(Ft X pins xe).Ok:=⟨ok.mod,ok.kind,ok.glob,ok.blt,ok.above,ok.inj,ok.has,ok.cab,ok.hd,ok.frames,ok.stk,ok.exf,ok.bs,ok.bsz,ok.noex,ok.exfs,ok.funs,ok.frf⟩
theorem zg7{a:Addr}(ok:X.Ok):(DJ X a).Ok:=⟨ok.mod,ok.kind,ok.glob,ok.blt,ok.above,ok.inj,ok.has,ok.cab,λz=>Bool.noConfusion z,ok.frames,ok.stk,ok.exf,ok.bs,ok.bsz,ok.noex,ok.exfs,ok.funs,ok.frf⟩
theorem zmv(I:Inv X pins σ H s):Inv (Ft X pins xe) [] σ H s:=⟨zm0 I.ok,I.os,I.bare,I.base,I.loc,I.cell,I.free,I.freeC,λp hp=>I.pin p (by simpa using hp),I.hok,I.len⟩
theorem VN{ok:X.Ok}{pn2:List (Addr×Obj)}(I:Inv (Ft X pins xe) pn2 σ H s):Inv X pins σ H s:=⟨ok,I.os,I.bare,I.base,I.loc,I.cell,I.free,I.freeC,λp hp=>I.pin p (ybd _ hp),I.hok,I.len⟩
theorem XW{a:Addr}(I:Inv X pins σ H s):Inv (DJ X a) pins σ H s:=⟨zg7 I.ok,I.os,I.bare,I.base,I.loc,I.cell,I.free,I.freeC,I.pin,I.hok,I.len⟩
theorem zg9{a:Addr}(ok:X.Ok)(I:Inv (DJ X a) pins σ H s):Inv X pins σ H s:=⟨ok,I.os,I.bare,I.base,I.loc,I.cell,I.free,I.freeC,I.pin,I.hok,I.len⟩
theorem gone{i t:Nat}{n:Str}{v:Option Value}{m:Str->Option Value}{h':Heap}(I:Inv X pins σ H s)(hN:X.N.Nodup)(hi:X.N[i]?=some n)(hm:s.heap.Ns X.env.locals m)(hn:h'.Ns X.env.locals (λx=>if x=n then v else m x))
  (hs:Heap.SameBut X.env.locals s.heap h'):Inv X pins (σ.set i none) H { s with heap:=h',toks:=t }:=by
 have neL:∀b o,X.s₀.heap.get? b=some o->b≠X.env.locals:=λb o e=>yau (yam (yah e) I.ok.above)
 have hok:HOk X.prog X.w H h':=λb u e=>(I.hok b u e).stay (λc x hc q=>(hs.2 c (λz=>by
   have f:=I.free
   rcases hc with y|y
   .rw[<- z,y,e]at f;cases f
   .rw[<- z,y]at f;cases f)).trans q) (λ_ q=>q) λ_ _ q=>q
 refine⟨I.ok,I.os,I.bare,⟨λb o e n hb hx=>(hs.2 b (neL b o e)).trans (I.base.keep b o e n hb hx),λb o e n hb hx=>?_,I.base.free,λb o e hx=>?_,I.base.tups,I.base.frzs,I.base.tbls⟩,⟨_,hn,λj y v' e1 e2 e3=>?_⟩,λy c e=>?_,I.free,I.freeC,λp hp=>?_,hok,by rw[yd5];exact I.len⟩
 .obtain⟨z,e1⟩:=I.base.slot b o e n hb hx;exact⟨z,(hs.2 b (neL b o e)).trans e1⟩
 .obtain⟨o',e1⟩:=I.base.there b o e hx;exact⟨o',(hs.2 b (neL b o e)).trans e1⟩
 .have hj:j≠i:=λz=>by
   subst z
   have hl:j<σ.length:=by
    rw[I.len];exact(yac.mp hi).1
   rw[yas hl]at e2;cases e2
  rw[yan (yb1 hj)]at e2;obtain⟨m2,hn2,hl2⟩:=I.loc;obtain⟨u,r,q⟩:=hl2 j y v' e1 e2 e3;refine⟨u,r,?_⟩
  rcases q with ⟨kk,e⟩|⟨kk,c,e,z⟩
  .refine .inl ⟨kk,?_⟩;have hy:y≠n:=λz=>hj (Pp hN e1 (z▸hi))
   have em:m2 y=m y:=by
    obtain⟨o1,es1,ep1,a1,b1,_,c1⟩:=hn2;obtain⟨o2,es2,ep2,a2,b2,_,c2⟩:=hm;rw[a1]at a2;cases a2;rw[b1]at b2;cases b2;rw[<- c1,<- c2]
   show(if y=n then v else m y)=some u
   rw[if_neg hy,<- em];exact e
  .exact .inr ⟨kk,c,e,z.sameBut hs (I.cne y c e)⟩
 .obtain⟨w',z⟩:=I.cell y c e;exact⟨w',z.sameBut hs (I.cne y c e)⟩
 .obtain⟨e,n,ne,nf,d⟩:=I.pin p hp;exact⟨(hs.2 p.1 ne).trans e,n,ne,nf,d⟩
end
def LB(a:Addr)(i:Nat)(X:Cx)(st:List Stmt)(t:TS):Prop:=∀(pins:List (Addr×Obj)) (s:Shared) (σ:L2.St) (H:Hp) (D:Ends),Inv X pins σ H s->σ[i]?=some (some (.ref a))->(∃C,EW H a C)->t D σ H->wpAny (model X.prog X.w) X.A (execs st X.env) (SP X pins D) X.xe s
theorem pss_e{a:Addr}{i:Nat}{X:Cx}{st:List Stmt}{t:TS}(h:BJ X st t):LB a i X st t:=λpins s σ H D I _ _ q=>h pins s σ H D I q
def X2(i:Nat)(D:Ends):Ends:={ nx:=λσ H=>D.nx (σ.set i none) H,rt:=D.rt,bk:=λσ H=>D.bk (σ.set i none) H,ct:=λσ H=>D.ct (σ.set i none) H }
def tTry(K:kA)(W:Addr)(i:Nat)(E:L2.St->XK)(tb th:TS):TS:=λD σ H=>tb D σ H/\∀σ1 cls H1,E σ1 cls none H1->∃C,cls=.ref C/\PySem.W.subIn K (.ref C) (.ref W)=some true /\
 ∀a o,H1 a=none->EW (upd H1 a o) a C->th (X2 i D) (σ1.set i (some (.ref a))) (upd H1 a o)
section
variable {A:Around}{E:Value->Shared->Prop}{M:Model}
theorem exm{h:Heap}{g:Array GenState}{d:Drawn}{t:Nat}{os:OsState}{a C W N:Addr}{oe:Obj}{Q:Bool->Shared->Prop}{nm q:Str}{bs bm:List Value}{hdct:Bool}{sn:List Str}{sub:List Value}{ab:Bool}{col:Option Bool}{dd:Option Addr}
  {k0 k1 k2 k3 k5:Option Value} {newId:String} (hW:h.get? W=some (excClassObj nm q W N bs bm hdct sn sub ab col dd k0 k1 k2 k3 k5 newId)) (he:h.get? a=some oe) (hcls:oe.cls=.ref C) (hb:bm.contains (.type "BaseException")=true)
  (LS:PySem.W.Looks M h (isSubtype (.ref C) (.ref W)) true) (hq:Q true ⟨h,g,d,t,os⟩):wpAny M A (excMatches (.ref a) (.ref W)) Q E ⟨h,g,d,t,os⟩:=by
 have hcB:(Value.ref W::bm).contains (.type "BaseException")=true:=by
  rw[List.contains_cons,hb];exact ych _
 have f:=tc_notTuple;unfold excMatches
 repeat (first|(with_reducible refine wpAny_loadPart_at he ?_;rw[hcls])|with_reducible refine wpAny_loadPart_at hW ?_|(with_reducible refine wpAny_isSubtype_exc hW ?_;rw[hcB])|with_reducible refine PySem.W.Looks.at LS ?_|wp_step)
 exact hq
end
section
variable {X:Cx}{i:Nat}{x n:Str}{np pos hpos:Pos}{body suite:List Stmt}{b₀:Stmt}{tb th:TS}{E:L2.St->XK}
theorem zl7(T:ECls X.K X.mg x)(hst:X.stack=X.env::X.outer)(hf:X.env.frame=some X.env.locals)(hN:X.N.Nodup)(hi:X.N[i]?=some n)(hloc:X.env.scope.names.lookup n=some .local)
  (hb:∀pins xe,BH (Ft X pins xe) E->BJ (Ft X pins xe) body tb) (hh:∀a,LB a i (DJ X a) (b₀::suite) th) (hg:Gl X x:=by rfl) (hdb:(x == ("__debug__":Str))=false:=by decide) :
  PS X (.Try body [.ExceptHandler (some (.Name x np)) (some n) (b₀::suite) hpos] [] [] pos) (tTry X.K T.C i E tb th):=by
 intro pins s σ H D I h;obtain⟨h1,h2⟩:=h
 have hkind:(X.env.scope.kind == .class || (X.env.scope.kind == .module && X.env.locals != X.env.globals))=false:=by
  rw[I.ok.kind]
  rfl
 refine wpAny_Try_except (yed (hb pins (λe s₁=>wpAny (model X.prog X.w) X.A (noteFrame e X.env) (λ_ s₂=>wpAny (model X.prog X.w) X.A (setFlight e none) (λ_ s₃=>wpAny (model X.prog X.w) X.A (handleBy e X.env [.ExceptHandler (some (.Name x np)) (some n) (b₀::suite) hpos]) (SP X pins D) X.xe s₃) X.xe s₂) X.xe s₁)
  ?pass [] s σ H D (zmv I) h1) (λf s1 q=>?_) (λe s1 q=>q))
 case pass =>
  intro pins1 σ1 H1 s1 e s' I1t hcx;have I1:Inv X pins σ1 H1 s1:=VN (ok:=I.ok) I1t;obtain⟨a,cls,H',B,rfl,os,bare,un,hok,kB,tB,fl0,he⟩:=hcx;obtain⟨C,rfl,hsub,kk⟩:=h2 σ1 cls H' he;have fl1:IE B (X.env::X.outer) a (.ref C) s'.heap:=hst▸fl0;have hfr:X.A.frames=some (X.env::X.outer):=hst▸I.ok.frames;have ha:H' a=none:=zj1 hok fl1.choose_spec.2.1
  have sl:∀h',s'.heap.UpToSlots h'->∀b o,s1.heap.get? b=some o->H1 b=none->b∈Az X.stack->∃z,h'.get? b=some { o with slots:=z }:=λh' sm b o e n hb=>by
   obtain⟨_,o2,ho2,hd⟩:=I1.stack.mem hb;rw[e]at ho2;cases ho2;obtain⟨z2,e2⟩:=un.slot b o e n hb (by simp)
   obtain⟨z3,e3⟩:=sm b { o with slots:=z2 } e2 hd
   exact⟨z3,e3⟩
  have th':∀h',B.StaysIn h'->s'.heap.UpToSlots h'->∀b o,s1.heap.get? b=some o->∃o',h'.get? b=some o':=λh' st sm b o e=>by
   by_cases hb:b∈Az X.stack
   .obtain⟨z,q⟩:=sl h' sm b o e (I1.stkFree b hb) hb;exact⟨_,q⟩
   .obtain⟨o',q⟩:=tB b o e hb;exact⟨o',st b o' q⟩
  have inv5:∀h',B.StaysIn h'->s'.heap.UpToSlots h'->Inv X pins σ1 H' { s' with heap:=h' }:=λh' st sm =>
   I1.call' (s':={ s' with heap:=h' }) (ch:=[]) os ⟨λb o e n hb _=>st b o (kB b o e n hb),λb o e n hb _=>sl h' sm b o e n hb,un.free,λb o e _=>th' h' st sm b o e,un.tups,un.frzs,un.tbls⟩ (hok.kept st) bare (λ_ z=>nomatch z)
  refine Pn hfr rfl hf fl1 λh4 held4 sm4=>?_
  refine QZ held4 λh5 fl5 sm5=>?_
  have sm45:=sm4.trans sm5;have I5:=inv5 h5 fl5.1 sm45;obtain⟨oe,he5,hc5⟩:=fl5.there;obtain⟨bm,N,nm,qn,bs,hd,sn,sub,ab,col,dd,k0,k1,k2,k3,k5,mN,hC,hNs,hni,TL⟩:=YZ I5.kIn T.k.q;refine wpAny_handleBy_cons (codeAny_handlers_test (JB (X:=DJ X a) (XW I5) hg T.m ?_ hdb)) (by intro q;cases q)
  refine exm hC he5 hc5 (TL.hasType ycz.hasBase) (PySem.W.looks_subIn I5.kIn hsub) ?_;refine codeAny_handlers_suite_as (znj fl5 λh6 fl6 sm6=>?_)
  have sm456:=sm45.trans sm6;obtain⟨oe6,ws6,he6,hc6,hd6,hz6⟩:=fl6.first
  have nea:∀b o,s1.heap.get? b=some o->H1 b=none->b≠a:=λb o e n z=>by
   by_cases hb:b∈Az X.stack
   .obtain⟨_,o2,ho2,hd⟩:=I1.stack.mem hb;rw[e]at ho2;cases ho2;obtain⟨y,e2⟩:=sl h6 sm456 b o e n hb;rw[z,he6]at e2;cases e2;exact hd _ hd6
   .have e2:=kB b o e n hb;rw[z,fl6.2.1]at e2;cases e2
  have I6:Inv X pins σ1 (upd H' a (.frz oe6 (.own 0))) { s' with heap:=h6 }:=by
   refine I1.call' (s':={ s' with heap:=h6 }) (ch:=[]) os ⟨λb o e n hb _=>fl6.1 b o (kB b o e n hb),λb o e n hb _=>sl h6 sm456 b o e n hb,λb o e n hx=>(Ak (nea b o e n)).trans (un.free b o e n hx),λb o e _=>th' h6 fl6.1 sm456 b o e,λb xs e=>?_,λb o u e=>?_,λb ps e=>?_⟩
    (znk (hok.kept fl6.1) ha ⟨he6,oe6,he6⟩) bare (λ_ z=>nomatch z)
   .have q:=un.tups b xs e;exact(Ak (Bf q ha)).trans q
   .have q:=un.frzs b o u e;exact(Ak (Bf q ha)).trans q
   .obtain⟨more,q⟩:=un.tbls b ps e;exact⟨more,(Ak (Bf q ha)).trans q⟩
  refine L8 (X:=DJ X a) (v:=.ref a) (XW I6) hN hi (.inl hloc) rfl (λs7 I7=>?_) (.inr hloc)
  refine yed (hh a pins s7 (σ1.set i (some (.ref a))) _ (X2 i D) I7 (yas (by rw[I1.len];exact(yac.mp hi).1)) ⟨C,oe6,Bq,hc6,ws6,hd6,hz6⟩ (kk a _ ha ⟨oe6,Bq,hc6,ws6,hd6,hz6⟩)) (λf s8 q8=>?_) (λ_ _ z=>False.elim z)
  have Al:∀σ8 H8,Inv (DJ X a) pins σ8 H8 s8->∀(G:Unit->Shared->Prop),(∀s9,Inv X pins (σ8.set i none) H8 s9->G () s9)->wpAny (model X.prog X.w) X.A (do bindName X.env n .none;unbindBehindTheSuite X.env n hpos) G X.xe s8:=λσ8 H8 I8 G hG=>by
   have J:=zg9 I.ok I8;obtain⟨m,hm,_⟩:=id J.loc;exact wpAny_nameGoes_keeps hloc hm hkind λh' v hn hs=>hG _ (gone J hN hi hm hn hs)
  cases f with
  |next =>
   obtain⟨σ8,H8,I8,d8⟩:=q8;exact Al σ8 H8 I8 _ λs9 I9=>⟨_,H8,I9,d8⟩
  |brk =>
   obtain⟨σ8,H8,I8,d8⟩:=q8;exact Al σ8 H8 I8 _ λs9 I9=>⟨_,H8,I9,d8⟩
  |cont =>
   obtain⟨σ8,H8,I8,d8⟩:=q8;exact Al σ8 H8 I8 _ λs9 I9=>⟨_,H8,I9,d8⟩
  |ret u =>
   obtain⟨v,σ8,H8,I8,r8,d8⟩:=q8;exact Al σ8 H8 I8 _ λs9 I9=>⟨v,_,H8,I9,r8,d8⟩
 have back:∀{xe0:Value->Shared->Prop} {σ':L2.St} {H':Hp},Inv (Ft X pins xe0) [] σ' H' s1->Inv X pins σ' H' s1:=λJ=>VN (ok:=I.ok) J
 cases f with
 |next =>
  obtain⟨σ',H',J,d⟩:=q;exact yef ⟨σ',H',back J,d⟩
 |brk =>
  obtain⟨σ',H',J,d⟩:=q;exact⟨σ',H',back J,d⟩
 |cont =>
  obtain⟨σ',H',J,d⟩:=q;exact⟨σ',H',back J,d⟩
 |ret u =>
  obtain⟨v,σ',H',J,r,d⟩:=q;exact⟨v,σ',H',back J,r,d⟩
end
end Zx
namespace Pu
open PySem PySem.Spec PyProof.Rows L2 Zw Zx
abbrev Rg:=Addr->Prop
def R0:Rg:=λ_=>False
inductive Kd where
 |lst|rl|tup|rt|pin (p:Addr)
inductive Ob where
 |ins (C:Addr) (fs:List Str)|exn (C:Addr)|sdc (ks:List Str)
inductive T where
 |non|bl (b:Bool)|int (i:Int)|str (x:Str)|nd (o:Bool) (k:Kd) (l:List T)|dic (ks:List Int) (l:List T)|pdc (ks:List Int) (l:List T)|odc (ks:List Int) (l:List T)
 |obj (k:Ob) (l:List T)|oob (p C:Addr) (fs:List Str) (l:List T)|osd (ks:List Str) (l:List T)
abbrev T.lst(l:List T):T:=.nd false .lst l
noncomputable abbrev T.own(l:List T):T:=.nd true .lst l
noncomputable abbrev T.tup(l:List T):T:=.nd false .tup l
mutual
def T.share:T->T
 |.nd _ k l=>.nd false k (Aw l)
 |.dic ks l=>.dic ks (Aw l)
 |.pdc ks l=>.pdc ks (Aw l)
 |.odc ks l=>.pdc ks (Aw l)
 |.obj k l=>.obj k (Aw l)
 |.oob _ C fs l=>.obj (.ins C fs) (Aw l)
 |.osd ks l=>.obj (.sdc ks) (Aw l)
 |.non=>.non
 |.bl b=>.bl b
 |.int i=>.int i
 |.str x=>.str x
def Aw:List T->List T
 |[]=>[]
 |t::r=>t.share::Aw r
end
mutual
def T.sh:T->Bool
 |.nd o _ l=>!o && Aa l
 |.dic _ l=>Aa l
 |.pdc _ l=>Aa l
 |.odc _ _=>false
 |.obj _ l=>Aa l
 |.oob _ _ _ _=>false
 |.osd _ _=>false
 |.non=>true
 |.bl _=>true
 |.int _=>true
 |.str _=>true
def Aa:List T->Bool
 |[]=>true
 |t::r=>t.sh && Aa r
end
noncomputable def T.flat:T->Bool
 |.nd _ _ _=>false
 |.dic _ _=>false
 |.pdc _ _=>false
 |.odc _ _=>false
 |.obj _ _=>false
 |.oob _ _ _ _=>false
 |.osd _ _=>false
 |_=>true
theorem Dh:∀l:List T,Aw l=l.map T.share
 |[]=>rfl
 |t::r=>by rw[Aw,Dh r];rfl
theorem Cd:∀l:List T,Aa l=l.all T.sh
 |[]=>rfl
 |t::r=>by rw[Aa,Cd r];rfl
mutual
theorem Dy:∀t:T,t.sh=true->t.share=t
 |.nd o k l,h=>by
  rw[T.sh,ya2]at h;have ho:o=false:=by simpa using h.1
  subst ho;rw[T.share,AW l h.2]
 |.dic ks l,h=>by
  rw[T.sh]at h;rw[T.share,AW l h]
 |.pdc ks l,h=>by
  rw[T.sh]at h;rw[T.share,AW l h]
 |.odc ks l,h=>by
  rw[T.sh]at h;cases h
 |.obj k l,h=>by
  rw[T.sh]at h;rw[T.share,AW l h]
 |.oob p C fs l,h=>by
  rw[T.sh]at h;cases h
 |.osd ks l,h=>by
  rw[T.sh]at h;cases h
 |.non,_=>rfl
 |.bl _,_=>rfl
 |.int _,_=>rfl
 |.str _,_=>rfl
theorem AW:∀l:List T,Aa l=true->Aw l=l
 |[],_=>rfl
 |t::r,h=>by
  rw[Aa,ya2]at h;rw[Aw,Dy t h.1,AW r h.2]
end
def FU(K:kA)(F:Hp)(k:Kd)(p:Addr)(xs:List V):Prop:=match k with
 |.lst=>F p=some (.lst xs)
 |.rl=>Ac K F p xs
 |.tup=>F p=some (.tup xs)
 |.rt=>BY K F p xs
 |.pin _=>F p=some (.lst xs)
theorem GJ{K:kA}{F F':Hp}{p:Addr}{xs:List V}(s:AZ F F')(h:BY K F p xs):BY K F' p xs:=by
 rcases h with (h|⟨o,h⟩)|h
 .exact .inl (.inl (s _ _ h))
 .exact .inl (.inr ⟨o,s _ _ h⟩)
 .exact .inr h
theorem FU.same{K:kA}{F F':Hp}{k:Kd}{p:Addr}{xs:List V}(h:FU K F k p xs)(s:AZ F F'):FU K F' k p xs:=by
 cases k with
 |lst=>exact s _ _ h
 |rl=>exact s.seq h
 |tup=>exact s _ _ h
 |rt=>exact GJ s h
 |pin q=>exact s _ _ h
def LC(k:Kd)(p:Addr):Prop:=match k with
 |.lst=>True
 |.pin q=>q=p
 |_=>False
theorem LC.node{K:kA}{F:Hp}{k:Kd}{p:Addr}{xs:List V}(hk:LC k p)(h:F p=some (.lst xs)):FU K F k p xs:=by
 cases k with
 |lst=>exact h
 |pin q=>exact h
 |_=>exact hk.elim
def Fk(ks:List Int)(xs:List V):List (Key×V):=List.zipWith (λk x=>(Sum.inl k,x)) ks xs
def Dr(ks:List Str)(xs:List V):List (Key×V):=List.zipWith (λk x=>(Sum.inr k,x)) ks xs
def LD(F:Hp)(k:Ob)(p:Addr)(xs:List V):Prop:=match k with
 |.ins C fs=>∃dx,F p=some (.ins C dx (fs.zip xs))
 |.exn C=>EW F p C
 |.sdc ks=>ks.length=xs.length/\F p=some (.dK (Dr ks xs))
theorem LD.same{F F':Hp}{k:Ob}{p:Addr}{xs:List V}(h:LD F k p xs)(s:AZ F F'):LD F' k p xs:=by
 cases k with
 |ins C fs=>exact h.elim λdx e=>⟨dx,s _ _ e⟩
 |exn C=>exact h.of λu=>s p u
 |sdc ks=>exact⟨h.1,s _ _ h.2⟩
inductive Rp(K:kA)(F H:Hp):T->V->Rg->Prop where
 |non:Rp K F H .non .non R0
 |bl (b:Bool):Rp K F H (.bl b) (.bl b) R0
 |int (i:Int):Rp K F H (.int i) (.int i) R0
 |str (x:Str):Rp K F H (.str x) (.str x) R0
 |shr {k:Kd} {p:Addr} {xs:List V} {l:List T} (h:FU K F k p xs) (e:l.length=xs.length) (c:∀(i:Nat) (t:T) (x:V),l[i]?=some t->xs[i]?=some x->Rp K F H t x R0):Rp K F H (.nd false k l) (.ref p) R0
 |dic {p:Addr} {ob:Obj} {ks:List Int} {xs:List V} {l:List T} (h:F p=some (.frz ob (.dK (Fk ks xs)))) (e:l.length=xs.length) (ek:ks.length=xs.length) (c:∀(i:Nat) (t:T) (x:V),l[i]?=some t->xs[i]?=some x->Rp K F H t x R0):Rp K F H (.dic ks l) (.ref p) R0
 |pdc {p:Addr} {ks:List Int} {xs:List V} {l:List T} (h:F p=some (.dK (Fk ks xs))) (e:l.length=xs.length) (ek:ks.length=xs.length) (c:∀(i:Nat) (t:T) (x:V),l[i]?=some t->xs[i]?=some x->Rp K F H t x R0):Rp K F H (.pdc ks l) (.ref p) R0
 |odc {p:Addr} {ks:List Int} {xs:List V} {l:List T} (f:F p=none) (h:H p=some (.dK (Fk ks xs))) (e:l.length=xs.length) (ek:ks.length=xs.length) (c:∀(i:Nat) (t:T) (x:V),l[i]?=some t->xs[i]?=some x->Rp K F H t x R0):Rp K F H (.odc ks l) (.ref p) (λa=>a=p)
 |obj {k:Ob} {p:Addr} {xs:List V} {l:List T} (h:LD F k p xs) (e:l.length=xs.length) (c:∀(i:Nat) (t:T) (x:V),l[i]?=some t->xs[i]?=some x->Rp K F H t x R0):Rp K F H (.obj k l) (.ref p) R0
 |oob {C p dx:Addr} {fs:List Str} {xs:List V} {l:List T} (R:Nat->Rg) (f:F p=none) (h:H p=some (.ins C dx (fs.zip xs))) (e:l.length=xs.length) (c:∀(i:Nat) (t:T) (x:V),l[i]?=some t->xs[i]?=some x->Rp K F H t x (R i))
   (d:∀i j a,i≠j->R i a->¬ R j a) (dp:∀i,¬ R i p) (o:∀i a,R i a->i<l.length):Rp K F H (.oob p C fs l) (.ref p) (λa=>a=p\/∃i,R i a)
 |osd {p:Addr} {ks:List Str} {xs:List V} {l:List T} (f:F p=none) (h:H p=some (.dK (Dr ks xs))) (e:l.length=xs.length) (ek:ks.length=xs.length) (c:∀(i:Nat) (t:T) (x:V),l[i]?=some t->xs[i]?=some x->Rp K F H t x R0):Rp K F H (.osd ks l) (.ref p) (λa=>a=p)
 |own {k:Kd} {p:Addr} {xs:List V} {l:List T} (hk:LC k p) (R:Nat->Rg) (f:F p=none) (h:H p=some (.lst xs)) (e:l.length=xs.length) (c:∀(i:Nat) (t:T) (x:V),l[i]?=some t->xs[i]?=some x->Rp K F H t x (R i))
   (d:∀i j a,i≠j->R i a->¬ R j a) (dp:∀i,¬ R i p) (o:∀i a,R i a->i<l.length):Rp K F H (.nd true k l) (.ref p) (λa=>a=p\/∃i,R i a)
section
variable {K:kA}{F F' H H':Hp}{t:T}{x:V}{A:Rg}
theorem Rp.frame(h:Rp K F H t x A)(s:AZ F F')(k:∀a,A a->H' a=H a/\F' a=none):Rp K F' H' t x A:=by
 induction h with
 |non=>exact .non
 |bl b=>exact .bl b
 |int i=>exact .int i
 |str y=>exact .str y
 |shr h e c ih=>exact .shr (h.same s) e λi t x h1 h2=>ih i t x h1 h2 λa z=>z.elim
 |dic h e ek c ih=>exact .dic (s _ _ h) e ek λi t x h1 h2=>ih i t x h1 h2 λa z=>z.elim
 |pdc h e ek c ih=>exact .pdc (s _ _ h) e ek λi t x h1 h2=>ih i t x h1 h2 λa z=>z.elim
 |odc f h e ek c ih =>
  have q:=k _ rfl;exact .odc q.2 (q.1.trans h) e ek λi t x h1 h2=>ih i t x h1 h2 λa z=>z.elim
 |obj h e c ih=>exact .obj (h.same s) e λi t x h1 h2=>ih i t x h1 h2 λa z=>z.elim
 |oob R f h e c d dp o ih =>
  have q:=k _ (.inl rfl);exact .oob R q.2 (q.1.trans h) e (λi t x h1 h2=>ih i t x h1 h2 λa z=>k a (.inr ⟨i,z⟩)) d dp o
 |osd f h e ek c ih =>
  have q:=k _ rfl;exact .osd q.2 (q.1.trans h) e ek λi t x h1 h2=>ih i t x h1 h2 λa z=>z.elim
 |own hk R f h e c d dp o ih =>
  have q:=k _ (.inl rfl);exact .own hk R q.2 (q.1.trans h) e (λi t x h1 h2=>ih i t x h1 h2 λa z=>k a (.inr ⟨i,z⟩)) d dp o
theorem Rp.dom(h:Rp K F H t x A){a:Addr}(ha:A a):F a=none/\∃u,H a=some u:=by
 induction h with
 |non=>exact ha.elim
 |bl b=>exact ha.elim
 |int i=>exact ha.elim
 |str y=>exact ha.elim
 |shr h e c ih=>exact ha.elim
 |dic h e ek c ih=>exact ha.elim
 |pdc h e ek c ih=>exact ha.elim
 |odc f h e ek c ih =>
  cases ha;exact⟨f,_,h⟩
 |obj h e c ih=>exact ha.elim
 |osd f h e ek c ih =>
  cases ha;exact⟨f,_,h⟩
 |@oob C p dx fs xs l R f h e c d dp o ih =>
  rcases ha with rfl|⟨i,z⟩
  .exact⟨f,_,h⟩
  .have hi:=o i a z;have hx:i<xs.length:=by omega
   exact ih i _ _ (ya5 hi) (ya5 hx) z
 |@own k0 p xs l hk R f h e c d dp o ih =>
  rcases ha with rfl|⟨i,z⟩
  .exact⟨f,_,h⟩
  .have hi:=o i a z;have hx:i<xs.length:=by omega
   exact ih i _ _ (ya5 hi) (ya5 hx) z
theorem Rp.share(h:Rp K F H t x A)(s:AZ F F')(k:∀a u,A a->H a=some u->F' a=some u):Rp K F' H' t.share x R0:=by
 induction h with
 |non=>exact .non
 |bl b=>exact .bl b
 |int i=>exact .int i
 |str y=>exact .str y
 |@shr k0 p xs l h e c ih =>
  rw[T.share,Dh];refine .shr (h.same s) (by rw[ya1];exact e) λi t x h1 h2=>?_
  rw[yaj]at h1;obtain⟨t0,e0,rfl⟩:=ya4.mp h1;exact ih i t0 x e0 h2 λa u z=>z.elim
 |@dic p ob ks xs l h e ek c ih =>
  rw[T.share,Dh];refine .dic (s _ _ h) (by rw[ya1];exact e) ek λi t x h1 h2=>?_
  rw[yaj]at h1;obtain⟨t0,e0,rfl⟩:=ya4.mp h1;exact ih i t0 x e0 h2 λa u z=>z.elim
 |@pdc p ks xs l h e ek c ih =>
  rw[T.share,Dh];refine .pdc (s _ _ h) (by rw[ya1];exact e) ek λi t x h1 h2=>?_
  rw[yaj]at h1;obtain⟨t0,e0,rfl⟩:=ya4.mp h1;exact ih i t0 x e0 h2 λa u z=>z.elim
 |@odc p ks xs l f h e ek c ih =>
  rw[T.share,Dh];refine .pdc (k _ _ rfl h) (by rw[ya1];exact e) ek λi t x h1 h2=>?_
  rw[yaj]at h1;obtain⟨t0,e0,rfl⟩:=ya4.mp h1;exact ih i t0 x e0 h2 λa u z=>z.elim
 |@obj k0 p xs l h e c ih =>
  rw[T.share,Dh];refine .obj (h.same s) (by rw[ya1];exact e) λi t x h1 h2=>?_
  rw[yaj]at h1;obtain⟨t0,e0,rfl⟩:=ya4.mp h1;exact ih i t0 x e0 h2 λa u z=>z.elim
 |@oob C p dx fs xs l R f h e c d dp o ih =>
  rw[T.share,Dh];refine .obj (k:=.ins C fs) (xs:=xs) ⟨dx,k _ _ (.inl rfl) h⟩ (by rw[ya1];exact e) λi t x h1 h2=>?_
  rw[yaj]at h1;obtain⟨t0,e0,rfl⟩:=ya4.mp h1;exact ih i t0 x e0 h2 λa u z=>k a u (.inr ⟨i,z⟩)
 |@osd p ks xs l f h e ek c ih =>
  rw[T.share,Dh];refine .obj (k:=.sdc ks) (xs:=xs) ⟨ek,k _ _ rfl h⟩ (by rw[ya1];exact e) λi t x h1 h2=>?_
  rw[yaj]at h1;obtain⟨t0,e0,rfl⟩:=ya4.mp h1;exact ih i t0 x e0 h2 λa u z=>z.elim
 |@own k0 p xs l hk R f h e c d dp o ih =>
  rw[T.share,Dh];refine .shr (k:=k0) (xs:=xs) (hk.node (k _ _ (.inl rfl) h)) (by rw[ya1];exact e) λi t x h1 h2=>?_
  rw[yaj]at h1;obtain⟨t0,e0,rfl⟩:=ya4.mp h1;exact ih i t0 x e0 h2 λa u z=>k a u (.inr ⟨i,z⟩)
theorem Rp.r0(h:Rp K F H t x A)(s:t.sh=true):A=R0:=by
 cases h with
 |own hk R f h e c d dp o =>
  rw[T.sh]at s;cases s
 |odc f h e ek c =>
  rw[T.sh]at s;cases s
 |oob R f h e c d dp o =>
  rw[T.sh]at s;cases s
 |osd f h e ek c =>
  rw[T.sh]at s;cases s
 |_=>rfl
theorem Rp.move(h:Rp K F H t x A)(s:t.sh=true)(q:AZ F F'):Rp K F' H' t x R0:=by
 have e:=h.r0 s;subst e;exact h.frame q λa z=>z.elim
theorem Rp.flat_any(h:Rp K F H t x A)(s:t.flat=true):Rp K F' H' t x R0:=by
 cases h with
 |non=>exact .non
 |bl b=>exact .bl b
 |int i=>exact .int i
 |str y=>exact .str y
 |shr h e c=>cases s
 |dic h e ek c=>cases s
 |pdc h e ek c=>cases s
 |odc f h e ek c=>cases s
 |obj h e c=>cases s
 |oob R f h e c d dp o=>cases s
 |osd f h e ek c=>cases s
 |own hk R f h e c d dp o=>cases s
theorem Rp.int_inv{i:Int}(h:Rp K F H (.int i) x A):x=.int i:=by cases h;rfl
theorem Rp.bl_inv{b:Bool}(h:Rp K F H (.bl b) x A):x=.bl b:=by cases h;rfl
theorem Rp.non_inv(h:Rp K F H .non x A):x=.non:=by cases h;rfl
theorem Rp.str_inv{y:Str}(h:Rp K F H (.str y) x A):x=.str y:=by cases h;rfl
end
def Ag(K:kA)(F:Hp)(ts:List T)(xs:List V):Prop:=ts.length=xs.length/\∀(i:Nat) (t:T) (x:V),ts[i]?=some t->xs[i]?=some x->Rp K F F t x R0
theorem Ag.nil{K:kA}{F:Hp}:Ag K F [] []:=⟨rfl,λi t x h=>by simp at h⟩
theorem Rp.any{K:kA}{F H H':Hp}{t:T}{x:V}(h:Rp K F H t x R0):Rp K F H' t x R0:=h.frame (AZ.refl F) λa z=>z.elim
theorem Ag.cons{K:kA}{F H:Hp}{t:T}{x:V}{ts:List T}{xs:List V}(h:Rp K F H t x R0)(r:Ag K F ts xs):Ag K F (t::ts) (x::xs):=by
 refine⟨by simp[r.1],λi t' x' h1 h2=>?_⟩
 cases i with
 |zero =>
  simp at h1 h2;subst h1;subst h2;exact h.any
 |succ j=>exact r.2 j t' x' (by simpa using h1) (by simpa using h2)
theorem Ag.inv{K:kA}{F:Hp}{t:T}{ts:List T}{xs:List V}(r:Ag K F (t::ts) xs):∃x xs',xs=x::xs'/\Rp K F F t x R0/\Ag K F ts xs':=by
 obtain⟨e,h⟩:=r;cases xs with
 |nil=>simp at e
 |cons x xs'=>exact⟨x,xs',rfl,h 0 t x rfl rfl,by simpa using e,λi t' x' h1 h2=>h (i+1) t' x' (by simpa using h1) (by simpa using h2)⟩
theorem Ag.inv0{K:kA}{F:Hp}{xs:List V}(r:Ag K F [] xs):xs=[]:=by
 obtain⟨e,h⟩:=r;cases xs with
 |nil=>rfl
 |cons x xs'=>simp at e
theorem Ag.same{K:kA}{F F':Hp}{ts:List T}{xs:List V}(r:Ag K F ts xs)(s:AZ F F'):Ag K F' ts xs:=⟨r.1,λi t x h1 h2=>((r.2 i t x h1 h2).frame (H':=F') s λa z=>z.elim)⟩
theorem Ag.node{K:kA}{F H:Hp}{k:Kd}{p:Addr}{l:List T}{A:Rg}(h:Rp K F H (.nd false k l) (.ref p) A):∃xs,FU K F k p xs/\Ag K F l xs:=by
 cases h with
 |shr h e c=>exact⟨_,h,e,λi t x h1 h2=>(c i t x h1 h2).any⟩
theorem Rp.ref_inv{K:kA}{F H:Hp}{o:Bool}{k:Kd}{l:List T}{x:V}{A:Rg}(h:Rp K F H (.nd o k l) x A):∃p,x=.ref p:=by
 cases h with
 |shr h e c=>exact⟨_,rfl⟩
 |own hk R f h e c d dp o=>exact⟨_,rfl⟩
theorem Ag.of_node{K:kA}{F H:Hp}{k:Kd}{p:Addr}{l:List T}{xs:List V}(h:FU K F k p xs)(r:Ag K F l xs):Rp K F H (.nd false k l) (.ref p) R0:=.shr h r.1 λi t x h1 h2=>(r.2 i t x h1 h2).any
structure Ext(F H F' H':Hp)(B:Rg):Prop where
 hh:AZ H H'
 ff:AZ F F'
 fh:AZ F' H'
 nb:∀b,B b->H b=none
 nf:∀b u,F' b=some u->F b=some u\/H b=none
theorem G3{H H':Hp}(s:AZ H H'){b:Addr}(h:H' b=none):H b=none:=by
 cases e:H b with
 |none=>rfl
 |some u=>rw[s b u e]at h;cases h
section
variable {F H F1 H1 F2 H2:Hp}{B C:Rg}
theorem Ext.refl(s:AZ F H):Ext F H F H R0:=⟨.refl _,.refl _,s,λ_ z=>z.elim,λ_ _ e=>.inl e⟩
theorem Ext.trans(a:Ext F H F1 H1 B)(b:Ext F1 H1 F2 H2 C):Ext F H F2 H2 (λx=>B x\/C x) where
 hh:=a.hh.trans b.hh
 ff:=a.ff.trans b.ff
 fh:=b.fh
 nb:=λx z=>z.elim (a.nb x) λz=>G3 a.hh (b.nb x z)
 nf:=λx u e=>(b.nf x u e).elim (a.nf x u) λz=>.inr (G3 a.hh z)
theorem Ext.mono(a:Ext F H F1 H1 B)(h:∀x,C x->B x):Ext F H F1 H1 C:=⟨a.hh,a.ff,a.fh,λx z=>a.nb x (h x z),a.nf⟩
theorem Ext.trans0(a:Ext F H F1 H1 R0)(b:Ext F1 H1 F2 H2 C):Ext F H F2 H2 C:=(a.trans b).mono λx z=>.inr z
open Classical in
def frz(F H:Hp)(A:Rg):Hp:=λb=>if A b then H b else F b
theorem Gi{A:Rg}{b:Addr}(h:A b):frz F H A b=H b:=by unfold frz;rw[if_pos h]
theorem Fp{A:Rg}{b:Addr}(h:¬ A b):frz F H A b=F b:=by unfold frz;rw[if_neg h]
theorem Ec{A:Rg}(n:∀a,A a->F a=none):AZ F (frz F H A):=λb u e=>by
 by_cases h:A b
 .rw[n b h]at e;cases e
 .rw[Fp h];exact e
theorem JM{A:Rg}(s:AZ F H):AZ (frz F H A) H:=λb u e=>by
 by_cases h:A b
 .rw[Gi h]at e;exact e
 .rw[Fp h]at e;exact s b u e
theorem Ext.frz(a:Ext F H F1 H1 B)(n:∀b,B b->F1 b=none):Ext F H (frz F1 H1 B) H1 R0 where
 hh:=a.hh
 ff:=a.ff.trans (Ec n)
 fh:=JM a.fh
 nb:=λ_ z=>z.elim
 nf:=λb u e=>by
  by_cases h:B b
  .exact .inr (a.nb b h)
  .rw[Fp h]at e;exact a.nf b u e
theorem Rp.ext{K:kA}{t:T}{x:V}{A:Rg}(h:Rp K F H t x A)(a:Ext F H F1 H1 B):Rp K F1 H1 t x A:=h.frame a.ff λb z=>by
 obtain⟨f,u,e⟩:=h.dom z;refine⟨(a.hh b u e).trans e.symm,?_⟩;cases q:F1 b with
 |none=>rfl
 |some u' =>
  rcases a.nf b u' q with z|z
  .rw[f]at z;cases z
  .rw[e]at z;cases z
theorem Rp.apart{K:kA}{t:T}{x:V}{A:Rg}(h:Rp K F H t x A)(a:Ext F H F1 H1 B){b:Addr}(hb:B b):¬ A b:=λz=>by
 obtain⟨f,u,e⟩:=h.dom z;rw[a.nb b hb]at e;cases e
theorem Ext.new{p:Addr}{o:HO}(s:AZ F H)(h:H p=none):Ext F H (upd F p o) (upd H p o) R0 where
 hh:=Lh h o
 ff:=Lh (G3 s h) o
 fh:=λb u e=>by
  by_cases hb:b=p
  .subst hb;rw[Bq]at e ⊢;exact e
  .rw[Ak hb]at e ⊢;exact s b u e
 nb:=λ_ z=>z.elim
 nf:=λb u e=>by
  by_cases hb:b=p
  .subst hb;exact .inr h
  .rw[Ak hb]at e;exact .inl e
theorem Ext.newO{p:Addr}{o:HO}(s:AZ F H)(h:H p=none):Ext F H F (upd H p o) (λa=>a=p) where
 hh:=Lh h o
 ff:=.refl _
 fh:=λb u e=>Lh h o b u (s b u e)
 nb:=λb z=>by rw[z];exact h
 nf:=λb u e=>.inl e
end
abbrev AB:=List (Option T)
structure StR(K:kA)(F H:Hp)(σ:L2.St)(τ:AB)(R:Nat->Rg):Prop where
 fh:AZ F H
 len:σ.length=τ.length
 rep:∀i t,τ[i]?=some (some t)->∃x,σ[i]?=some (some x)/\Rp K F H t x (R i)
 out:∀i a,R i a->∃t,τ[i]?=some (some t)
 dis:∀i j a,i≠j->R i a->¬ R j a
section
variable {K:kA}{F H F1 H1:Hp}{σ:L2.St}{τ:AB}{R:Nat->Rg}{B:Rg}
theorem StR.dom(h:StR K F H σ τ R){i:Nat}{a:Addr}(ha:R i a):F a=none/\∃u,H a=some u:=by
 obtain⟨t,e⟩:=h.out i a ha;obtain⟨x,_,r⟩:=h.rep i t e;exact r.dom ha
theorem StR.ext(h:StR K F H σ τ R)(a:Ext F H F1 H1 B):StR K F1 H1 σ τ R where
 fh:=a.fh
 len:=h.len
 rep:=λi t e=>by
  obtain⟨x,e1,r⟩:=h.rep i t e;exact⟨x,e1,r.ext a⟩
 out:=h.out
 dis:=h.dis
theorem StR.apart(h:StR K F H σ τ R)(a:Ext F H F1 H1 B){b:Addr}(hb:B b)(i:Nat):¬ R i b:=λz=>by
 obtain⟨f,u,e⟩:=h.dom z;rw[a.nb b hb]at e;cases e
end
def XB:Key->PyData
 |.inl i=>.int i
 |.inr x=>.str x
mutual
def T.data:T->PyData
 |.non=>.none
 |.bl b=>.bool b
 |.int i=>.int i
 |.str x=>.str x
 |.nd _ .lst l=>.list (Bh l)
 |.nd _ .rl l=>.list (Bh l)
 |.nd _ .tup l=>.tuple (Bh l)
 |.nd _ .rt l=>.tuple (Bh l)
 |.nd _ (.pin _) l=>.list (Bh l)
 |.dic ks l=>.dict ((ks.map PyData.int).zip (Bh l))
 |.pdc ks l=>.dict ((ks.map PyData.int).zip (Bh l))
 |.odc ks l=>.dict ((ks.map PyData.int).zip (Bh l))
 |.obj _ _=>.none
 |.oob _ _ _ _=>.none
 |.osd _ _=>.none
def Bh:List T->List PyData
 |[]=>[]
 |t::r=>t.data::Bh r
end
mutual
def T.pln:T->Bool
 |.nd _ _ l=>Ew l
 |.dic _ l=>Ew l
 |.pdc _ l=>Ew l
 |.odc _ l=>Ew l
 |.obj _ _=>false
 |.oob _ _ _ _=>false
 |.osd _ _=>false
 |.non=>true
 |.bl _=>true
 |.int _=>true
 |.str _=>true
def Ew:List T->Bool
 |[]=>true
 |t::r=>t.pln && Ew r
end
theorem E3:∀{l:List T},Ew l=true->∀{i:Nat} {t:T},l[i]?=some t->t.pln=true
 |[],_,i,t,e=>by simp at e
 |a::r,h,i,t,e=>by
  rw[Ew,ya2]at h;cases i with
  |zero =>
   simp at e;subst e;exact h.1
  |succ i=>exact E3 h.2 (by simpa using e)
theorem UL{h:Heap}:∀{l:List T} {us:List Value},l.length=us.length->(∀(i:Nat) (t:T) (u:Value),l[i]?=some t->us[i]?=some u->∃as,Reads h u t.data as)->∃as,ReadsAll h us (Bh l) as
 |[],[],_,_=>⟨_,.nil⟩
 |[],_::_,e,_=>by simp at e
 |_::_,[],e,_=>by simp at e
 |t::l,u::us,e,f=>by
  obtain⟨a1,r1⟩:=f 0 t u rfl rfl;obtain⟨a2,r2⟩:=UL (l:=l) (us:=us) (by simpa using e) λi t' u' h1 h2=>f (i+1) t' u' (by simpa using h1) (by simpa using h2)
  exact⟨_,.cons r1 r2⟩
theorem Q1{P:Program}{w:World}{h:Heap}{k:Key}{v:Value}(e:(Cy P w).is k v=true):Reads h v (XB k) []:=by
 rcases FD (show Gc k v=true from e) with ⟨i,t,rfl,rfl⟩|⟨x,t,rfl,rfl⟩
 .exact .int i t
 .exact .str x t
theorem MJ{h:Heap}:∀(ks:List Int) (xs:List V) (l:List T) (vs:List (Key×Value)),KV (Fk ks xs) vs->l.length=xs.length->ks.length=xs.length->(∀(i:Nat) (t:T) (x:V),l[i]?=some t->xs[i]?=some x->∀{u:Value},RelV x u->∃as,Reads h u t.data as) ->
  ∃bs,PyProof.V.PairsRead h XB vs ((ks.map PyData.int).zip (Bh l)) bs
 |[],xs,l,vs,r,_,_,_=>by
  have r':Paired _ [] vs:=(show Paired _ (Fk [] xs) vs from r);cases r';exact⟨_,.nil⟩
 |k::ks,[],l,vs,r,_,ek,_=>by simp at ek
 |k::ks,x::xs,[],vs,r,e,_,_=>by simp at e
 |k::ks,x::xs,t::l,vs,r,e,ek,f=>by
  have r':Paired (λ(p:Key×V) (q:Key×Value)=>p.1=q.1/\RelV p.2 q.2) ((Sum.inl k,x)::Fk ks xs) vs:=r
  cases r' with
  |@cons _ q _ qs hd tl =>
   obtain⟨a1,r1⟩:=f 0 t x rfl rfl hd.2;obtain⟨a2,r2⟩:=MJ ks xs l qs tl (by simpa using e) (by simpa using ek) λi t' x' h1 h2=>f (i+1) t' x' (by simpa using h1) (by simpa using h2)
   obtain⟨q1,q2⟩:=q;cases (show Sum.inl k=q1 from hd.1);exact⟨_,.cons r1 r2⟩
section
variable {X:Cx}{pins:List (Addr×Obj)}{σ:L2.St}{F H:Hp}{s:Shared}
theorem GU(I:Inv X pins σ H s)(fh:AZ F H){t:T}{x:V}{A:Rg}(h:Rp X.K F H t x A)(hpl:t.pln=true):∀{u:Value},RelV x u->∃as,Reads s.heap u t.data as:=by
 have kids:∀{l:List T} {xs:List V} {its:List Value},A9 xs its->l.length=xs.length->(∀(i:Nat) (t:T) (x:V),l[i]?=some t->xs[i]?=some x->∀{u:Value},RelV x u->∃as,Reads s.heap u t.data as)->∃as,ReadsAll s.heap its (Bh l) as:=by
  intro l xs its r e ih;refine UL (e.trans r.length) λi t u h1 h2=>?_
  have hi:i<xs.length:=by
   have:=(yac.mp h1).1
   omega
  obtain⟨u',e1,r1⟩:=r.get (ya5 hi);rw[h2]at e1;cases e1;exact ih i t _ h1 (ya5 hi) r1
 have lsts:∀{p:Addr} {l:List T} {xs:List V},Ac X.K H p xs->l.length=xs.length->(∀(i:Nat) (t:T) (x:V),l[i]?=some t->xs[i]?=some x->∀{u:Value},RelV x u->∃as,Reads s.heap u t.data as)->∃as,Reads s.heap (.ref p) (.list (Bh l)) as:=by
  intro p l xs hq e ih;obtain⟨its,r,⟨o,n,e1,e2,e3,e4⟩,_⟩:=I.list hq;obtain⟨as,ra⟩:=kids r e ih;exact⟨_,.list e1 e2 e4 (by simpa using ra)⟩
 have tups:∀{p:Addr} {l:List T} {xs:List V},BY X.K H p xs->l.length=xs.length->(∀(i:Nat) (t:T) (x:V),l[i]?=some t->xs[i]?=some x->∀{u:Value},RelV x u->∃as,Reads s.heap u t.data as)->∃as,Reads s.heap (.ref p) (.tuple (Bh l)) as:=by
  intro p l xs hq e ih;obtain⟨its,r,⟨o,e1,e2,n,e4⟩,_⟩:=I.tuple hq;obtain⟨as,ra⟩:=kids r e ih;exact⟨_,.tuple e1 e2 e4 (by simpa using ra)⟩
 induction h with
 |non=>intro u r;cases r;exact⟨_,.none⟩
 |bl b=>intro u r;cases r;exact⟨_,.bool b⟩
 |int i=>intro u r;obtain⟨t,rfl⟩:=r;exact⟨_,.int i t⟩
 |str y=>intro u r;obtain⟨t,rfl⟩:=r;exact⟨_,.str y t⟩
 |@shr k p xs l h e c ih =>
  intro u r;cases r;cases k with
  |lst=>exact lsts (Ac.of (fh _ _ h)) e λi t x h1 h2=>ih i t x h1 h2 (E3 hpl h1)
  |rl=>exact lsts (fh.seq h) e λi t x h1 h2=>ih i t x h1 h2 (E3 hpl h1)
  |tup=>exact tups (BY.of (fh _ _ h)) e λi t x h1 h2=>ih i t x h1 h2 (E3 hpl h1)
  |rt=>exact tups (GJ fh h) e λi t x h1 h2=>ih i t x h1 h2 (E3 hpl h1)
  |pin q=>exact lsts (Ac.of (fh _ _ h)) e λi t x h1 h2=>ih i t x h1 h2 (E3 hpl h1)
 |@dic p ob ks xs l h e ek c ih =>
  intro u r;cases r;obtain⟨ho,z,hd,vs,rel,dd⟩:=(show BK X.prog X.w H s.heap p (.frz ob (.dK (Fk ks xs))) from I.hok p _ (fh _ _ h));obtain⟨bs,pr⟩:=MJ ks xs l vs rel e ek λi t x h1 h2=>ih i t x h1 h2 (E3 hpl h1)
  exact⟨_,ydk (λk v q=>Q1 q) dd pr⟩
 |@pdc p ks xs l h e ek c ih =>
  intro u r;cases r;obtain⟨z,hd,vs,rel,dd⟩:=(show BK X.prog X.w H s.heap p (.dK (Fk ks xs)) from I.hok p _ (fh _ _ h));obtain⟨bs,pr⟩:=MJ ks xs l vs rel e ek λi t x h1 h2=>ih i t x h1 h2 (E3 hpl h1)
  exact⟨_,ydk (λk v q=>Q1 q) dd pr⟩
 |@odc p ks xs l f h e ek c ih =>
  intro u r;cases r;obtain⟨z,hd,vs,rel,dd⟩:=(show BK X.prog X.w H s.heap p (.dK (Fk ks xs)) from I.hok p _ h);obtain⟨bs,pr⟩:=MJ ks xs l vs rel e ek λi t x h1 h2=>ih i t x h1 h2 (E3 hpl h1)
  exact⟨_,ydk (λk v q=>Q1 q) dd pr⟩
 |obj h e c ih=>cases hpl
 |oob R f h e c d dp o ih=>cases hpl
 |osd f h e ek c ih=>cases hpl
 |@own k0 p xs l hk R f h e c d dp o ih =>
  intro u r;cases r;cases k0 with
  |lst=>exact lsts (Ac.of h) e λi t x h1 h2=>ih i t x h1 h2 (E3 hpl h1)
  |pin q=>exact lsts (Ac.of h) e λi t x h1 h2=>ih i t x h1 h2 (E3 hpl h1)
  |_=>exact hk.elim
end
noncomputable def EN(t:T):Bool:=t.pln && t.data.canLay0
def JS(t u:T):Bool:=PyData.eqv t.data u.data
def Gj(t u:T):Bool:=EN t && EN u && decide (min t.data.depth u.data.depth<=60)
def BC(t u:T):Option T:=if Gj t u then some (.bl (JS t u)) else none
def CI(t u:T):Option T:=if Gj t u then some (.bl (!JS t u)) else none
def JI(t:T)(l:List T):Bool:=EN t && (Ew l && PyData.canLayAll0 (Bh l)) && decide (min (PyData.depthAll (Bh l)) t.data.depth<=60)
def Qa(t:T)(l:List T):Bool:=(Bh l).any λy=>PyData.eqv y t.data
def Q9(t:T)(y:Str):Option T:=match t with
 |.str x=>some (.bl (!(Builtin.Str.occurrences y x 0 y.length 1).isEmpty))
 |_=>none
def Cm(t c:T):Option T:=match c with
 |.nd _ _ l=>if JI t l then some (.bl (Qa t l)) else none
 |.str y=>Q9 t y
 |_=>none
def HY(t c:T):Option T:=match c with
 |.nd _ _ l=>if JI t l then some (.bl (!Qa t l)) else none
 |_=>none
def Cp(K:kA)(F H:Hp)(v:T)(Q:VK):Prop:=∀F' H' z C,Ext F H F' H' C->Rp K F' H' v z C->Q z H'
def B5(K:kA)(g:T->T->Option T):R2:=λx y H Q=>∃F t u v,AZ F H/\Rp K F F t x R0/\Rp K F F u y R0/\g t u=some v/\Cp K F H v Q
def MG(K:kA)(g:T->Option T):V->Hp->VK->Prop:=λx H Q=>∃F t v,AZ F H/\Rp K F F t x R0/\g t=some v/\Cp K F H v Q
def Cw(K:kA)(g:List T->Option T):List V->Hp->VK->Prop:=λxs H Q=>∃F ts v,AZ F H/\Ag K F ts xs/\g ts=some v/\Cp K F H v Q
section
variable {K:kA}{F H:Hp}{Q:VK}
theorem Cp.int{i:Int}(q:Cp K F H (.int i) Q)(s:AZ F H):Q (.int i) H:=q F H _ _ (Ext.refl s) (.int i)
theorem Cp.bl{b:Bool}(q:Cp K F H (.bl b) Q)(s:AZ F H):Q (.bl b) H:=q F H _ _ (Ext.refl s) (.bl b)
theorem Cp.str{x:Str}(q:Cp K F H (.str x) Q)(s:AZ F H):Q (.str x) H:=q F H _ _ (Ext.refl s) (.str x)
theorem Cp.list{l:List T}{xs:List V}(q:Cp K F H (.own l) Q)(s:AZ F H)(r:Ag K F l xs){p:Addr}(hp:H p=none):Q (.ref p) (upd H p (.lst xs)):=by
 refine q F (upd H p (.lst xs)) (.ref p) _ ((Ext.newO s hp).mono ?_) (.own (k:=.lst) (xs:=xs) trivial (λ_=>R0) (G3 s hp) Bq r.1 (λi t x h1 h2=>?_) (λ_ _ _ _ z=>z.elim) (λ_ z=>z) (λ_ _ z=>z.elim))
 .rintro a (z|⟨i,z⟩)
  .exact z
  .exact z.elim
 .exact(r.2 i t x h1 h2).any
theorem Cp.tuple{l:List T}{xs:List V}(q:Cp K F H (.tup l) Q)(s:AZ F H)(r:Ag K F l xs){p:Addr}(hp:H p=none):Q (.ref p) (upd H p (.tup xs)):=by
 have e:=Ext.new (o:=.tup xs) s hp;exact q _ _ _ _ e (Ag.of_node (k:=.tup) Bq (r.same e.ff))
end
def EC(i:Int):Bool:=@decide (-(2 ^ 64)<i/\i<2 ^ 64) (Classical.propDecidable _)
def EB(i:Int):Bool:=@decide (-(10 ^ 70)<i/\i<10 ^ 70) (Classical.propDecidable _)
def XE(k:Int):Bool:=@decide (k<2 ^ 63/\-(2 ^ 63)<=k) (Classical.propDecidable _)
def H9(i j:Int):Bool:=EC i || EC j || (EB i && EB j)
noncomputable def AY:Nat:=16777216
def AH:T->T->Option T
 |.int i,.int j=>some (.int (i+j))
 |.str x,.str y=>if x.length+y.length<=AY then some (.str (x++y)) else none
 |.nd _ .lst l,.nd _ .lst m=>if l.length+m.length<=AY then some (.own (l++m)) else none
 |_,_=>none
def DG:T->T->Option T
 |.int i,.int j=>if H9 i j then some (.int (i * j)) else none
 |.nd _ .lst l,.int k=>if XE k=true/\l.length * k.toNat<=AY then some (.own (List.replicate k.toNat l).flatten) else none
 |.str x,.int k=>if 0<=k/\k<=1000000/\x.length<=16 then some (.str (Txt.mul x k)) else none
 |_,_=>none
def Bd:T->T->Option T
 |.int i,.int j=>if j≠0 then some (.int (i.fmod j)) else none
 |_,_=>none
def Ee:T->T->Option T
 |.int i,.int j=>if j≠0/\EB j then some (.int (i.fdiv j)) else none
 |_,_=>none
def GW:T->T->Option T
 |.int i,.int j=>if 0<=j/\j<=1000000/\EC i then some (.int (i ^ j.toNat)) else none
 |_,_=>none
def Bp(f:Int->Int->Bool):T->T->Option T
 |.int i,.int j=>some (.bl (f i j))
 |_,_=>none
def Ez:T->Option T
 |.int i=>some (.int (-i))
 |_=>none
theorem P4{i:Int}(h:EC i=true):-(2 ^ 64)<i/\i<2 ^ 64:=@of_decide_eq_true _ (Classical.propDecidable _) h
theorem PZ{i:Int}(h:EB i=true):Sm i:=@of_decide_eq_true _ (Classical.propDecidable _) h
theorem XD{k:Int}(h:XE k=true):k<2 ^ 63/\-(2 ^ 63)<=k:=@of_decide_eq_true _ (Classical.propDecidable _) h
theorem Dq:AY=sizeLine:=by rw[yel];rfl
theorem Lz{K:kA}{F:Hp}:∀{l m:List T} {xs ys:List V},Ag K F l xs->Ag K F m ys->Ag K F (l++m) (xs++ys)
 |[],m,xs,ys,r,q=>by rw[r.inv0];exact q
 |t::l,m,xs,ys,r,q=>by
  obtain⟨x,xs',rfl,r1,r2⟩:=r.inv;exact .cons r1 (Lz r2 q)
theorem UG{K:kA}{F:Hp}{l:List T}{xs:List V}(r:Ag K F l xs):∀n:Nat,Ag K F (List.replicate n l).flatten (List.replicate n xs).flatten
 |0=>.nil
 |n+1=>by
  rw[ybj,ybj,yc0,yc0];exact Lz r (UG r n)
section
variable {X:Cx}
theorem Dl{K:kA}{F H:Hp}{o:Bool}{k:Kd}{l:List T}{x:V}(h:Rp K F H (.nd o k l) x R0):∃p xs,x=.ref p/\o=false/\FU K F k p xs/\Ag K F l xs:=by
 generalize hA:R0=A at h;cases h with
 |shr h e c=>exact⟨_,_,rfl,rfl,h,e,λi t x h1 h2=>(hA▸c i t x h1 h2).any⟩
 |@own k0 p xs l hk R f h e c d dp o =>
  exfalso
  have z:=congrFun hA p;have:R0 p:=by rw[z];exact .inl rfl
  exact this
theorem VJ:Ad X (binaryOp .Add) (B5 X.K AH):=by
 intro pins s σ H x y v u Q I rx ry h;obtain⟨F,t1,t2,r,fh,r1,r2,e,q⟩:=h;unfold AH at e;split at e
 .cases e;rw[r1.int_inv]at rx;rw[r2.int_inv]at ry;exact zlu pins s σ H _ _ v u Q I rx ry ⟨_,_,rfl,rfl,q.int fh⟩
 .split at e
  .cases e;rename_i hz;rw[r1.str_inv]at rx;rw[r2.str_inv]at ry;exact zd3 pins s σ H _ _ v u Q I rx ry ⟨_,_,rfl,rfl,by rw[<- Dq];exact hz,q.str fh⟩
  .cases e
 .split at e
  .cases e;rename_i hz;obtain⟨p,xs,rfl,rfl,n1,k1⟩:=Dl r1;obtain⟨p2,ys,rfl,rfl,n2,k2⟩:=Dl r2;refine zlt pins s σ H _ _ v u Q I rx ry ⟨p,p2,xs,ys,rfl,rfl,fh _ _ n1,fh _ _ n2,?_,λa ha=>q.list fh (Lz k1 k2) ha⟩
   rw[<- k1.1,<- k2.1,<- Dq];exact hz
  .cases e
 .cases e
theorem MK{f:Value->Value->Sem Value}{C:Int->Int->Prop}{g:Int->Int->V}{gT:T->T->Option T}(ho:Ad X f (rI C g))(hg:∀t u v,gT t u=some v->∃i j,t=.int i/\u=.int j/\C i j/\((∃k,v=.int k/\g i j=.int k)\/∃k,v=.bl k/\g i j=.bl k)):Ad X f (B5 X.K gT):=by
 intro pins s σ H x y v u Q I rx ry h;obtain⟨F,t1,t2,r,fh,r1,r2,e,q⟩:=h;obtain⟨i,j,rfl,rfl,hc,hv⟩:=hg _ _ _ e;rw[r1.int_inv]at rx;rw[r2.int_inv]at ry;refine ho pins s σ H _ _ v u Q I rx ry ⟨i,j,rfl,rfl,hc,?_⟩
 rcases hv with ⟨k,rfl,ek⟩|⟨k,rfl,ek⟩
 .rw[ek];exact q.int fh
 .rw[ek];exact q.bl fh
theorem Ad.weak{f:Value->Value->Sem Value}{r r':R2}(h:Ad X f r)(w:∀x y H Q,r' x y H Q->r x y H Q):Ad X f r':=λpins s σ H x y v u Q I rx ry q=>h pins s σ H x y v u Q I rx ry (w x y H Q q)
theorem ri0{g:Int->Int->V}{f:Value->Value->Sem Value}(h:Ad X f (Fb g)):Ad X f (rI (λ_ _=>True) g):=Ad.weak h λx y H Q ⟨i,j,a,b,_,q⟩=>⟨i,j,a,b,q⟩
theorem ziv:Ad X (binaryOp .Mod) (B5 X.K Bd):=MK zis λt u v h=>by
 unfold Bd at h;split at h
 .split at h
  .cases h;exact⟨_,_,rfl,rfl,by assumption,.inl ⟨_,rfl,rfl⟩⟩
  .cases h
 .cases h
theorem zg6:Ad X (binaryOp .FloorDiv) (B5 X.K Ee):=MK zg5 λt u v h=>by
 unfold Ee at h;split at h
 .split at h
  .cases h;rename_i hc;exact⟨_,_,rfl,rfl,⟨hc.1,PZ hc.2⟩,.inl ⟨_,rfl,rfl⟩⟩
  .cases h
 .cases h
theorem zit:Ad X (binaryOp .Pow) (B5 X.K GW):=MK zlq λt u v h=>by
 unfold GW at h;split at h
 .split at h
  .cases h;rename_i hc;have q:=P4 hc.2.2;exact⟨_,_,rfl,rfl,⟨hc.1,hc.2.1,by omega⟩,.inl ⟨_,rfl,rfl⟩⟩
  .cases h
 .cases h
theorem ML{op:CmpOp}{g:Int->Int->Bool}(ho:Ad X (compareOp op) (Fb λi j=>.bl (g i j))):Ad X (compareOp op) (B5 X.K (Bp g)):=MK (ri0 ho) λt u v h=>by
 unfold Bp at h;split at h
 .cases h;exact⟨_,_,rfl,rfl,trivial,.inr ⟨_,rfl,rfl⟩⟩
 .cases h
theorem ziu:Ad X (binaryOp .Mult) (B5 X.K DG):=by
 intro pins s σ H x y v u Q I rx ry h;obtain⟨F,t1,t2,r,fh,r1,r2,e,q⟩:=h;unfold DG at e;split at e
 .rename_i i j;split at e
  .cases e;rename_i hc;rw[r1.int_inv]at rx;rw[r2.int_inv]at ry;unfold H9 at hc;rw[ybq,ybq,ya2]at hc
   rcases hc with (hc|hc)|hc
   .exact VG pins s σ H _ _ v u Q I rx ry ⟨i,j,rfl,rfl,.inl (P4 hc),q.int fh⟩
   .exact VG pins s σ H _ _ v u Q I rx ry ⟨i,j,rfl,rfl,.inr (P4 hc),q.int fh⟩
   .exact zir pins s σ H _ _ v u Q I rx ry ⟨i,j,rfl,rfl,⟨PZ hc.1,PZ hc.2⟩,q.int fh⟩
  .cases e
 .split at e
  .cases e;rename_i hc;obtain⟨p,xs,rfl,rfl,n1,k1⟩:=Dl r1;rw[r2.int_inv]at ry;refine zlp pins s σ H _ _ v u Q I rx ry ⟨p,_,xs,rfl,rfl,fh _ _ n1,(XD hc.1).2,(XD hc.1).1,?_,λa ha=>q.list fh (UG k1 _) ha⟩
   rw[<- k1.1,<- Dq];exact hc.2
  .cases e
 .split at e
  .cases e;rename_i hc;rw[r1.str_inv]at rx;rw[r2.int_inv]at ry;obtain⟨t1,rfl⟩:=rx;obtain⟨t2,rfl⟩:=ry;exact SB.mul (mulOk_of 16 1048576 hc.2.2 (by omega) (by omega) (by decide) (by decide)) λt' k=>⟨.str _,H,I.tok _,⟨_,rfl⟩,q.str fh⟩
  .cases e
 .cases e
theorem zhe:Kq X (unaryOp .USub) (MG X.K Ez):=by
 intro pins s σ H x v Q I rx h;obtain⟨F,t,r,fh,r1,e,q⟩:=h;unfold Ez at e;split at e
 .cases e;rw[r1.int_inv]at rx;exact zk1 pins s σ H _ v Q I rx ⟨_,rfl,q.int fh⟩
 .cases e
theorem Y8{A:Around}{n:Nat}(hu:A.units+64<cLine)(h:n<=60):A.units+n<cLine:=by omega
theorem zlx(hu:X.A.units+64<cLine):Ad X (compareOp .Eq) (B5 X.K BC):=by
 intro pins s σ H x y v u Q I rx ry h;obtain⟨F,t1,t2,r,fh,r1,r2,e,q⟩:=h;unfold BC at e;split at e
 .cases e;rename_i hc;unfold Gj EN at hc;rw[ya2,ya2,ya2,ya2,yf1]at hc;obtain⟨a1,q1⟩:=GU I fh (r1.any) hc.1.1.1 rx;obtain⟨a2,q2⟩:=GU I fh (r2.any) hc.1.2.1 ry;exact SeqAt.compareEq_reads q1 q2 hc.1.1.2 hc.1.2.2 (Y8 hu hc.2) ⟨.bl _,H,I,rfl,q.bl fh⟩
 .cases e
theorem VI(hu:X.A.units+64<cLine):Ad X (compareOp .NotEq) (B5 X.K CI):=by
 intro pins s σ H x y v u Q I rx ry h;obtain⟨F,t1,t2,r,fh,r1,r2,e,q⟩:=h;unfold CI at e;split at e
 .cases e;rename_i hc;unfold Gj EN at hc;rw[ya2,ya2,ya2,ya2,yf1]at hc;obtain⟨a1,q1⟩:=GU I fh (r1.any) hc.1.1.1 rx;obtain⟨a2,q2⟩:=GU I fh (r2.any) hc.1.2.1 ry;exact SeqAt.compareNe_reads q1 q2 hc.1.1.2 hc.1.2.2 (Y8 hu hc.2) ⟨.bl _,H,I,rfl,q.bl fh⟩
 .cases e
theorem zlw(hu:X.A.units+64<cLine):Ad X (compareOp .In) (B5 X.K Cm):=by
 intro pins s σ H x y v u Q I rx ry h;obtain⟨F,t1,t2,r,fh,r1,r2,e,q⟩:=h;unfold Cm at e;split at e
 .rename_i o k l;split at e
  .cases e;rename_i hc;unfold JI EN at hc;rw[ya2,ya2,ya2,ya2,yf1]at hc;obtain⟨a1,q1⟩:=GU I fh (r1.any) hc.1.1.1 rx;obtain⟨a2,q2⟩:=GU I fh (r2.any) (show(T.nd o k l).pln=true from hc.1.2.1) ry;have hd:X.A.units+1+min (PyData.depthAll (Bh l)) t1.data.depth<cLine:=by omega
   cases k with
   |lst=>exact ydx q2 q1 hc.1.2.2 hc.1.1.2 hd ⟨.bl _,H,I,rfl,q.bl fh⟩
   |rl=>exact ydx q2 q1 hc.1.2.2 hc.1.1.2 hd ⟨.bl _,H,I,rfl,q.bl fh⟩
   |tup=>exact SeqAt.in_tuple_reads q2 q1 hc.1.2.2 hc.1.1.2 hd ⟨.bl _,H,I,rfl,q.bl fh⟩
   |rt=>exact SeqAt.in_tuple_reads q2 q1 hc.1.2.2 hc.1.1.2 hd ⟨.bl _,H,I,rfl,q.bl fh⟩
   |pin _=>exact ydx q2 q1 hc.1.2.2 hc.1.1.2 hd ⟨.bl _,H,I,rfl,q.bl fh⟩
  .cases e
 .unfold Q9 at e;split at e
  .cases e;rw[r1.str_inv]at rx;rw[r2.str_inv]at ry;exact zdw pins s σ H _ _ v u Q I rx ry ⟨_,_,rfl,rfl,q.bl fh⟩
  .cases e
 .cases e
theorem zdx(hu:X.A.units+64<cLine):Ad X (compareOp .NotIn) (B5 X.K HY):=by
 intro pins s σ H x y v u Q I rx ry h;obtain⟨F,t1,t2,r,fh,r1,r2,e,q⟩:=h;unfold HY at e;split at e
 .rename_i o k l;split at e
  .cases e;rename_i hc;unfold JI EN at hc;rw[ya2,ya2,ya2,ya2,yf1]at hc;obtain⟨a1,q1⟩:=GU I fh (r1.any) hc.1.1.1 rx;obtain⟨a2,q2⟩:=GU I fh (r2.any) (show(T.nd o k l).pln=true from hc.1.2.1) ry;have hd:X.A.units+1+min (PyData.depthAll (Bh l)) t1.data.depth<cLine:=by omega
   cases k with
   |lst=>exact ydl q2 q1 hc.1.2.2 hc.1.1.2 hd ⟨.bl _,H,I,rfl,q.bl fh⟩
   |rl=>exact ydl q2 q1 hc.1.2.2 hc.1.1.2 hd ⟨.bl _,H,I,rfl,q.bl fh⟩
   |tup=>exact SeqAt.notIn_tuple_reads q2 q1 hc.1.2.2 hc.1.1.2 hd ⟨.bl _,H,I,rfl,q.bl fh⟩
   |rt=>exact SeqAt.notIn_tuple_reads q2 q1 hc.1.2.2 hc.1.1.2 hd ⟨.bl _,H,I,rfl,q.bl fh⟩
   |pin _=>exact ydl q2 q1 hc.1.2.2 hc.1.1.2 hd ⟨.bl _,H,I,rfl,q.bl fh⟩
  .cases e
 .cases e
end
inductive Rs where
 |v (t:T) (b:Bool)|x (c:Str)
inductive RsL where
 |v (ts:List T) (b:Bool)|x (c:Str)
def tot(R:Nat->Rg):Rg:=λa=>∃i,R i a
def DL(K:kA)(F H:Hp)(R:Nat->Rg)(v:T)(b:Bool)(x:V)(B:Rg):Prop:=match b with
 |true=>B=R0/\∃A,(∀a,A a->tot R a)/\Rp K F H v x A
 |false=>Rp K F H v x B
def Gz(b:Bool)(F H:Hp)(R:Nat->Rg):Hp:=match b with
 |true=>frz F H (tot R)
 |false=>F
section
variable {K:kA}{F H F1 H1:Hp}{σ:L2.St}{τ:AB}{R:Nat->Rg}{B:Rg}{b c:Bool}{v:T}{x:V}
theorem StR.tot(S:StR K F H σ τ R){a:Addr}(h:tot R a):F a=none/\∃u,H a=some u:=by
 obtain⟨i,z⟩:=h;exact S.dom z
theorem Qe(S:StR K F H σ τ R):AZ F (Gz b F H R):=by
 cases b with
 |true=>exact Ec λa z=>(S.tot z).1
 |false=>exact .refl _
theorem X0(S:StR K F H σ τ R):AZ (Gz b F H R) H:=by
 cases b with
 |true=>exact JM S.fh
 |false=>exact S.fh
theorem zjk(S:StR K F H σ τ R)(e:Ext F H F1 H1 B)(h:b=true->c=true):AZ (Gz b F H R) (Gz c F1 H1 R):=by
 have S1:=S.ext e;cases b with
 |false=>exact e.ff.trans (Qe S1)
 |true =>
  rw[h rfl];intro a u q;show frz F1 H1 (Pu.tot R) a=some u
  by_cases z:Pu.tot R a
  .rw[Gi z];have q':frz F H (Pu.tot R) a=some u:=q;rw[Gi z]at q';exact e.hh _ _ q'
  .rw[Fp z];have q':frz F H (Pu.tot R) a=some u:=q;rw[Fp z]at q';exact e.ff _ _ q'
theorem DL.frz(S:StR K F H σ τ R)(e:Ext F H F1 H1 B)(g:DL K F1 H1 R v b x B):∃F2,Ext F H F2 H1 R0/\AZ F1 F2/\Rp K (Gz b F2 H1 R) (Gz b F2 H1 R) v.share x R0:=by
 have S1:=S.ext e;cases b with
 |true =>
  obtain⟨rfl,A,hA,r⟩:=g
  exact⟨F1,e,.refl _,r.share (Qe (b:=true) S1) λa u z q=>by
   show Pu.frz F1 H1 (Pu.tot R) a=some u;rw[Gi (hA a z)];exact q⟩
 |false =>
  have g':Rp K F1 H1 v x B:=g;have n:∀a,B a->F1 a=none:=λa z=>(g'.dom z).1
  exact⟨_,e.frz n,Ec n,g'.share (Ec n) λa u z q=>by
   show Pu.frz F1 H1 B a=some u;rw[Gi z];exact q⟩
theorem Ext.grow{H2:Hp}(e:Ext F H F1 H1 R0)(s:AZ H1 H2):Ext F H F1 H2 R0:=⟨e.hh.trans s,e.ff,e.fh.trans s,λ_ z=>z.elim,e.nf⟩
end
def tM(K:kA)(E:L2.St->XK)(ca:Str->Value)(m:AB->Option Rs):TE:=λσ H Q=>∃F τ R,StR K F H σ τ R/\match m τ with
 |some (.v v b)=>∀F' H' x B,Ext F H F' H' B->DL K F' H' R v b x B->Q x H'
 |some (.x c)=>∀F' H',Ext F H F' H' R0->E σ (ca c) none H'
 |none=>False
def CD(K:kA)(E:L2.St->XK)(ca:Str->Value)(m:AB->Option RsL):TA:=λσ H Q=>∃F τ R,StR K F H σ τ R/\match m τ with
 |some (.v ts b)=>∀F' H' xs,Ext F H F' H' R0->Ag K (Gz b F' H' R) ts xs->Q xs H'
 |some (.x c)=>∀F' H',Ext F H F' H' R0->E σ (ca c) none H'
 |none=>False
def Ao(K:kA)(E:L2.St->XK)(ca:Str->Value)(m:AB->Option Rs):TT:=λσ H Q=>∃F τ R,StR K F H σ τ R/\match m τ with
 |some (.v (.bl c) _)=>∀F' H',Ext F H F' H' R0->Q c H'
 |some (.v _ _)=>False
 |some (.x c)=>∀F' H',Ext F H F' H' R0->E σ (ca c) none H'
 |none=>False
noncomputable def AA(i:Nat):AB->Option Rs:=λτ=>match τ[i]? with
 |some (some t)=>some (.v t (!t.sh))
 |_=>none
noncomputable def mC(t:T):AB->Option Rs:=λ_=>some (.v t false)
def AE:AB->Option RsL:=λ_=>some (.v [] false)
noncomputable def AD(m:AB->Option Rs)(ms:AB->Option RsL):AB->Option RsL:=λτ=>match m τ with
 |some (.v t b)=>(match ms τ with
  |some (.v ts b')=>some (.v (t.share::ts) (b || b'))
  |r=>r)
 |some (.x c)=>some (.x c)
 |none=>none
def Al(b:Bool)(v:T):Option Rs:=if b && !v.flat then none else some (.v v false)
def BB(g:List T->Option T)(ms:AB->Option RsL):AB->Option Rs:=λτ=>match ms τ with
 |some (.v ts b)=>(match g ts with
  |some v=>Al b v
  |none=>none)
 |some (.x c)=>some (.x c)
 |none=>none
def g2(g:T->T->Option T):List T->Option T
 |[t,u]=>g t u
 |_=>none
def g1(g:T->Option T):List T->Option T
 |[t]=>g t
 |_=>none
abbrev m1(g:T->Option T)(a:AB->Option Rs):AB->Option Rs:=BB (g1 g) (AD a AE)
abbrev m2(g:T->T->Option T)(a b:AB->Option Rs):AB->Option Rs:=BB (g2 g) (AD a (AD b AE))
def Dm(c:AB->Option Rs)(a b:AB->Option Rs):AB->Option Rs:=λτ=>match c τ with
 |some (.v (.bl true) _)=>a τ
 |some (.v (.bl false) _)=>b τ
 |some (.x c)=>some (.x c)
 |_=>none
def BF(c:AB->Option Rs):AB->Option Rs:=λτ=>match c τ with
 |some (.v (.bl b) _)=>some (.v (.bl (!b)) false)
 |some (.x c)=>some (.x c)
 |_=>none
def Bo(a b:AB->Option Rs):AB->Option Rs:=Dm a b (mC (.bl false))
def Bi(a b:AB->Option Rs):AB->Option Rs:=Dm a (mC (.bl true)) b
section
variable {X:Cx}{E:L2.St->XK}{ca:Str->Value}{σ:L2.St}{H:Hp}{m ma mb mc:AB->Option Rs}{ms:AB->Option RsL}{K:kA}{a b c e:Expr}{es:List Expr}{pos:Pos}
theorem PE.weak{t t':TE}(h:PE X e t)(w:∀σ H Q,t' σ H Q->t σ H Q):PE X e t':=λpins s σ H Q I q=>h pins s σ H Q I (w σ H Q q)
theorem PT.weak{t t':TT}(h:PT X e t)(w:∀σ H Q,t' σ H Q->t σ H Q):PT X e t':=λpins s σ H Q I q=>h pins s σ H Q I (w σ H Q q)
theorem PA.weak{t t':TA}(h:PA X es t)(w:∀σ H Q,t' σ H Q->t σ H Q):PA X es t':=λpos pins s σ H Q I q=>h pos pins s σ H Q I (w σ H Q q)
theorem tM.mono{Q Q':VK}(h:tM K E ca m σ H Q)(w:∀x H',Q x H'->Q' x H'):tM K E ca m σ H Q':=by
 obtain⟨F,τ,R,S,q⟩:=h;refine⟨F,τ,R,S,?_⟩;cases hm:m τ with
 |none=>rw[hm]at q;exact q
 |some r =>
  rw[hm]at q;cases r with
  |v v b=>exact λF' H' x B e g=>w _ _ (q F' H' x B e g)
  |x c=>exact q
theorem GG{Q:List V->Hp->Prop}(h:CD K E ca AE σ H Q):Q [] H:=by
 obtain⟨F,τ,R,S,q⟩:=h;exact q F H [] (Ext.refl S.fh) .nil
theorem FX{Q:List V->Hp->Prop}(h:CD K E ca (AD m ms) σ H Q):tM K E ca m σ H λx H1=>CD K E ca ms σ H1 λxs H2=>Q (x::xs) H2:=by
 obtain⟨F,τ,R,S,q⟩:=h;refine⟨F,τ,R,S,?_⟩;unfold AD at q;cases hm:m τ with
 |none=>rw[hm]at q;exact q
 |some r =>
  rw[hm]at q;cases r with
  |x c=>exact q
  |v t b =>
   intro F' H' x B e g;obtain⟨F2,e2,_,r2⟩:=DL.frz S e g;have S2:=S.ext e2;refine⟨F2,τ,R,S2,?_⟩;cases hs:ms τ with
   |none=>simp only[hs]at q
   |some r =>
    simp only[hs]at q;cases r with
    |x c=>exact λF3 H3 e3=>q F3 H3 (e2.trans0 e3)
    |v ts b' =>
     intro F3 H3 xs e3 rs;refine q F3 H3 (x::xs) (e2.trans0 e3) ?_;refine .cons (H:=H3) ((r2.frame (zjk S2 e3 (by intro z;simp[z])) λa z=>z.elim)) ?_
     cases b' with
     |true=>rw[ych];exact rs
     |false =>
      rw[ycy];cases b with
      |false=>exact rs
      |true=>exact rs.same (Qe (b:=true) (S2.ext e3))
theorem GH{g:List T->Option T}{Q:VK}(h:tM K E ca (BB g ms) σ H Q):CD K E ca ms σ H λxs H1=>Cw K g xs H1 Q:=by
 obtain⟨F,τ,R,S,q⟩:=h;refine⟨F,τ,R,S,?_⟩;unfold BB at q;cases hs:ms τ with
 |none=>simp only[hs]at q
 |some r =>
  simp only[hs]at q;cases r with
  |x c=>exact q
  |v ts b =>
   intro F1 H1 xs e1 rs;have S1:=S.ext e1;cases hg:g ts with
   |none=>simp only[hg]at q
   |some v =>
    simp only[hg]at q;refine⟨Gz b F1 H1 R,ts,v,X0 S1,rs,hg,λF2 H2 z C e2 r2=>?_⟩
    unfold Al at q;cases b with
    |false=>exact q F2 H2 z C (e1.trans0 e2) r2
    |true =>
     cases hf:v.flat with
     |false =>
      rw[hf]at q;exact False.elim q
     |true =>
      rw[hf]at q;exact q F1 H2 z R0 (e1.grow e2.hh) (r2.flat_any hf)
theorem rTn2{g:T->T->Option T}{x y:V}{Q:VK}(h:Cw K (g2 g) [x,y] H Q):B5 K g x y H Q:=by
 obtain⟨F,ts,v,fh,rs,e,q⟩:=h;unfold g2 at e;split at e
 .obtain⟨x1,xs1,e1,r1,rs1⟩:=rs.inv;obtain⟨x2,xs2,e2,r2,rs2⟩:=rs1.inv;cases e1;cases e2;exact⟨F,_,_,v,fh,r1,r2,e,q⟩
 .cases e
theorem rTn1{g:T->Option T}{x:V}{Q:VK}(h:Cw K (g1 g) [x] H Q):MG K g x H Q:=by
 obtain⟨F,ts,v,fh,rs,e,q⟩:=h;unfold g1 at e;split at e
 .obtain⟨x1,xs1,e1,r1,rs1⟩:=rs.inv;cases e1;exact⟨F,_,v,fh,r1,e,q⟩
 .cases e
theorem Nv{g:T->T->Option T}{Q:VK}(h:tM K E ca (BB (g2 g) (AD ma (AD mb AE))) σ H Q):IT (B5 K g) (tM K E ca ma) (tM K E ca mb) σ H Q :=
 (FX (GH h)).mono λx H1 h1=>(FX h1).mono λy H2 h2=>rTn2 (GG h2)
theorem zk9{g:T->Option T}{Q:VK}(h:tM K E ca (BB (g1 g) (AD ma AE)) σ H Q):TJ (MG K g) (tM K E ca ma) σ H Q :=
 (FX (GH h)).mono λx H1 h1=>rTn1 (GG h1)
theorem Sv{i:Nat}{Q:VK}(h:tM K E ca (AA i) σ H Q):LV i σ H Q:=by
 obtain⟨F,τ,R,S,q⟩:=h;unfold AA at q;split at q
 .rename_i t b hm;split at hm
  .rename_i ht;cases hm;obtain⟨x,e,r⟩:=S.rep i t ht;refine⟨x,e,q F H x R0 (Ext.refl S.fh) ?_⟩;cases hs:t.sh with
   |true=>exact r.move hs (.refl _)
   |false=>exact⟨rfl,R i,λa z=>⟨i,z⟩,r⟩
  .cases hm
 .rename_i c hm;split at hm<;>cases hm
 .exact q.elim
theorem Ju{i:Nat}{x:Str}(hN:X.N[i]?=some x)(hv:Dc X.env.scope x)(hd:(x == ("__debug__":Str))=false)(hcd:(x == ("__classdict__":Str))=false):PE X (.Name x pos) (tM X.K E ca (AA i)):=PE.weak (Jz hN hv hd hcd) λ_ _ _ h=>Sv h
theorem Ih{t:T}{v:V}(h:PE X e (tC v))(r:∀F H,Rp X.K F H t v R0):PE X e (tM X.K E ca (mC t)):=PE.weak h λσ H Q h=>by
 obtain⟨F,τ,R,S,q⟩:=h;exact q F H v R0 (Ext.refl S.fh) (r _ _)
theorem UX:PA X [] (CD X.K E ca AE):=PA.weak DU λσ H Q h=>GG h
theorem U7(ha:PE X e (tM X.K E ca m))(hr:PA X es (CD X.K E ca ms))(hs:starEach (e::es) X.env=(false,eval e X.env)::starEach es X.env):PA X (e::es) (CD X.K E ca (AD m ms)) :=
 PA.weak (Cj ha hr hs) λσ H Q h=>FX h
theorem U8{op:Operator}{g:T->T->Option T}(ho:Ad X (binaryOp op) (B5 X.K g))(ha:PE X a (tM X.K E ca ma))(hb:PE X b (tM X.K E ca mb)):PE X (.BinOp a op b pos) (tM X.K E ca (BB (g2 g) (AD ma (AD mb AE)))) :=
 PE.weak (pe_op ho ha hb) λσ H Q h=>Nv h
theorem r_un{op:UnaryOp}{g:T->Option T}(ho:Kq X (unaryOp op) (MG X.K g))(ha:PE X a (tM X.K E ca ma)):PE X (.UnaryOp op a pos) (tM X.K E ca (BB (g1 g) (AD ma AE))) :=
 PE.weak (pe_un ho ha) λσ H Q h=>zk9 h
theorem r_cmp{op:CmpOp}{g:T->T->Option T}(ho:Ad X (compareOp op) (B5 X.K g))(ha:PE X a (tM X.K E ca ma))(hb:PE X b (tM X.K E ca mb))(hm:behindInMarks op b=false):PE X (.Compare a [op] [b] pos) (tM X.K E ca (BB (g2 g) (AD ma (AD mb AE)))) :=
 PE.weak (zil ho ha hb hm) λσ H Q h=>Nv h
theorem LX{Q:Bool->Hp->Prop}(h:Ao K E ca m σ H Q):tM K E ca m σ H λx H1=>∃k,x=.bl k/\Q k H1:=by
 obtain⟨F,τ,R,S,q⟩:=h;refine⟨F,τ,R,S,?_⟩;cases hm:m τ with
 |none=>rw[hm]at q;exact q
 |some r =>
  rw[hm]at q;cases r with
  |x c=>exact q
  |v v b =>
   cases v with
   |bl k =>
    intro F' H' x B e g
    have hx:x=.bl k:=by
     cases b with
     |true=>obtain⟨_,A,_,r⟩:=g;exact r.bl_inv
     |false=>exact(show Rp K F' H' _ _ _ from g).bl_inv
    exact⟨k,hx,q F' H' (e.mono λ_ z=>z.elim)⟩
   |_=>exact q.elim
theorem UT{op:CmpOp}{g:T->T->Option T}(ho:Ad X (compareOp op) (B5 X.K g))(ha:PE X a (tM X.K E ca ma))(hb:PE X b (tM X.K E ca mb))(hm:behindInMarks op b=false):PT X (.Compare a [op] [b] pos) (Ao X.K E ca (BB (g2 g) (AD ma (AD mb AE)))) :=
 PT.weak (zi9 ho ha hb hm) λσ H Q h=>Nv (LX h)
theorem ME(h:PE X e (tM X.K E ca m))(he:∀whole,isTrue e X.env whole=(do let v <- whole;standAt e.pos;holding [v] (truthy v))):PT X e (Ao X.K E ca m):=PT.weak (zl5 h he) λσ H Q h=>LX h
theorem T4{Q:Bool->Hp->Prop}(h:Ao K E ca (Dm mc ma mb) σ H Q):Ao K E ca mc σ H λk H1=>if k=true then Ao K E ca ma σ H1 Q else Ao K E ca mb σ H1 Q:=by
 obtain⟨F,τ,R,S,q⟩:=h;refine⟨F,τ,R,S,?_⟩;unfold Dm at q;cases hm:mc τ with
 |none=>simp only[hm]at q
 |some r =>
  simp only[hm]at q;cases r with
  |x c=>exact q
  |v v b =>
   cases v with
   |bl k =>
    intro F1 H1 e1;have S1:=S.ext e1
    have key:∀{mm:AB->Option Rs},(match mm τ with
      |some (.v (.bl c) _)=>∀F' H',Ext F H F' H' R0->Q c H'
      |some (.v _ _)=>False
      |some (.x c)=>∀F' H',Ext F H F' H' R0->E σ (ca c) none H'
      |none=>False)->Ao K E ca mm σ H1 Q:=λ{mm} q=>by
     refine⟨F1,τ,R,S1,?_⟩;cases hr:mm τ with
     |none=>simp only[hr]at q
     |some r =>
      simp only[hr]at q;cases r with
      |x c=>exact λF' H' e=>q F' H' (e1.trans0 e)
      |v v b =>
       cases v with
       |bl k=>exact λF' H' e=>q F' H' (e1.trans0 e)
       |_=>exact q.elim
    cases k with
    |true=>exact KZ (key q)
    |false=>exact K0 (key q)
   |_=>exact q.elim
theorem TY{Q:VK}(h:tM K E ca (Dm mc ma mb) σ H Q):Ao K E ca mc σ H λk H1=>if k=true then tM K E ca ma σ H1 Q else tM K E ca mb σ H1 Q:=by
 obtain⟨F,τ,R,S,q⟩:=h;refine⟨F,τ,R,S,?_⟩;unfold Dm at q;cases hm:mc τ with
 |none=>simp only[hm]at q
 |some r =>
  simp only[hm]at q;cases r with
  |x c=>exact q
  |v v b =>
   cases v with
   |bl k =>
    intro F1 H1 e1;have S1:=S.ext e1
    have key:∀{mm:AB->Option Rs},(match mm τ with
      |some (.v v b)=>∀F' H' x B,Ext F H F' H' B->DL K F' H' R v b x B->Q x H'
      |some (.x c)=>∀F' H',Ext F H F' H' R0->E σ (ca c) none H'
      |none=>False)->tM K E ca mm σ H1 Q:=λ{mm} q=>by
     refine⟨F1,τ,R,S1,?_⟩;cases hr:mm τ with
     |none=>simp only[hr]at q
     |some r =>
      simp only[hr]at q;cases r with
      |x c=>exact λF' H' e=>q F' H' (e1.trans0 e)
      |v v b=>exact λF' H' x B e g=>q F' H' x B (e1.trans0 e) g
    cases k with
    |true=>exact KZ (key q)
    |false=>exact K0 (key q)
   |_=>exact q.elim
theorem r_ife(hc:PT X c (Ao X.K E ca mc))(ha:PE X a (tM X.K E ca ma))(hb:PE X b (tM X.K E ca mb)):PE X (.IfExp c a b pos) (tM X.K E ca (Dm mc ma mb)):=PE.weak (zg3 hc ha hb) λσ H Q h=>TY h
theorem zhi{Q:Bool->Hp->Prop}(h:Ao K E ca (BF mc) σ H Q):TR (Ao K E ca mc) σ H Q:=by
 obtain⟨F,τ,R,S,q⟩:=h;refine⟨F,τ,R,S,?_⟩;unfold BF at q;cases hm:mc τ with
 |none=>simp only[hm]at q
 |some r =>
  simp only[hm]at q;cases r with
  |x c=>exact q
  |v v b =>
   cases v with
   |bl k=>exact q
   |_=>exact q.elim
theorem US(hc:PT X c (Ao X.K E ca mc)):PT X (.UnaryOp .Not c pos) (Ao X.K E ca (BF mc)):=PT.weak (zl6 hc) λσ H Q h=>zhi h
theorem zka{Q:VK}(h:tM K E ca (BF mc) σ H Q):TQ (tM K E ca mc) σ H Q:=by
 obtain⟨F,τ,R,S,q⟩:=h;refine⟨F,τ,R,S,?_⟩;unfold BF at q;cases hm:mc τ with
 |none=>simp only[hm]at q
 |some r =>
  simp only[hm]at q;cases r with
  |x c=>exact q
  |v v b =>
   cases v with
   |bl k =>
    intro F' H' x B e g
    have hx:x=.bl k:=by
     cases b with
     |true=>obtain⟨_,A,_,r⟩:=g;exact r.bl_inv
     |false=>exact(show Rp K F' H' _ _ _ from g).bl_inv
    exact⟨k,hx,q F' H' _ R0 (e.mono λ_ z=>z.elim) (.bl _)⟩
   |_=>exact q.elim
theorem r_not(ha:PE X a (tM X.K E ca ma)):PE X (.UnaryOp .Not a pos) (tM X.K E ca (BF ma)):=PE.weak (zlj ha) λσ H Q h=>zka h
theorem TX{Q:VK}(h:tM K E ca (Dm mc ma mb) σ H Q):tM K E ca mc σ H λx H1=>∃k,x=.bl k/\if k=true then tM K E ca ma σ H1 Q else tM K E ca mb σ H1 Q:=LX (TY h)
theorem T3{t:T}{v:V}(r:∀F H,Rp K F H t v R0){Q:VK}(h:tM K E ca (mC t) σ H Q):Q v H:=by
 obtain⟨F,τ,R,S,q⟩:=h;exact q F H v R0 (Ext.refl S.fh) (r _ _)
theorem r_and{rest:List Expr}(ha:PE X a (tM X.K E ca ma))(hb:PE X (.BoolOp .And (b::rest) pos) (tM X.K E ca mb)):PE X (.BoolOp .And (a::b::rest) pos) (tM X.K E ca (Bo ma mb)) :=
 PE.weak (zlm ha hb) λσ H Q h=>(TX h).mono λx H1 ⟨k,e,q⟩=>⟨k,e,by
  cases k with
  |true=>exact q
  |false=>exact T3 (E:=E) (ca:=ca) (λ_ _=>.bl _) q⟩
theorem r_or{rest:List Expr}(ha:PE X a (tM X.K E ca ma))(hb:PE X (.BoolOp .Or (b::rest) pos) (tM X.K E ca mb)):PE X (.BoolOp .Or (a::b::rest) pos) (tM X.K E ca (Bi ma mb)) :=
 PE.weak (pe_or ha hb) λσ H Q h=>(TX h).mono λx H1 ⟨k,e,q⟩=>⟨k,e,by
  cases k with
  |true=>exact T3 (E:=E) (ca:=ca) (λ_ _=>.bl _) q
  |false=>exact q⟩
theorem r_one{op:BoolOp}(ha:PE X a (tM X.K E ca ma)):PE X (.BoolOp op [a] pos) (tM X.K E ca ma):=zli ha
theorem Ao.mono{Q Q':Bool->Hp->Prop}(h:Ao K E ca m σ H Q)(w:∀x H',Q x H'->Q' x H'):Ao K E ca m σ H Q':=by
 obtain⟨F,τ,R,S,q⟩:=h;refine⟨F,τ,R,S,?_⟩;cases hm:m τ with
 |none=>rw[hm]at q;exact q
 |some r =>
  rw[hm]at q;cases r with
  |v v b =>
   cases v with
   |bl k=>exact λF' H' e=>w _ _ (q F' H' e)
   |_=>exact q.elim
  |x c=>exact q
theorem Nx{k:Bool}{Q:Bool->Hp->Prop}(h:Ao K E ca (mC (.bl k)) σ H Q):Q k H:=by
 obtain⟨F,τ,R,S,q⟩:=h;exact q F H (Ext.refl S.fh)
theorem PW.weak{t t':TT}(h:PW X e t)(w:∀σ H Q,t' σ H Q->t σ H Q):PW X e t':=λwh pins s σ H Q I q=>h wh pins s σ H Q I (w σ H Q q)
theorem zkv{rest:List Expr}(ha:PT X a (Ao X.K E ca ma))(hb:PW X (.BoolOp .And (b::rest) pos) (Ao X.K E ca mb)):PW X (.BoolOp .And (a::b::rest) pos) (Ao X.K E ca (Bo ma mb)) :=
 PW.weak (zl4 ha hb) λσ H Q h=>(T4 h).mono λk H1 q=>by
  cases k with
  |true=>exact q
  |false=>exact Nx (E:=E) (ca:=ca) q
theorem UQ{rest:List Expr}(ha:PT X a (Ao X.K E ca ma))(hb:PW X (.BoolOp .Or (b::rest) pos) (Ao X.K E ca mb)):PW X (.BoolOp .Or (a::b::rest) pos) (Ao X.K E ca (Bi ma mb)) :=
 PW.weak (pw_or ha hb) λσ H Q h=>(T4 h).mono λk H1 q=>by
  cases k with
  |true=>exact Nx (E:=E) (ca:=ca) q
  |false=>exact q
theorem zi3(ha:PT X a (Ao X.K E ca ma)):PW X (.BoolOp .And [a] pos) (Ao X.K E ca ma):=zi7 ha
theorem UR(ha:PT X a (Ao X.K E ca ma)):PW X (.BoolOp .Or [a] pos) (Ao X.K E ca ma):=zl3 ha
end
section
variable {X:Cx}{pins:List (Addr×Obj)}{σ:L2.St}{H:Hp}{s:Shared}{h':Heap}
theorem HE{t':Nat}{ch:List Addr}(I:Inv X pins σ H s)(k:∀b o,b∉ch->s.heap.get? b=some o->h'.get? b=some o)(f:∀b∈ch,CB X pins H b):Inv X pins σ H { s with heap:=h',toks:=t' }:=by
 have nit:∀b u,H b=some u->b∉ch:=λb u e z=>by rw[(f b z).1]at e;cases e
 refine I.step (g':=s.gens) (d':=s.drawn) (ch:=ch) (λb hb=>?_) (λb o _ _ hc e _=>k b o hc e) (λb o _ _ hc e _=>⟨o.slots,k b o hc e⟩) (λ_ _ _ _ n=>n)
  (λb o hc e=>⟨o,k b o hc e⟩) (λ_ _ e=>e) (λ_ _ _ e=>e) (λb ps e=>⟨#[],by rw[e];simp⟩) (λm hm=>?_) (λb u e=>?_) I.bare
 .obtain⟨_,f1,f2,f3,f4,f5⟩:=f b hb;exact⟨f3,f1,f4,f5⟩
 .obtain⟨o,es,ep,ho,r⟩:=hm;exact⟨o,es,ep,k _ o (λz=>(f _ z).2.1 rfl) ho,r⟩
 .refine(I.hok b u e).stay (λc v hc q=>k c v ?_ q) (λ_ q=>q) λ_ _ q=>q
  rcases hc with z|z
  .rw[z];exact nit b u e
  .exact nit c _ z
theorem TF{t':Nat}{ch:List Addr}{p:Addr}{o:HO}(I:Inv X pins σ H s)(k:∀b o,b∉ch->s.heap.get? b=some o->h'.get? b=some o)(f:∀b∈ch,CB X pins H b)(hp:s.heap.objs.size<=p)(new:BK X.prog X.w (upd H p o) h' p o) :
  Inv X pins σ (upd H p o) { s with heap:=h',toks:=t' }:=by
 have hn:H p=none:=I.hok.fresh hp;have nit:∀b u,H b=some u->b∉ch:=λb u e z=>by rw[(f b z).1]at e;cases e
 have old:∀b ob,s.heap.get? b=some ob->b≠p:=λb ob e z=>by
  subst z;exact absurd (yah e) (ye4.mpr hp)
 refine I.step (g':=s.gens) (d':=s.drawn) (ch:=ch) (λb hb=>?_) (λb o _ _ hc e _=>k b o hc e) (λb o _ _ hc e _=>⟨o.slots,k b o hc e⟩) (λb ob hc e n=>by rw[Ak (old b ob e)];exact n)
  (λb o hc e=>⟨o,k b o hc e⟩) (λb xs e=>by rw[Ak (Bf e hn)];exact e) (λb o u e=>by rw[Ak (Bf e hn)];exact e) (λb ps e=>⟨#[],by rw[Ak (Bf e hn),e];simp⟩) (λm hm=>?_) (λb u e=>?_) I.bare
 .obtain⟨_,f1,f2,f3,f4,f5⟩:=f b hb;exact⟨f3,f1,f4,f5⟩
 .obtain⟨o,es,ep,ho,r⟩:=hm;exact⟨o,es,ep,k _ o (λz=>(f _ z).2.1 rfl) ho,r⟩
 .by_cases hb:b=p
  .subst hb;rw[Bq]at e;cases e;exact new
  .rw[Ak hb]at e;refine(I.hok b u e).stay (λc v hc q=>k c v ?_ q) (λc q=>by rw[Ak (Bf q hn)];exact q) λc xs q=>by rw[Ak (Bf q hn)];exact q
   rcases hc with z|z
   .rw[z];exact nit b u e
   .exact nit c _ z
theorem YL{p b:Addr}{o:HO}(f:CB X pins H b)(h:b≠p):CB X pins (upd H p o) b:=⟨by rw[Ak h];exact f.1,f.2⟩
end
def Si(K:kA)(l:Addr):It :=
 ⟨λi H=>∃xs x,Ac K H l xs/\xs[i]?=some x,λi H x H'=>∃p y,x=.ref p/\H p=none/\H'=upd H p (.tup [.int i,y])/\∀xs,Ac K H l xs->xs[i]?=some y,λi H=>∃xs,Ac K H l xs/\xs.length<=i⟩
theorem zdm{P:Program}{w:World}{K:kA}{elts:List Expr}{kk:Nat}{tpos:Pos}(l e it:Addr)(hei:e≠it) :
  Turn P w K (.Tuple elts kk tpos) (Si K l) [e,it] e (λi h=>(∃old,IsEnum h e it i old)/\h.IsListIter it l i) where
 mem:=by simp
 obj:=λi h st b hb=>by
  obtain⟨⟨old,he⟩,o,hi,hc,hd⟩:=st;obtain rfl|hb:=yad.mp hb
  .exact⟨_,he,λv z=>by
    have z':Data.fields _=Data.cell v:=z;cases z'⟩
  .have q:b=it:=by simpa using hb
   subst q;exact⟨o,hi,λv z=>by rw[hd]at z;cases z⟩
 keep:=λi h h' st k=>by
  obtain⟨⟨old,he⟩,hi⟩:=st;exact⟨⟨old,k e (by simp) _ he⟩,hi.at λo q=>k it (by simp) o q⟩
 item:=by
  intro X hP hw hK hc i pins s σ H E I hf st hg;subst hP hw hK;obtain⟨⟨old,he⟩,hit⟩:=st;obtain⟨xs,x,hq,hx⟩:=hg;obtain⟨its,rv,p,hz⟩:=I.list hq;obtain⟨u,hu,ru⟩:=rv.get hx;have elt:e<s.heap.objs.size:=yah he;have ilt:it<s.heap.objs.size:=by obtain⟨o,q,_⟩:=hit;exact yah q
  have hn:H s.heap.objs.size=none:=I.hok.fresh (yaf _);refine wpAny_pyNext_enum_item he hit p.isList (x:=u) (by simpa using hu) hei λh' ho hit' hT hsz hk=>?_
  have I1:Inv X pins σ (upd H s.heap.objs.size (.tup [.int i,x])) { s with heap:=h',toks:=s.toks+1 }:=by
   refine TF (ch:=[e,it]) I (λb o hb q=>hk b o (λz=>hb (by simp[z])) (λz=>hb (by simp[z])) q) hf (yaf _) ?_
   exact⟨by simp only[ya6,yc9];rw[yel];decide,[.int i s.toks,u],.cons ⟨_,rfl⟩ (.cons ru .nil),_,hT,rfl,0,rfl⟩
  have f1:∀b∈[e,it],CB X pins (upd H s.heap.objs.size (.tup [.int i,x])) b:=λb hb=>YL (hf b hb) (by
   obtain rfl|hb:=yad.mp hb
   .exact yau elt
   .have q:b=it:=by simpa using hb
    subst q;exact yau ilt)
  refine⟨.ref s.heap.objs.size,rfl,wpAny_letOwnedTupleGo_enum ho λh2 he2 hs2=>?_⟩
  refine⟨.ref s.heap.objs.size,_,HE (t':=s.toks+1) (ch:=[e]) I1 (λb o hb q=>hs2.extBut b o (λz=>hb (by simp[z])) q) (λb hb=>f1 b (by simp at hb;simp[hb])),rfl,⟨_,x,rfl,hn,rfl,λys hy=>by rw[I.list_inj hy hq];exact hx⟩,⟨⟨_,by simpa using he2⟩,hit'.extBut hs2.extBut hei.symm⟩,λb hb=>(f1 b hb).1⟩
 done:=by
  intro X hP hw hK hc i pins s σ H E I hf st hg;subst hP hw hK;obtain⟨⟨old,he⟩,hit⟩:=st;obtain⟨xs,hq,hx⟩:=hg;obtain⟨its,rv,p,hz⟩:=I.list hq;have hl:=rv.length;exact wpAny_pyNext_enum_end (I.ok.hd hc) he hit p.isList (by simp;omega) λh' eb=>⟨rfl,HE (t':=s.toks) (ch:=[it]) I (λb o hb q=>eb b o (λz=>hb (by simp[z])) q) (λb hb=>hf b (by simp at hb;simp[hb]))⟩
 self:=λ_ _ _ _ _ st h=>yf2 st.1.choose_spec h
section
variable {X:Cx}{elts:List Expr}{kk:Nat}{tpos:Pos}
def iEnum(K:kA)(ta:TA):TI:=λσ H R=>ta σ H λvs H1=>∃a,vs=[.ref a]/\(∃xs,Ac K H1 a xs)/\R (Si K a) H1
theorem zii{a:Expr}{ta:TA}{p pos:Pos}(hg:Gl X "enumerate")(hm:X.mg "enumerate"=none)(ha:PA X [a] ta)(hs:starEach [a] X.env=[(false,eval a X.env)]):PI X (.Tuple elts kk tpos) (.Call (.Name "enumerate" p) [a] [] pos) (iEnum X.K ta):=by
 intro pins s σ H R I h;refine Call_ (JC I hg hm boot_enumerate (yc6 (AS (ha pos pins s σ H _ I h) λus s1 ⟨vs,H1,I1,r1,q1⟩=>?_) hs rfl))
 obtain⟨l,e,⟨xs,hq⟩,q⟩:=q1;subst e;obtain⟨u,rfl,ru⟩:=DP r1;cases ru;obtain⟨its,rv,pl,hz⟩:=I1.list hq;have llt:l<s1.heap.objs.size:=by obtain⟨o,n,e,_⟩:=pl;exact yah e
 refine call_enumerate_list pl.isList λh' he hit hsz hk=>?_
 have I2:Inv X pins σ H1 { s1 with heap:=h',toks:=s1.toks }:=I1.kept hk
 refine yf2 he ⟨s1.heap.objs.size+1,[s1.heap.objs.size+1,s1.heap.objs.size],_,_,H1,rfl,I2,zdm l _ _ (by simp),⟨⟨_,he⟩,hit⟩,λb hb=>?_,q⟩
 have hb':s1.heap.objs.size<=b:=by
  obtain rfl|hb:=yad.mp hb
  .exact ybw _
  .have e:b=s1.heap.objs.size:=by simpa using hb
   subst e;exact yaf _
 exact I1.fpOk hb' (I1.hok.fresh hb')
end
section
variable {X:Cx}{pins:List (Addr×Obj)}{σ:L2.St}{H:Hp}{s:Shared}{a:Addr}{o:Obj}{kvs:List (Key×V)}
end
section
variable {X:Cx}{o:Expr}{to:TE}{ap cp:Pos}{elts:List Expr}{kk:Nat}{tpos:Pos}
end
def Jf(ifs:List Expr)(env:Env):Sem Bool:=forIn ifs true λc r=>if r=true then do let ok <- isTrue c env (eval c env);pure (ForInStep.yield ok) else pure (ForInStep.yield r)
def Gv(X:Cx)(ifs:List Expr)(t:TT):Prop :=
 ∀(pins:List (Addr×Obj)) (s:Shared) (σ:L2.St) (H:Hp) (Q:Bool->Hp->Prop),Inv X pins σ H s->t σ H Q->wpAny (model X.prog X.w) X.A (Jf ifs X.env) (TP X pins σ Q) X.xe s
theorem zi8{X:Cx}:Gv X [] (λ_ H Q=>Q true H):=λpins s σ H Q I h=>yej ⟨H,I,h⟩
theorem Uj{X:Cx}{c:Expr}{t:TT}(h:PT X c t):Gv X [c] t:=λpins s σ H Q I q=>by
 have e:Jf [c] X.env=(isTrue c X.env (eval c X.env) >>= λok=>pure ok):=by
  unfold Jf;simp[List.forIn_cons]
 rw[e];exact yeg (yed (h pins s σ H Q I q) (λb s1 h1=>yej h1) λ_ _ z=>z)
theorem zd9{elt target iter:Expr}{ifs:List Expr}{scope:Scope}{pos:Pos}{it A4:Value}{env:Env}:compTurn (.ListComp elt [⟨target,iter,ifs,0⟩] scope pos) 0 it A4 env=(standAt iter.pos >>= λ_=>pyNext it >>= λr=>match r with
  |none=>pure (.done .next)
  |some u=>letOwnedTupleGo target it u >>= λ_=>assign target env u >>= λ_=>Jf ifs env >>= λok =>
   if ok=true then ((eval elt env >>= λx=>call (.builtin "list.append") [A4,x] >>= λ_=>pure ()) >>= λ_=>again (.compLoop (.ListComp elt [⟨target,iter,ifs,0⟩] scope pos) 0 it A4 env))
   else again (.compLoop (.ListComp elt [⟨target,iter,ifs,0⟩] scope pos) 0 it A4 env)):=by rfl
theorem zda{prog:Program}{w:World}{A:Around}{R:Result->Shared->Prop}{s:Shared}{elt target iter:Expr}{ifs:List Expr}{scope:Scope}{pos:Pos}{it A4:Value}{env:Env}{NE:Value->Shared->Prop}(hN:NE=notedBy (model prog w) A env λe s'=>R (.error e) s')(I:Nat->Shared->Prop)
  (hturn : ∀ n s, I n s -> wpAny (model prog w) A (pyNext it) (fun r s₁ => match r with
   |none=>R (.ok .next) s₁
   |some v=>wpAny (model prog w) A (letOwnedTupleGo target it v) (λ_ s₁'=>wpAny (model prog w) A (assign target env v) (λ_ s₂=>wpAny (model prog w) A (Jf ifs env) (λok s₂'=>if ok=true then wpAny (model prog w) A (eval elt env) (λx s₃ =>
     wpAny (model prog w) A (call (.builtin "list.append") [A4,x]) (λ_ s₄=>∃m,m<n/\I m s₄) NE s₃)
     NE s₂' else ∃m,m<n/\I m s₂') NE s₂) NE s₁') NE s₁) NE s)
  (k:Nat) (hk:I k s):codeAny (model prog w) A (.compLoop (.ListComp elt [⟨target,iter,ifs,0⟩] scope pos) 0 it A4 env) R s:=by
 subst hN;refine codeAny_loop rfl I (λn s hI=>?_) k hk
 show wpAny _ _ ((compTurn (.ListComp elt [⟨target,iter,ifs,0⟩] scope pos) 0 it A4 env).onRaise (λy=>do noteFrame y env;theTreesLotGoes y)) _ _ s
 refine wpAny_noted ?_;rw[zd9];refine yeg (wpAny_standAt (yeg (yed (hturn n s hI) (λr s₁ h₁=>?_) λ_ _ z=>z)))
 cases r with
 |none=>exact yej h₁
 |some v =>
  refine yeg (yed h₁ (λ_ s₁' h₁'=>?_) λ_ _ z=>z)
  refine yeg (yed h₁' (λ_ s₂ h₂=>yeg (yed h₂ (λok s₂' h₂'=>?_) λ_ _ z=>z)) λ_ _ z=>z)
  cases ok with
  |false =>
   rw[if_neg (by decide)]at h₂' ⊢
   exact yej ⟨rfl,h₂'⟩
  |true =>
   rw[if_pos rfl]at h₂' ⊢;exact yeg (yeg (yed h₂' (λx s₃ h₃=>yeg (yed h₃ (λ_ s₄ h₄=>yej (yej ⟨rfl,h₄⟩)) λ_ _ z=>z)) λ_ _ z=>z))
theorem Rm(env:Env):∀(names:List (Str×NameKind)),(∀y∈names,y.2=.free->∃c,env.cells.lookup y.1=some c)->∀A4:List (Str×Addr),∃cl:List (Str×Addr),
  (forIn names A4 λ(x:Str×NameKind) (r:List (Str×Addr))=>(if (x.2 == NameKind.free)=true then do let a <- cellOf env x.1;pure (ForInStep.yield ((x.1,a)::r)) else pure (ForInStep.yield r):Sem (ForInStep (List (Str×Addr)))))=(pure cl:Sem (List (Str×Addr))) /\
  (∀y c,cl.lookup y=some c->A4.lookup y=some c\/env.cells.lookup y=some c)/\(∀y∈names,y.2=.free->∃c,cl.lookup y.1=some c)/\∀y c,A4.lookup y=some c->∃c',cl.lookup y=some c'
 |[],_,A4=>⟨A4,rfl,λ_ _ e=>.inl e,(λ_ z=>by cases z),λ_ c e=>⟨c,e⟩⟩
 |(n,k)::r,h,A4=>by
  rw[List.forIn_cons]
  by_cases hk:k=.free
  .subst hk;obtain⟨c,hc⟩:=h (n,.free) (ya3 ..) rfl;have e1:cellOf env n=pure c:=by unfold cellOf;rw[hc]
   obtain⟨cl,e,h1,h2,h3⟩:=Rm env r (λy hy=>h y (ya0 _ hy)) ((n,c)::A4)
   refine⟨cl,?_,λy c' q=>?_,λy hy hf=>?_,λy c' q=>?_⟩
   .simp only[yf3,yeo,e1,pure_bind];exact e
   .rcases h1 y c' q with z|z
    .rw[yb2]at z;cases hy:y == n with
     |true =>
      rw[hy]at z;cases z;exact .inr (by rw[eq_of_beq hy];exact hc)
     |false=>rw[hy]at z;exact .inl z
    .exact .inr z
   .obtain rfl|hy:=yad.mp hy
    .exact h3 n c (by simp)
    .exact h2 y hy hf
   .by_cases hy:y=n
    .subst hy;exact h3 y c (by simp)
    .exact h3 y c' (by rw[yb2,beq_eq_false_iff_ne.mpr hy];exact q)
  .have hk':(k == NameKind.free)=false:=beq_eq_false_iff_ne.mpr hk;obtain⟨cl,e,h1,h2,h3⟩:=Rm env r (λy hy=>h y (ya0 _ hy)) A4
   refine⟨cl,?_,h1,λy hy hf=>?_,h3⟩
   .simp only[hk',pure_bind];exact e
   .obtain rfl|hy:=yad.mp hy
    .exact absurd hf hk
    .exact h2 y hy hf
theorem zci(scope:Scope)(env:Env)(h:∀y∈scope.names,y.2=.free->∃c,env.cells.lookup y.1=some c):∃cl,closureFor scope env=pure cl/\(∀y c,cl.lookup y=some c->env.cells.lookup y=some c)/\∀y∈scope.names,y.2=.free->∃c,cl.lookup y.1=some c:=by
 obtain⟨cl,e,h1,h2,_⟩:=Rm env scope.names h [];refine⟨cl,?_,λy c q=>?_,h2⟩
 .have e2:closureFor scope env=(forIn scope.names [] λ(x:Str×NameKind) (r:List (Str×Addr))=>(if (x.2 == NameKind.free)=true then do let a <- cellOf env x.1;pure (ForInStep.yield ((x.1,a)::r)) else pure (ForInStep.yield r):Sem (ForInStep (List (Str×Addr))))) >>= pure:=rfl
  rw[e2,e,pure_bind]
 .rcases h1 y c q with z|z
  .cases z
  .exact z
theorem Rt:∀(names:List (Str×NameKind)) (h:Heap) (A4:List (Str×Addr)) (y:Str) (c:Addr),(cellsFrom h.objs.size names A4).lookup y=some c->A4.lookup y=some c\/(h.objs.size<=c/\(pushCells h names).IsCell c none/\(y,NameKind.cell)∈names)
 |[],h,A4,y,c,e=>.inl e
 |(n,k)::r,h,A4,y,c,e=>by
  unfold cellsFrom at e;unfold pushCells;split at e
  .rename_i hk;rw[if_pos hk];have ez:(h.push { cls:=.type "cell",data:=.cell none }).objs.size=h.objs.size+1:=yc4 ..;rw[<- ez]at e
   rcases Rt r _ _ y c e with q|⟨q1,q2,q3⟩
   .rw[yb2]at q;cases hy:y == n with
    |true =>
     rw[hy]at q;cases q;have e1:y=n:=eq_of_beq hy;subst e1;exact .inr ⟨yaf _,⟨_,yf4 _ _ _ _ (yao _ rfl),rfl⟩,by rw[eq_of_beq hk];exact ya3 ..⟩
    |false=>rw[hy]at q;exact .inl q
   .exact .inr ⟨by rw[ez]at q1;exact yap (ybw _) q1,q2,ya0 _ q3⟩
  .rename_i hk;rw[if_neg hk]
   rcases Rt r h A4 y c e with q|⟨q1,q2,q3⟩
   .exact .inl q
   .exact .inr ⟨q1,q2,ya0 _ q3⟩
theorem Rv:∀(names:List (Str×NameKind)) (h:Heap) (A4:List (Str×Addr)),(∀y z c,A4.lookup y=some c->A4.lookup z=some c->y=z)->(∀y c,A4.lookup y=some c->c<h.objs.size) ->
  ∀y z c,(cellsFrom h.objs.size names A4).lookup y=some c->(cellsFrom h.objs.size names A4).lookup z=some c->y=z
 |[],h,A4,hi,_=>hi
 |(n,k)::r,h,A4,hi,hl=>by
  unfold cellsFrom;split
  .have ez:(h.push { cls:=.type "cell",data:=.cell none }).objs.size=h.objs.size+1:=yc4 ..;rw[<- ez];refine Rv r _ _ (λy z c h1 h2=>?_) (λy c h1=>?_)
   .rw[yb2]at h1 h2;cases hy:y == n with
    |true =>
     rw[hy]at h1;cases h1;cases hz:z == n with
     |true=>rw[eq_of_beq hy,eq_of_beq hz]
     |false =>
      rw[hz]at h2;exact absurd (hl z _ h2) (yba _)
    |false =>
     rw[hy]at h1;cases hz:z == n with
     |true =>
      rw[hz]at h2;cases h2;exact absurd (hl y _ h1) (yba _)
     |false=>rw[hz]at h2;exact hi y z c h1 h2
   .rw[yb2]at h1;rw[ez];cases hy:y == n with
    |true=>rw[hy]at h1;cases h1;exact yc5 _
    |false=>rw[hy]at h1;exact ycc (hl y c h1)
  .exact Rv r h A4 hi hl
theorem Rq:∀(names:List (Str×NameKind)) (n lo:Nat) (A4:List (Str×Addr)) (y:Str) (c:Addr),lo<=n->((y,NameKind.cell)∈names\/∃c0,A4.lookup y=some c0/\lo<=c0)->(cellsFrom n names A4).lookup y=some c->lo<=c
 |[],n,lo,A4,y,c,hn,h,e=>by
  rcases h with h|⟨c0,h1,h2⟩
  .cases h
  .have e':A4.lookup y=some c:=e;rw[h1]at e';cases e';exact h2
 |(m,k)::r,n,lo,A4,y,c,hn,h,e=>by
  unfold cellsFrom at e;split at e
  .refine Rq r (n+1) lo _ y c (yc2 hn) ?_ e
   by_cases hy:y=m
   .subst hy;exact .inr ⟨n,by simp,hn⟩
   .rcases h with h|⟨c0,h1,h2⟩
    .rcases yad.mp h with z|z
     .cases z;exact absurd rfl hy
     .exact .inl z
    .exact .inr ⟨c0,by rw[yb2,beq_eq_false_iff_ne.mpr hy];exact h1,h2⟩
  .rename_i hk;refine Rq r n lo A4 y c hn ?_ e
   rcases h with h|h
   .rcases yad.mp h with z|z
    .cases z;exact absurd rfl hk
    .exact .inl z
   .exact .inr h
theorem zbr{M:Model}{A:Around}{E:Value->Shared->Prop}{s:Shared}{scope:Scope}{globals:Addr}{cl:List (Str×Addr)}{qual:Str}{func:Option Addr}{code:Value}{outer:Env}{builtins:Addr}{Q:Env->Shared->Prop}
  (hQ:Q (newEnv scope s.heap.objs.size globals (cellsFrom (s.heap.objs.size+1) scope.names cl) qual func code (some outer) builtins) { s with heap:=pushCells (s.heap.push { cls:=.type "dict",data:=.dict #[] }) scope.names }) :
  wpAny M A (newFunctionEnv scope globals cl [] qual func code (some outer) builtins) Q E s:=by
 simp only[newFunctionEnv,Option.isSome_some,yeo];refine yeg (wpAny_alloc ?_);refine yeg (wpAny_layCells _ (λname kind cells=>by cases hkc:kind == NameKind.cell<;>simp[hkc]) _ _ _ _ ?_);rw[show({ s with heap:=s.heap.push { cls:=.type "dict",data:=.dict #[] } }:Shared).heap.objs.size=s.heap.objs.size+1 from yc4 ..]
 rw[List.forIn_nil];exact yeg (yej (yej hQ))
abbrev Ai(X:Cx)(scope:Scope)(cl:List (Str×Addr))(N':List Str)(C:Addr)(s₀:Shared)(H₀:Hp)(ex:List Addr)(xb:Value->Shared->Prop):Cx:={ znb X scope cl N' C s₀ H₀ ex with fn:=λx=>decide (scope.names.lookup x=some .cell),xe:=xb }
theorem YY{h h' B B':Heap}(k:∀b o,B.get? b=none->h.get? b=some o->(∀us,o.data≠.fields us)->B'.get? b=none/\∃o',h'.get? b=some o'/\∀us,o'.data≠.fields us):∀{l:List Env},h.FunFrames B l->h'.FunFrames B' l
 |[],_=>trivial
 |_::_,⟨x,⟨L,o,y1,y2,y3,y4⟩,r⟩=>by
  obtain⟨z1,o',z2,z3⟩:=k L o y2 y3 y4;exact⟨x,⟨L,o',y1,z1,z2,z3⟩,YY k r⟩
def Gw(X:Cx):Prop:=∃v l,X.stack=v::l/\X.env.frame=v.frame
theorem zeg{X:Cx}{E:L2.St->XK}{pins:List (Addr×Obj)}{σ:L2.St}{H:Hp}{s s':Shared}{C:Addr}{benv:Env}{e A4:Value}{use:Option (Value->Sem Unit)}{QQ:Value->Shared->Prop}{EE:Value->Shared->Prop}(hx:BH X E)(hst:Gw X)(I:Inv X pins σ H s)(fC:CB X pins H C)(hC:∃m,s.heap.Ns C m)(nC:C∉Az X.stack)
  (hb:benv.frame=X.env.frame) (h:Bk X.prog X.w X.stack H s (E σ) e s'):wpAny (model X.prog X.w) X.A (noteFrame e benv) (λ_ s2=>compPost (model X.prog X.w) X.A X.xe use QQ A4 C (.error e) s2) EE s':=by
 obtain⟨v,l,st,hv⟩:=hst;obtain⟨a,cls,H',B,rfl,os,bare,un,hok,kB,tB,fl0,he⟩:=h;have fl1:IE B (v::l) a cls s'.heap:=st▸fl0
 obtain⟨L,hL⟩:∃L,v.frame=some L:=by
  obtain⟨_,_,_,⟨_,⟨L,_,y,_⟩,_⟩,_⟩:=fl1;exact⟨L,y⟩
 refine Pn (st▸I.ok.frames) (hb.trans hv) hL fl1 λh4 held sm=>?_
 obtain⟨m,oC,es,ep,hCo,dC,rC⟩:=hC;have bC:B.get? C=some oC:=kB C oC hCo fC.1 nC;obtain⟨f1,f2,f3,oe,ws,Tb,oT,ts,ha,hcl,hd,g1,nT,Tne,hT,dT,g3⟩:=held
 have hne:∀{b:Addr},B.get? b=none->b≠C:=λz w=>by
  rw[w,bC]at z;cases z
 have key:∃m,h4.Ns C m/\∀h',Heap.SameBut C h4 h'->∀cenv:Env,cenv.locals=C->wpAny (model X.prog X.w) X.A (PySem.passOn "comprehension.variables-let-go" (.ref a) cenv:Sem Value) (λ_ _=>False) X.xe { s' with heap:=h' }:=by
  refine⟨m,⟨oC,es,ep,f1 C oC bC,dC,rC⟩,λh5 sb cenv _=>?_⟩
  have ha5:h5.get? a=some oe:=(sb.2 a (hne f2)).trans ha;have hT5:h5.get? Tb=some oT:=(sb.2 Tb (hne nT)).trans hT;unfold PySem.passOn;refine yeg (yev ha5 hd g1 ?_);rw[if_neg (by simp)]
  refine yeg ?_;unfold setFlight;refine yeg (yev ha5 hd g1 ?_);rw[if_pos (by simp)]
  refine yeu hT5 dT (ybs.mp g3).1 (wpAny_throw ?_);generalize hfl:(cenv.frame.elim Value.none λf=>rawInt f)=fl
  have dT6:=ydc dT (·.setIfInBounds 3 fl);have hT6:=ycs (Obj.mapFields (·.setIfInBounds 3 fl)) hT5 (yds dT6);generalize hh6:h5.update Tb (Obj.mapFields (·.setIfInBounds 3 fl))=h6 at hT6 ⊢
  have to6:∀b o,b≠C->b≠Tb->h4.get? b=some o->h6.get? b=some o:=λb o n1 n2 e=>by
   rw[<- hh6,ybf _ _ (yb1 n2)];exact(sb.2 b n1).trans e
  have B6:∀b o,b≠C->B.get? b=some o->h6.get? b=some o:=λb o n e=>to6 b o n (λz=>by rw[z,nT]at e;cases e) (f1 b o e)
  have hid:∀{b:Addr} {o:Obj},(PySem.W.hideAll s.heap [C]).get? b=some o->s.heap.get? b=some o/\b≠C:=λ{b o} e=>⟨ycm _ e,λz=>by
   rw[z,ydt [C] (ya7.mpr rfl)]at e;cases e⟩
  have hidB:∀{b:Addr} {o:Obj},b≠C->B.get? b=some o->(PySem.W.hideAll B [C]).get? b=some o:=λ{b o} n e=>yc3 _ e (λz=>n (ya7.mp z))
  have hidN:∀{b:Addr},B.get? b=none->(PySem.W.hideAll B [C]).get? b=none:=λ{b} e=>by
   cases q:(PySem.W.hideAll B [C]).get? b with
   |none=>rfl
   |some o =>
    rw[ycm _ q]at e;cases e
  have IX:Inv X pins σ H { s with heap:=PySem.W.hideAll s.heap [C] }:=HE (t':=s.toks) (ch:=[C]) I (λb o n e=>yc3 _ e n) λb z=>by
   rw[ya7.mp z];exact fC
  have slot:∀b o,s.heap.get? b=some o->H b=none->b∈Az X.stack->∃z,h6.get? b=some { o with slots:=z }:=λb o e n z=>by
   obtain⟨_,o2,ho2,d2⟩:=I.stack.mem z;rw[e]at ho2;cases ho2;obtain⟨z2,e2⟩:=un.slot b o e n z (by simp)
   obtain⟨z3,e3⟩:=sm b _ e2 d2;refine⟨z3,to6 b _ (λw=>nC (w▸z)) (λw=>?_) e3⟩
   rw[w,hT]at e3;cases e3;exact d2 _ dT
  have HC:H' C=none:=un.free C oC hCo fC.1 (by simp)
  refine hx pins σ H _ _ _ IX ⟨a,cls,H',PySem.W.hideAll B [C],rfl,os,bare,⟨λb o e n z _=>?_,λb o e n z _=>slot b o (hid e).1 n z,λb o e n z=>un.free b o (hid e).1 n z,λb o e _=>?_,un.tups,un.frzs,un.tbls⟩,?_,λb o e n z=>hidB (hid e).2 (kB b o (hid e).1 n z),λb o e z=>?_,⟨fl,λb o e=>?_,hidN f2,?_,?_⟩,he⟩
  .exact B6 b o (hid e).2 (kB b o (hid e).1 n z)
  .by_cases z:b∈Az X.stack
   .obtain⟨w,q⟩:=slot b o (hid e).1 (I.stkFree b z) z;exact⟨_,q⟩
   .obtain⟨o',q⟩:=tB b o (hid e).1 z;exact⟨o',B6 b o' (hid e).2 q⟩
  .intro b u e;refine(hok b u e).stay (λc x hc q=>hidB (λw=>?_) q) (λ_ q=>q) λ_ _ q=>q
   rcases hc with y|y
   .rw[<- y,w,HC]at e;cases e
   .rw[w,HC]at y;cases y
  .obtain⟨o',q⟩:=tB b o (hid e).1 z;exact⟨o',hidB (hid e).2 q⟩
  .have e':=ycm _ e;refine B6 b o (λw=>?_) e'
   rw[w,ydt [C] (ya7.mpr rfl)]at e;cases e
  .rw[st];refine YY (λb o n e d=>⟨hidN n,o,to6 b o (hne n) (λw=>?_) e,d⟩) f3
   rw[w,hT]at e;cases e;exact d _ dT
  .refine⟨oe,ws,Tb,_,_,?_,hcl,hd,g1,hidN nT,Tne,hT6,dT6,?_⟩
   .rw[<- hh6,ybf _ _ Tne];exact ha5
   .simp[Array.getElem?_setIfInBounds,(ybs.mp g3).1]
 cases use<;>exact key
structure TurnG(cq:Cx->Prop)(P:Program)(w:World)(K:kA)(tg:Expr)(J:It)(fp:List Addr)(it:Addr)(tn:Nat->Heap->Prop):Prop where
 obj:∀i h,tn i h->∀b∈fp,∃o,h.get? b=some o/\∀v,o.data≠.cell v
 keep:∀i h h',tn i h->(∀b∈fp,∀o,h.get? b=some o->h'.get? b=some o)->tn i h'
 item:∀(X:Cx),X.prog=P->X.w=w->X.K=K->cq X->∀(i:Nat) (pins:List (Addr×Obj)) (s:Shared) (σ:L2.St) (H:Hp) (E:Value->Shared->Prop),Inv X pins σ H s->(∀b∈fp,CB X pins H b)->tn i s.heap->J.go i H ->
  wpAny (model P w) X.A (pyNext (.ref it)) (λr s1=>∃u,r=some u/\wpAny (model P w) X.A (letOwnedTupleGo tg (.ref it) u) (λ_ s2=>∃x H',Inv X pins σ H' s2/\RelV x u/\J.yld i H x H'/\tn (i+1) s2.heap/\∀b∈fp,H' b=none) E s1) E s
 done:∀(X:Cx),X.prog=P->X.w=w->X.K=K->cq X->∀(i:Nat) (pins:List (Addr×Obj)) (s:Shared) (σ:L2.St) (H:Hp) (E:Value->Shared->Prop),Inv X pins σ H s->(∀b∈fp,CB X pins H b)->tn i s.heap->J.stop i H ->
  wpAny (model P w) X.A (pyNext (.ref it)) (λr s1=>r=none/\Inv X pins σ H s1) E s
 self:∀(A:Around) (i:Nat) (s:Shared) (Q:Value->Shared->Prop) (E:Value->Shared->Prop),tn i s.heap->Q (.ref it) s->wpAny (model P w) A (pyIter (.ref it)) Q E s
def PJ(cq:Cx->Prop)(X:Cx)(tg iter:Expr)(wi:TI):Prop :=
 ∀(pins:List (Addr×Obj)) (s:Shared) (σ:L2.St) (H:Hp) (R:It->Hp->Prop),Inv X pins σ H s->wi σ H R ->
  wpAny (model X.prog X.w) X.A (eval iter X.env) (λv s1=>wpAny (model X.prog X.w) X.A (pyIter v) (λitv s2=>∃(it:Addr) (fp:List Addr) (tn:Nat->Heap->Prop) (J:It) (H':Hp),itv=.ref it/\Inv X pins σ H' s2/\TurnG cq X.prog X.w X.K tg J fp it tn/\tn 0 s2.heap/\(∀b∈fp,CB X pins H' b)/\R J H') X.xe s1) X.xe s
theorem Uu{X:Cx}{tg iter:Expr}{wi:TI}(h:PI X tg iter wi):PJ (λX=>X.calm=true) X tg iter wi:=λpins s σ H R I q =>
 AS (h pins s σ H R I q) λ_ _ h1=>AS h1 λ_ _ ⟨it,fp,tn,J,H',e,I2,T,r⟩=>⟨it,fp,tn,J,H',e,I2,⟨T.obj,T.keep,T.item,T.done,T.self⟩,r⟩
section
variable {X:Cx}{elt iter tg:Expr}{ifs:List Expr}{scope:Scope}{pos pos2:Pos}{cl:List (Str×Addr)}{N':List Str}{wi:TI}{g:TG}{tt:TT}{te:TE}
def LY(σ':L2.St->L2.St)(wi:TI)(g:TG)(tt:TT)(te:TE):TE:=λσ H Q=>wi σ H λJ H1=>∃(W:Nat->List V->L2.St->Hp->Prop) (n:Nat),n<=sizeLine/\W 0 [] (σ' σ) H1/\∀i ys τ H,W i ys τ H->ys.length<=i/\i<=n /\
 ((J.stop i H/\∀p,H p=none->Q (.ref p) (upd H p (.lst ys)))\/(i<n/\J.go i H/\∀x H',J.yld i H x H'->g x τ H' λτ2 H2=>tt τ2 H2 λk H3=>if k=true then te τ2 H3 λy H4=>W (i+1) (ys++[y]) τ2 H4 else W (i+1) ys τ2 H3))
theorem Wu(σ':L2.St->L2.St)(hclos:closureFor scope X.env=pure cl)(hkind:scope.kind=.function)(hnames:∀y∈scope.names,y.2=.local->scope.names.lookup y.1=some .local)
  (hcl:∀y c,cl.lookup y=some c->X.env.cells.lookup y=some c) (hhas:∀y,(relabel scope X.env).names.lookup y=some .cell\/(relabel scope X.env).names.lookup y=some .free->(y,NameKind.cell)∈scope.names\/∃c,cl.lookup y=some c) (hcap:∀(σ:L2.St) (i:Nat) (y:Str) (v:V),N'[i]?=some y->(σ' σ)[i]?=some (some v)->(y,NameKind.cell)∉scope.names)
  (hσ:∀σ:L2.St,σ.length=X.N.length->(σ' σ).length=N'.length)
  (hvis:∀(σ:L2.St) (i:Nat) (y:Str) (v:V),N'[i]?=some y->(σ' σ)[i]?=some (some v)->((relabel scope X.env).names.lookup y=some .cell\/(relabel scope X.env).names.lookup y=some .free)/\∃j:Nat,X.N[j]?=some y/\σ[j]?=some (some v)/\Dc X.env.scope y/\X.env.kindOf y≠some .local)
  {cq:Cx->Prop} (hc:∀pins σ H s cl C ex xb,Inv X pins σ H s->cq (Ai X scope cl N' C s H ex xb)) (hi:PJ cq X tg iter wi) {E:L2.St->XK} (hps:BH X E) (hst:Gw X) {σ:L2.St} (hg:∀cl C s₀ H₀ ex xb,BH (Ai X scope cl N' C s₀ H₀ ex xb) (λ_=>E σ)->PG (Ai X scope cl N' C s₀ H₀ ex xb) tg g) (ht:∀cl C s₀ H₀ ex xb,BH (Ai X scope cl N' C s₀ H₀ ex xb) (λ_=>E σ)->Gv (Ai X scope cl N' C s₀ H₀ ex xb) ifs tt) (he:∀cl C s₀ H₀ ex xb,BH (Ai X scope cl N' C s₀ H₀ ex xb) (λ_=>E σ)->PE (Ai X scope cl N' C s₀ H₀ ex xb) elt te)
  (hs:∀x,foldedSetIterable iter X.env x=pure x) {use:Option (Value->Sem Unit)} {pins:List (Addr×Obj)} {s:Shared} {H:Hp} {Q:VK} {QQ:Value->Shared->Prop} (I:Inv X pins σ H s) (h:LY σ' wi g tt te σ H Q)
  (hend:∀(D C:Addr) (s5:Shared) (H5:Hp),Inv X pins σ H5 s5->Q (.ref D) H5->(∃m,s5.heap.Ns C m)->CB X pins H5 C->compPost (model X.prog X.w) X.A X.xe use QQ (.ref D) C (.ok .next) s5) :
  wpAny (model X.prog X.w) X.A (comprehension (.ListComp elt [⟨tg,iter,ifs,0⟩] scope pos) scope X.env pos2 (newList []) false (eval iter X.env) use) QQ X.xe s:=by
 refine wpAny_comprehension_free (use:=use) rfl hs hclos hkind hnames (AS (hi pins s σ H _ I h) λv s1 h1=>AS h1 λitv s2 h2=>?_)
 obtain⟨it,fp,tn,J,H2,e,I2,T,st2,f2,W,n,hn,w0,turn⟩:=h2;subst e;refine yet (zbr ?_);dsimp only;generalize hHp:s2.heap.push { cls:=.type "list",dict:=none,data:=.seq ([]:List Value).toArray }=P2;generalize hcl':cellsFrom (P2.objs.size+1) scope.names cl=cl';generalize hh1:pushCells (P2.push { cls:=.type "dict",data:=.dict #[] }) scope.names=h₁;have hC:P2.objs.size=s2.heap.objs.size+1:=by rw[<- hHp,yc4]
 have hP3:(P2.push { cls:=.type "dict",data:=.dict #[] }).objs.size=P2.objs.size+1:=yc4 ..;have hDC:s2.heap.objs.size≠P2.objs.size:=by rw[hC];exact yau (yc5 _)
 have below:∀b,b<s2.heap.objs.size->b≠P2.objs.size/\b≠s2.heap.objs.size:=λb hb=>⟨by rw[hC];exact yau (ycc hb),yau hb⟩
 have old:∀b o,s2.heap.get? b=some o->h₁.get? b=some o:=λb o e=>by
  rw[<- hh1];exact yf4 _ _ _ _ (ya8 _ (hHp▸ya8 _ e))
 have hacc:h₁.PlainList s2.heap.objs.size #[]:=⟨_,by
  rw[<- hh1];exact yf4 _ _ _ _ (ya8 _ (hHp▸yao _ rfl))⟩
 have hns₁:h₁.Ns P2.objs.size (λ_=>none):=by
  rw[<- hh1];exact(Heap.Ns.new P2 (.type "dict")).keeps (yf4 _ _)
 have cells:∀y c,cl'.lookup y=some c->X.env.cells.lookup y=some c\/(P2.objs.size<c/\h₁.IsCell c none/\(y,NameKind.cell)∈scope.names):=λy c e=>by
  rw[<- hcl',<- hP3]at e
  rcases Rt _ _ _ y c e with q|⟨q1,q2,q3⟩
  .exact .inl (hcl y c q)
  .rw[hP3]at q1;rw[hh1]at q2;exact .inr ⟨q1,q2,q3⟩
 have has':∀y,(y,NameKind.cell)∈scope.names\/(∃c,cl.lookup y=some c)->∃c,cl'.lookup y=some c:=λy hy=>by
  rw[<- hcl']
  have go:∀(names:List (Str×NameKind)) (n:Nat) (A4:List (Str×Addr)),((y,NameKind.cell)∈names\/∃c,A4.lookup y=some c)->∃c,(cellsFrom n names A4).lookup y=some c:=by
   intro names
   induction names with
   |nil =>
    intro n A4 h
    rcases h with h|h
    .cases h
    .exact h
   |cons x r ih =>
    obtain⟨m,k⟩:=x;intro n A4 h;unfold cellsFrom;split
    .refine ih _ _ ?_
     by_cases hm:y=m
     .subst hm;exact .inr ⟨n,by simp⟩
     .rcases h with h|⟨c,h⟩
      .rcases yad.mp h with z|z
       .cases z;exact absurd rfl hm
       .exact .inl z
      .exact .inr ⟨c,by rw[yb2,beq_eq_false_iff_ne.mpr hm];exact h⟩
    .rename_i hk;refine ih _ _ ?_
     rcases h with h|h
     .rcases yad.mp h with z|z
      .cases z;exact absurd rfl hk
      .exact .inl z
     .exact .inr h
  exact go _ _ _ hy
 have fsub:∀b∈Az X.stack,b∈X.env.locals::X.fs:=I2.stkSub
 have fpfs:∀b∈fp,b∉Az X.stack:=λb hb z=>by
  obtain⟨_,h2,h3,_⟩:=f2 b hb
  rcases yad.mp (fsub b z) with q|q
  .exact h2 q
  .exact h3 q
 have fpold:∀b∈fp,b<s2.heap.objs.size:=λb hb=>by
  obtain⟨o,e,_⟩:=T.obj 0 _ st2 b hb;exact yah e
 have cold:∀y c,cl'.lookup y=some c->c<s2.heap.objs.size\/P2.objs.size<c:=λy c e=>by
  rcases cells y c e with q|q
  .obtain⟨v,z⟩:=I2.cell y c q;exact .inl z.lt
  .exact .inr q.1
 have cneD:∀y c,cl'.lookup y=some c->c≠s2.heap.objs.size:=λy c e z=>by
  rcases cold y c e with q|q
  .rw[z]at q;exact yba _ q
  .rw[z,hC]at q;exact absurd q (ye4.mpr (ybw _))
 have cneF:∀b,b<s2.heap.objs.size->(∀y c,X.env.cells.lookup y=some c->c≠b)->∀y c,cl'.lookup y=some c->c≠b:=λb hb hx y c e z=>by
  rcases cells y c e with q|q
  .exact hx y c q z
  .have:=q.1;rw[z,hC]at this;exact absurd (yd9 hb (Nat.lt_of_succ_lt this)) (yba _)
 have fresh2:∀b,s2.heap.objs.size<=b->H2 b=none:=λb hb=>I2.hok.fresh hb
 have CS:s2.heap.objs.size<=P2.objs.size:=by rw[hC];exact ybw _
 obtain⟨xb,hxb⟩:∃xb,xb=notedBy (model X.prog X.w) X.A (compEnvC scope cl' P2.objs.size X.env) λe s'=>compPost (model X.prog X.w) X.A X.xe use QQ (.ref s2.heap.objs.size) P2.objs.size (.error e) s':=⟨_,rfl⟩
 have hpb:BH (Ai X scope cl' N' P2.objs.size s2 H2 fp xb) (λ_=>E σ):=by
  subst hxb;intro pins4 σ4 H4 s4 e s' I4 hcx
  have IX:Inv X pins σ H4 s4:=I2.call' (s':=s4) (ch:=fp) I4.os I4.base I4.hok I4.bare λb hb=>by
   obtain⟨g1,g2,g3,g4,g5,g6⟩:=f2 b hb;exact⟨g4,g2,g5,g6⟩
  obtain⟨m4,hm4,_⟩:=I4.loc
  exact zeg hps hst IX ⟨I4.free,(I2.fpOk (H':=H2) CS (fresh2 _ CS)).2⟩ ⟨m4,hm4⟩ (λz=>by
   obtain⟨o,ho,_⟩:=(I2.stack.mem z).2;exact absurd (yah ho) (ye4.mpr CS)) rfl hcx
 have ok':(Ai X scope cl' N' P2.objs.size s2 H2 fp xb).Ok:=by
  refine⟨I2.ok.mod,hkind,I2.ok.glob,I2.ok.blt,CS,?inj,λy hy=>has' y (hhas y hy),?cab,I2.ok.hd,I2.ok.frames,.inl rfl,λb hb=>⟨(below b (fpold b hb)).1,cneF b (fpold b hb) λy c e=>(f2 b hb).2.2.2.2.1 y c e⟩,
   λb o e=>I2.bs b o e,yap I2.ok.bsz I2.sz,λb o e hb=>?_,λb hb=>fpfs b hb,I2.stack,I2.stkFree⟩
  case inj =>
   intro y z c h1 h2;have h1':(cellsFrom (P2.push { cls:=.type "dict",data:=.dict #[] }).objs.size scope.names cl).lookup y=some c:=by rw[hP3,hcl'];exact h1
   have h2':(cellsFrom (P2.push { cls:=.type "dict",data:=.dict #[] }).objs.size scope.names cl).lookup z=some c:=by rw[hP3,hcl'];exact h2
   refine Rv scope.names _ cl (λy z c g1 g2=>I2.ok.inj y z c (hcl y c g1) (hcl z c g2)) (λy c g=>?_) y z c h1' h2'
   obtain⟨v,q⟩:=I2.cell y c (hcl y c g);rw[hP3,hC];exact ycc (ycc q.lt)
  case cab =>
   intro y c hy e;have hy':scope.names.lookup y=some .cell:=yf5 hy;have e':(cellsFrom (P2.objs.size+1) scope.names cl).lookup y=some c:=by rw[hcl'];exact e
   exact yap CS (yap (ybw _) (Rq scope.names _ (P2.objs.size+1) cl y c (yaf _) (.inl (ybr hy')) e'))
  .obtain⟨_,_,_,q,_⟩:=f2 b hb
   rcases q with q|q
   .exact I2.ok.noex b o e q
   .exact absurd (yam (yah e) (yap I2.ok.bsz q)) (yba _)
 have I':Inv (Ai X scope cl' N' P2.objs.size s2 H2 fp xb) pins (σ' σ) H2 { s2 with heap:=h₁ }:=by
  refine⟨ok',rfl,I2.bare,Un.kept old,⟨_,hns₁,λi y v h1 h2 h3=>?_⟩,λy c e=>?_,fresh2 _ CS,?fc,λp hp=>?_,I2.hok.kept old,hσ σ I2.len⟩
  case fc =>
   intro y c e
   rcases cells y c e with q|q
   .exact I2.freeC y c q
   .exact fresh2 c (yap CS (ye5 q.1))
  .obtain⟨hk,j,h4,h5,h6,h7⟩:=hvis σ i y v h1 h2;have hno:=hcap σ i y v h1 h2;obtain⟨m,hn',hl⟩:=I2.loc;obtain⟨u,r,l⟩:=hl j y v h4 h5 h6;obtain⟨c,hcc⟩:=has' y (hhas y hk);refine⟨u,r,.inr ⟨hk,c,hcc,?_⟩⟩
   rcases l with ⟨k1,_⟩|⟨_,c',e',z⟩
   .exact absurd k1 h7
   .rcases cells y c hcc with w|w
    .rw[w]at e';cases e';obtain⟨o,ho,hd⟩:=z;exact⟨o,old _ _ ho,hd⟩
    .exact absurd w.2.2 hno
  .rcases cells y c e with w|w
   .obtain⟨v,o,ho,hd⟩:=I2.cell y c w;exact⟨v,o,old _ _ ho,hd⟩
   .exact⟨none,w.2.1⟩
  .obtain⟨e1,e2,e3,e4,e5⟩:=I2.pin p hp;refine⟨old _ _ e1,e2,(below _ (yah e1)).1,λz=>?_,e5⟩
   rcases yad.mp (fsub _ z) with q|q
   .exact e3 q
   .exact e4 q
 have stat:∀{H':Hp},(∀b∈fp,H' b=none)->∀b∈fp,CB (Ai X scope cl' N' P2.objs.size s2 H2 fp xb) pins H' b:=λhn' b hb =>
  ⟨hn' b hb,(below b (fpold b hb)).1,fpfs b hb,.inl hb,cneF b (fpold b hb) λy c e=>(f2 b hb).2.2.2.2.1 y c e,(f2 b hb).2.2.2.2.2⟩
 have Dok:∀{H':Hp},H' s2.heap.objs.size=none->CB (Ai X scope cl' N' P2.objs.size s2 H2 fp xb) pins H' s2.heap.objs.size:=λhn' =>
  ⟨hn',hDC,(λz=>by
   obtain⟨o,ho,_⟩:=(I2.stack.mem z).2;exact absurd (yah ho) (yba _)),.inr (yaf _),cneD,λp hp z=>absurd (yah (I2.pin p hp).1) (by rw[z];exact yba _)⟩
 have loop:∀s3:Shared,s3={ s2 with heap:=h₁ } ->
   codeAny (model X.prog X.w) X.A (.compLoop (.ListComp elt [⟨tg,iter,ifs,0⟩] scope pos) 0 (.ref it) (.ref s2.heap.objs.size) (compEnvC scope cl' P2.objs.size X.env))
    (compPost (model X.prog X.w) X.A X.xe use QQ (.ref s2.heap.objs.size) P2.objs.size) s3:=by
  rintro s3 rfl
  refine zda hxb (λm s'=>∃i ys τ H',m=n - i/\Inv (Ai X scope cl' N' P2.objs.size s2 H2 fp xb) pins τ H' s'/\tn i s'.heap/\(∀b∈fp,H' b=none)/\H' s2.heap.objs.size=none/\(∃its:List Value,A9 ys its/\s'.heap.PlainList s2.heap.objs.size its.toArray)/\W i ys τ H')
   ?_ n ⟨0,[],σ' σ,H2,rfl,I',T.keep _ _ _ st2 λb _ o e=>old b o e,λb hb=>(f2 b hb).1,fresh2 _ (yaf _),⟨[],.nil,hacc⟩,w0⟩
  rintro m s4 ⟨i,ys,τ,H4,rfl,I4,st4,fr4,hD4,⟨its,rv,hpl⟩,w4⟩;obtain⟨hly,hin,c⟩:=turn i ys τ H4 w4
  have statp:∀{H':Hp},(∀b∈fp,H' b=none)->∀b∈fp,CB (Ai X scope cl' N' P2.objs.size s2 H2 fp xb) (pins++HV [s2.heap.objs.size] s4.heap) H' b:=λ{H'} fr' b hb=>by
    obtain⟨g1,g2,g3,g4,g5,g6⟩:=stat fr' b hb;refine⟨g1,g2,g3,g4,g5,λp hp z=>?_⟩
    rcases yat.mp hp with y|y
    .exact g6 p (ybd _ y) z
    .rcases yat.mp y with y|y
     .exact g6 p (yak _ y) z
     .obtain⟨hb',_⟩:=VO y;rw[z,ya7]at hb';exact absurd (fpold b hb) (by rw[hb'];exact yba _)
  rcases c with ⟨stop,q⟩|⟨hlt,go,step⟩
  .obtain⟨k,hDo⟩:=hpl;have I4p:=I4.pinned (fp:=[s2.heap.objs.size]) (λb hb=>by rw[ya7.mp hb];exact Dok hD4) (λb hb=>by rw[ya7.mp hb];exact⟨_,hDo,λv z=>(by cases z)⟩)
   refine AS (T.done (Ai X scope cl' N' P2.objs.size s2 H2 fp xb) rfl rfl rfl (hc _ _ _ _ _ _ _ _ I2) i _ s4 τ H4 _ I4p (statp fr4) st4 stop) λr s5 ⟨hr,I5⟩=>?_
   subst hr;have hD5:s5.heap.get? s2.heap.objs.size=some { cls:=.type "list",data:=.seq its.toArray k }:=(I5.pin (s2.heap.objs.size,_) (yak _ (yak _ (Ha (ya7.mpr rfl) hDo)))).1;obtain⟨m5,hn5,_⟩:=I5.loc;have fC:H4 P2.objs.size=none:=I5.free
   have U5:Un (Az X.stack) fp H2 (upd H4 s2.heap.objs.size (.lst ys)) s2.heap s5.heap:=by
    have B:=I5.base;refine⟨λb o e1 e2 e3 e4=>B.keep b o e1 e2 e3 e4,λb o e1 e2 e3 e4=>B.slot b o e1 e2 e3 e4,λb o e1 e2 e4=>?_,λb o e1 e4=>B.there b o e1 e4,λb xs e1=>?_,λb o u e1=>?_,λb ps e1=>?_⟩
    .rw[Ak (below b (yah e1)).2];exact B.free b o e1 e2 e4
    .have q':=B.tups b xs e1;rw[Ak (Bf q' hD4)];exact q'
    .have q':=B.frzs b o u e1;rw[Ak (Bf q' hD4)];exact q'
    .obtain⟨more,q'⟩:=B.tbls b ps e1;exact⟨more,by rw[Ak (Bf q' hD4)];exact q'⟩
   have hzy:ys.length<=sizeLine:=yap hly (yap hin hn);have HK:HOk X.prog X.w (upd H4 s2.heap.objs.size (.lst ys)) s5.heap:=Zw.HOk.adopt I5.hok hD4 ⟨hzy,its,k,rv,hD5⟩;have os5:s5.os=s2.os:=I5.os
   have IX:Inv X pins σ (upd H4 s2.heap.objs.size (.lst ys)) s5:=I2.call' (s':=s5) (ch:=fp) os5 U5 HK I5.bare (λb hb=>by
    obtain⟨g1,g2,g3,g4,g5,g6⟩:=f2 b hb;exact⟨g4,g2,g5,g6⟩)
   refine hend s2.heap.objs.size P2.objs.size s5 _ IX (q _ hD4) ⟨m5,hn5⟩ ?_;have CL:s2.heap.objs.size<=P2.objs.size:=CS;have fp0:CB X pins H2 P2.objs.size:=I2.fpOk CS (fresh2 _ CS);exact⟨by rw[Ak (yb1 hDC)];exact fC,fp0.2⟩
  .obtain⟨k,hDo⟩:=hpl;have I4p:=I4.pinned (fp:=[s2.heap.objs.size]) (λb hb=>by rw[ya7.mp hb];exact Dok hD4) (λb hb=>by rw[ya7.mp hb];exact⟨_,hDo,λv z=>(by cases z)⟩)
   refine AS (T.item (Ai X scope cl' N' P2.objs.size s2 H2 fp xb) rfl rfl rfl (hc _ _ _ _ _ _ _ _ I2) i _ s4 τ H4 _ I4p (statp fr4) st4 go) λr s5 ⟨u,hr,h5⟩=>?_
   subst hr;refine AS h5 λ_ s6 ⟨x,H6,I6,r6,y6,st6,fr6⟩=>?_
   have I6':=I6.pinned (statp fr6) (T.obj _ _ st6);refine AS (hg _ _ _ _ _ _ hpb _ s6 τ H6 x u _ I6' r6 (step x H6 y6)) λ_ s7 ⟨τ7,H7,I7,q7⟩=>?_
   refine AS (ht _ _ _ _ _ _ hpb _ s7 τ7 H7 _ I7 q7) λok s7b ⟨H7b,I7b,q7b⟩=>?_
   have Al:∀{H8:Hp} {s8:Shared} {τ8:L2.St},Inv (Ai X scope cl' N' P2.objs.size s2 H2 fp xb) (pins++HV [s2.heap.objs.size] s4.heap++HV fp s6.heap) τ8 H8 s8->∀h9:Heap,(∀b o,b≠s2.heap.objs.size->s8.heap.get? b=some o->h9.get? b=some o)->tn (i+1) h9/\∀b∈fp,H8 b=none:=λ{H8 s8 τ8} I8 h9 sb=>by
    refine⟨T.keep _ _ _ st6 λb hb o e=>?_,λb hb=>?_⟩
    .exact sb b o (below b (fpold b hb)).2 (I8.pin (b,o) (yak _ (yak _ (Ha hb e)))).1
    .obtain⟨o,e,d⟩:=T.obj _ _ st6 b hb;exact(I8.pin (b,o) (yak _ (yak _ (Ha hb e)))).2.1
   cases ok with
   |false =>
    rw[if_neg (by decide)]at q7b ⊢
    have hD8:=I7b.pin (s2.heap.objs.size,_) (yak _ (ybd _ (yak _ (Ha (ya7.mpr rfl) hDo))));obtain⟨t9,f9⟩:=Al I7b s7b.heap λb o _ e=>e
    exact⟨n - (i+1),by omega,i+1,ys,τ7,H7b,rfl,I7b.unpinned.unpinned,t9,f9,hD8.2.1,⟨its,rv,k,hD8.1⟩,q7b⟩
   |true =>
    rw[if_pos rfl]at q7b ⊢;refine AS (he _ _ _ _ _ _ hpb _ s7b τ7 H7b _ I7b q7b) λuy s8 ⟨y,H8,I8,ry,w8⟩=>?_
    have hD8:=I8.pin (s2.heap.objs.size,_) (yak _ (ybd _ (yak _ (Ha (ya7.mpr rfl) hDo))));have P8:s8.heap.PlainList s2.heap.objs.size its.toArray:=⟨k,hD8.1⟩;have hlen:=rv.length;refine wpAny_list_append_plain P8 (λh' pl' sb=>?_) (by rw[yaq,<- hlen];omega)
    have I8u:Inv (Ai X scope cl' N' P2.objs.size s2 H2 fp xb) pins τ7 H8 s8:=I8.unpinned.unpinned;obtain⟨d1,d2,d3,d4,d5,d6⟩:=Dok hD8.2.1;have I9:Inv (Ai X scope cl' N' P2.objs.size s2 H2 fp xb) pins τ7 H8 { s8 with heap:=h' }:=I8u.turned (t':=s8.toks) (λb o hb e=>(sb.2 b hb).trans e) d1 d2 d4 d5 d6
    obtain⟨t9,f9⟩:=Al I8 h' λb o hb e=>(sb.2 b hb).trans e
    exact⟨n - (i+1),by omega,i+1,ys++[y],τ7,H8,rfl,I9,t9,f9,hD8.2.1,⟨its++[uy],rv.append (.cons ry .nil),by simpa using pl'⟩,w8⟩
 refine codeAny_compStart_list (loop _ rfl) (T.self _ 0 _ _ _ (T.keep _ _ _ st2 λb _ o e=>old b o e) (loop _ rfl))
theorem zmh(σ':L2.St->L2.St)(hclos:closureFor scope X.env=pure cl)(hkind:scope.kind=.function)(hnames:∀y∈scope.names,y.2=.local->scope.names.lookup y.1=some .local)
  (hcl:∀y c,cl.lookup y=some c->X.env.cells.lookup y=some c) (hhas:∀y,(relabel scope X.env).names.lookup y=some .cell\/(relabel scope X.env).names.lookup y=some .free->(y,NameKind.cell)∈scope.names\/∃c,cl.lookup y=some c) (hcap:∀(σ:L2.St) (i:Nat) (y:Str) (v:V),N'[i]?=some y->(σ' σ)[i]?=some (some v)->(y,NameKind.cell)∉scope.names)
  (hσ:∀σ:L2.St,σ.length=X.N.length->(σ' σ).length=N'.length)
  (hvis:∀(σ:L2.St) (i:Nat) (y:Str) (v:V),N'[i]?=some y->(σ' σ)[i]?=some (some v)->((relabel scope X.env).names.lookup y=some .cell\/(relabel scope X.env).names.lookup y=some .free)/\∃j:Nat,X.N[j]?=some y/\σ[j]?=some (some v)/\Dc X.env.scope y/\X.env.kindOf y≠some .local)
  {cq:Cx->Prop} (hc:∀pins σ H s cl C ex xb,Inv X pins σ H s->cq (Ai X scope cl N' C s H ex xb)) (hi:PJ cq X tg iter wi) {E:L2.St->XK} (hps:BH X E) (hst:Gw X) {σ:L2.St} (hg:∀cl C s₀ H₀ ex xb,BH (Ai X scope cl N' C s₀ H₀ ex xb) (λ_=>E σ)->PG (Ai X scope cl N' C s₀ H₀ ex xb) tg g) (ht:∀cl C s₀ H₀ ex xb,BH (Ai X scope cl N' C s₀ H₀ ex xb) (λ_=>E σ)->Gv (Ai X scope cl N' C s₀ H₀ ex xb) ifs tt) (he:∀cl C s₀ H₀ ex xb,BH (Ai X scope cl N' C s₀ H₀ ex xb) (λ_=>E σ)->PE (Ai X scope cl N' C s₀ H₀ ex xb) elt te)
  (hs:∀x,foldedSetIterable iter X.env x=pure x) {pins:List (Addr×Obj)} {s:Shared} {H:Hp} {Q:VK} (I:Inv X pins σ H s) (h:LY σ' wi g tt te σ H Q) :
  wpAny (model X.prog X.w) X.A (eval (.ListComp elt [⟨tg,iter,ifs,0⟩] scope pos) X.env) (EP X pins σ Q) X.xe s:=by
 rw[eval_ListComp];refine Wu σ' hclos hkind hnames hcl hhas hcap hσ hvis hc hi hps hst hg ht he hs I h λD C s5 H5 I5 q5 ⟨m,hm⟩ f=>⟨m,hm,λh' sb=>?_⟩
 exact⟨.ref D,H5,HE (t':=s5.toks) (ch:=[C]) I5 (λb o hb e=>(sb.2 b (λz=>hb (by simp[z]))).trans e) (λb hb=>by rw[ya7.mp hb];exact f),rfl,q5⟩
theorem zmi(σ':L2.St->L2.St)(hclos:closureFor scope X.env=pure cl)(hkind:scope.kind=.function)(hnames:∀y∈scope.names,y.2=.local->scope.names.lookup y.1=some .local)
  (hcl:∀y c,cl.lookup y=some c->X.env.cells.lookup y=some c) (hhas:∀y,(relabel scope X.env).names.lookup y=some .cell\/(relabel scope X.env).names.lookup y=some .free->(y,NameKind.cell)∈scope.names\/∃c,cl.lookup y=some c) (hcap:∀(σ:L2.St) (i:Nat) (y:Str) (v:V),N'[i]?=some y->(σ' σ)[i]?=some (some v)->(y,NameKind.cell)∉scope.names)
  (hσ:∀σ:L2.St,σ.length=X.N.length->(σ' σ).length=N'.length)
  (hvis:∀(σ:L2.St) (i:Nat) (y:Str) (v:V),N'[i]?=some y->(σ' σ)[i]?=some (some v)->((relabel scope X.env).names.lookup y=some .cell\/(relabel scope X.env).names.lookup y=some .free)/\∃j:Nat,X.N[j]?=some y/\σ[j]?=some (some v)/\Dc X.env.scope y/\X.env.kindOf y≠some .local)
  (hc:X.calm=true) (hi:PI X tg iter wi) {E:L2.St->XK} (hps:BH X E) (hst:Gw X) {σ:L2.St} (hg:∀cl C s₀ H₀ ex xb,BH (Ai X scope cl N' C s₀ H₀ ex xb) (λ_=>E σ)->PG (Ai X scope cl N' C s₀ H₀ ex xb) tg g) (ht:∀cl C s₀ H₀ ex xb,BH (Ai X scope cl N' C s₀ H₀ ex xb) (λ_=>E σ)->Gv (Ai X scope cl N' C s₀ H₀ ex xb) ifs tt) (he:∀cl C s₀ H₀ ex xb,BH (Ai X scope cl N' C s₀ H₀ ex xb) (λ_=>E σ)->PE (Ai X scope cl N' C s₀ H₀ ex xb) elt te)
  (hs:∀x,foldedSetIterable iter X.env x=pure x) {pins:List (Addr×Obj)} {s:Shared} {H:Hp} {D:Ends} {i:Nat} {x:Str} {pos':Pos} (hN:X.N.Nodup) (hix:X.N[i]?=some x) (hx:X.env.scope.names.lookup x=some .local)
  (hsw:swapsWith (.ListComp elt [⟨tg,iter,ifs,0⟩] scope pos) (some (.Name x pos')) pos2.line X.env=pure true)
  (I:Inv X pins σ H s) (h:LY σ' wi g tt te σ H λv H1=>D.nx (σ.set i (some v)) H1) :
  wpAny (model X.prog X.w) X.A (exec (.Assign [.Name x pos'] (.ListComp elt [⟨tg,iter,ifs,0⟩] scope pos) pos2) X.env) (SP X pins D) X.xe s:=by
 rw[exec_Assign_Name_used _ _ _ _ hsw];refine yeg (wpAny_standAt (yeg ?_));show wpAny _ X.A (do let _ <- comprehension (.ListComp elt [⟨tg,iter,ifs,0⟩] scope pos) scope X.env _ (newList []) false (eval iter X.env) (some (assign (.Name x pos') X.env))) _ _ s
 refine yeg (yed (Wu (QQ:=λ_ s'=>SP X pins D .next s') σ' hclos hkind hnames hcl hhas hcap hσ hvis (cq:=λX=>X.calm=true) (λ_ _ _ _ _ _ _ _ _=>hc) (Uu hi) hps hst hg ht he hs I h λA C s5 H5 I5 q5 ⟨m,hm⟩ f=>?_) (λ_ s' hq=>yej (yej hq)) λ_ _ e=>e)
 show wpAny _ X.A (assign (.Name x pos') X.env (.ref A)) _ _ _;refine wpAny_assign_Name (Te I5 hN hix (.inl hx) (v:=.ref A) rfl (λs6 I6 ⟨a,sb,ha⟩=>?_) (.inr hx))
 have hCa:C≠a:=by
  rcases ha with rfl|ha
  .exact f.2.1
  .exact λz=>f.2.2.2.2.1 x a ha z.symm
 refine⟨m,hm.sameBut sb hCa,λh' sb2=>⟨_,H5,HE (t':=s6.toks) (ch:=[C]) I6 (λb o hb e=>(sb2.2 b (λz=>hb (by simp[z]))).trans e) (λb hb=>by rw[ya7.mp hb];exact f),q5⟩⟩
end
structure RpO(K:kA)(F H:Hp)(l:List T)(xs:List V)(R:Nat->Rg):Prop where
 len:l.length=xs.length
 rep:∀(i:Nat) (t:T) (x:V),l[i]?=some t->xs[i]?=some x->Rp K F H t x (R i)
 dis:∀i j a,i≠j->R i a->¬ R j a
 out:∀i a,R i a->i<l.length
section
variable {K:kA}{F H F1 H1:Hp}{l:List T}{xs:List V}{R:Nat->Rg}{B:Rg}
theorem RpO.nil:RpO K F H [] [] (λ_=>R0):=⟨rfl,λi t x h=>by simp at h,λ_ _ _ _ z=>z.elim,λ_ _ z=>z.elim⟩
theorem RpO.dom(h:RpO K F H l xs R){i:Nat}{a:Addr}(z:R i a):F a=none/\∃u,H a=some u:=by
 have hi:=h.out i a z;have hx:i<xs.length:=by have:=h.len;omega
 exact(h.rep i _ _ (ya5 hi) (ya5 hx)).dom z
theorem RpO.ext(h:RpO K F H l xs R)(e:Ext F H F1 H1 B):RpO K F1 H1 l xs R:=⟨h.len,λi t x h1 h2=>(h.rep i t x h1 h2).ext e,h.dis,h.out⟩
theorem RpO.apart(h:RpO K F H l xs R)(e:Ext F H F1 H1 B){b:Addr}(hb:B b)(i:Nat):¬ R i b:=λz=>by
 obtain⟨f,u,q⟩:=h.dom z;rw[e.nb b hb]at q;cases q
theorem RpO.snoc(h:RpO K F H l xs R){t:T}{x:V}(r:Rp K F H t x B)(d:∀i a,R i a->¬ B a):RpO K F H (l++[t]) (xs++[x]) (λj=>if j=l.length then B else R j):=by
 have hl:=h.len;refine⟨by simp[hl],λi t' x' h1 h2=>?_,λi j a hij z1 z2=>?_,λi a z=>?_⟩
 .by_cases hi:i=l.length
  .subst hi;rw[if_pos rfl];have e1:t=t':=by simpa using h1
   have e2:x=x':=by rw[hl]at h2;simpa using h2
   subst e1;subst e2;exact r
  .rw[if_neg hi]
   have hlt:i<l.length:=by
    have:=(yac.mp h1).1;simp at this
    omega
   rw[yay hlt]at h1;rw[yay (by omega)]at h2
   exact h.rep i t' x' h1 h2
 .by_cases hi:i=l.length
  .simp only[hi,yeo]at z1;have hj:¬ j=l.length:=λz=>hij (hi.trans z.symm)
   simp only[hj,yep]at z2;exact d j a z2 z1
  .simp only[hi,yep]at z1
   by_cases hj:j=l.length
   .simp only[hj,yeo]at z2;exact d i a z1 z2
   .simp only[hj,yep]at z2;exact h.dis i j a hij z1 z2
 .by_cases hi:i=l.length
  .simp[hi]
  .simp only[hi,yep]at z;have:=h.out i a z;simp
   omega
theorem RpO.cons(h:RpO K F H l xs R){t:T}{x:V}(r:Rp K F H t x B)(d:∀i a,R i a->¬ B a):RpO K F H (t::l) (x::xs) (λj=>match j with|0=>B|j+1=>R j):=by
 refine⟨by simp[h.len],λi t' x' h1 h2=>?_,λi j a hij z1 z2=>?_,λi a z=>?_⟩
 .cases i with
  |zero =>
   simp at h1 h2;subst h1;subst h2;exact r
  |succ i=>exact h.rep i t' x' (by simpa using h1) (by simpa using h2)
 .cases i with
  |zero =>
   cases j with
   |zero=>exact hij rfl
   |succ j=>exact d j a z2 z1
  |succ i =>
   cases j with
   |zero=>exact d i a z1 z2
   |succ j=>exact h.dis i j a (λz=>hij (by rw[z])) z1 z2
 .cases i with
  |zero=>simp
  |succ i=>have:=h.out i a z;simp;omega
theorem RpO.list(h:RpO K F H l xs R)(s:AZ F H){p:Addr}(hp:H p=none):Rp K F (upd H p (.lst xs)) (.own l) (.ref p) (λa=>a=p\/∃i,R i a)/\Ext F H F (upd H p (.lst xs)) (λa=>a=p):=by
 have e:=Ext.newO (o:=.lst xs) s hp;have h':=h.ext e;exact⟨.own (k:=.lst) trivial R (G3 s hp) Bq h.len h'.rep h.dis (λi z=>h.apart e rfl i z) h.out,e⟩
end
def AM(ma mk:AB->Option Rs):AB->Option Rs:=λτ=>match ma τ with
 |some (.v t b)=>(match mk τ with
  |some (.v (.int i) _)=>(match t with
   |.nd _ _ l=>(match Af l i with
    |some c=>some (.v c (b && !c.sh))
    |none=>none)
   |.str z=>if z.length<=AY then (match Af z.cps.toList i with
    |some c=>some (.v (.str ⟨#[c]⟩) false)
    |none=>none) else none
   |_=>none)
  |some (.v _ _)=>none
  |r=>r)
 |r=>r
theorem zjw{α β:Type}{l:List α}{m:List β}{i:Int}{c:α}(e:l.length=m.length)(h:Af l i=some c):∃(j:Nat) (d:β),l[j]?=some c/\m[j]?=some d/\Af m i=some d:=by
 unfold Af at h ⊢;rw[<- e];cases q:Gd l.length i with
 |none=>rw[q]at h;cases h
 |some j =>
  rw[q]at h;have h':l[j]?=some c:=h
  have hj:j<m.length:=by
   have:=(yac.mp h').1
   omega
  exact⟨j,m[j],h',ya5 hj,ya5 hj⟩
section
variable {K:kA}{F H:Hp}
theorem Rp.seq{o:Bool}{k:Kd}{l:List T}{x:V}{A:Rg}(s:AZ F H)(h:Rp K F H (.nd o k l) x A):∃p xs,x=.ref p/\(Ac K H p xs\/BY K H p xs)/\l.length=xs.length/\∀(i:Nat) (t:T) (x:V),l[i]?=some t->xs[i]?=some x->∃B,(∀a,B a->A a)/\Rp K F H t x B:=by
 cases h with
 |@shr k p xs l h e c =>
  refine⟨p,xs,rfl,?_,e,λi t x h1 h2=>⟨R0,λ_ z=>z.elim,c i t x h1 h2⟩⟩
  cases k with
  |lst=>exact .inl (Ac.of (s _ _ h))
  |rl=>exact .inl (s.seq h)
  |tup=>exact .inr (BY.of (s _ _ h))
  |rt=>exact .inr (GJ s h)
  |pin q=>exact .inl (Ac.of (s _ _ h))
 |@own k0 p xs l hk R f h e c d dp o=>exact⟨p,xs,rfl,.inl (Ac.of h),e,λi t x h1 h2=>⟨R i,λa z=>.inr ⟨i,z⟩,c i t x h1 h2⟩⟩
end
section
variable {X:Cx}{E:L2.St->XK}{ca:Str->Value}{σ:L2.St}{H:Hp}{m ma mb mc:AB->Option Rs}{ms:AB->Option RsL}{K:kA}{a b c e:Expr}{es:List Expr}{pos:Pos}
theorem tM_ix{Q:VK}(h:tM K E ca (AM ma mb) σ H Q):IT (Ug K) (tM K E ca ma) (tM K E ca mb) σ H Q:=by
 obtain⟨F,τ,R,S,q⟩:=h;refine⟨F,τ,R,S,?_⟩;unfold AM at q;cases hm:ma τ with
 |none=>simp only[hm]at q
 |some r =>
  simp only[hm]at q;cases r with
  |x c=>exact q
  |v t bb =>
   intro F1 H1 x B e1 g1;have S1:=S.ext e1;refine⟨F1,τ,R,S1,?_⟩;cases hk:mb τ with
   |none=>simp only[hk]at q
   |some r =>
    simp only[hk]at q;cases r with
    |x c=>exact λF' H' e=>q F' H' ((e1.trans e).mono λ_ z=>z.elim)
    |v tk bk =>
     cases tk with
     |int i =>
      intro F2 H2 y C e2 g2
      have hy:y=.int i:=by
       cases bk with
       |true=>obtain⟨_,A,_,r⟩:=g2;exact r.int_inv
       |false=>exact(show Rp K F2 H2 _ _ _ from g2).int_inv
      subst hy;have e02:Ext F H F2 H2 B:=(e1.trans e2).mono λ_ z=>.inl z
      have S2:=S1.ext e2;cases t with
      |nd o k l =>
       simp only at q;cases hc:Af l i with
       |none=>simp only[hc]at q
       |some cc =>
        simp only[hc]at q
        have node:∃A0,(bb=true->∀a,A0 a->tot R a)/\(bb=false->∀a,A0 a->B a)/\Rp K F2 H2 (.nd o k l) x A0:=by
         cases bb with
         |true =>
          obtain⟨_,A,hA,r⟩:=g1;exact⟨A,λ_=>hA,(λz=>by cases z),r.ext e2⟩
         |false=>exact⟨B,(λz=>by cases z),λ_ _ z=>z,(show Rp K F1 H1 _ _ _ from g1).ext e2⟩
        obtain⟨A0,hA1,hA2,rn⟩:=node;obtain⟨p,xs,rfl,hq,hl,kids⟩:=Rp.seq S2.fh rn;obtain⟨j,d,h1,h2,h3⟩:=zjw hl hc;obtain⟨A1,hA,rk⟩:=kids j cc d h1 h2
        have qq:Q d H2:=by
         cases bb with
         |false=>exact q F2 H2 d A1 (e02.mono λa z=>hA2 rfl a (hA a z)) rk
         |true =>
          cases hs:cc.sh with
          |true =>
           rw[hs]at q;exact q F2 H2 d R0 (e02.mono λ_ z=>z.elim) (rk.move hs (.refl _))
          |false =>
           rw[hs]at q;exact q F2 H2 d R0 (e02.mono λ_ z=>z.elim) ⟨rfl,A1,λa z=>hA1 rfl a (hA a z),rk⟩
        rcases hq with hq|hq
        .exact .inl ⟨p,xs,i,d,rfl,rfl,hq,h3,qq⟩
        .exact .inr (.inl ⟨p,xs,i,d,rfl,rfl,hq,h3,qq⟩)
      |str z =>
       by_cases hz:z.length<=AY
       .simp only[hz,yeo]at q;cases hc:Af z.cps.toList i with
        |none=>simp only[hc]at q
        |some cc =>
         simp only[hc]at q
         have hx:x=.str z:=by
          cases bb with
          |true=>obtain⟨_,A,_,r⟩:=g1;exact r.str_inv
          |false=>exact(show Rp K F1 H1 _ _ _ from g1).str_inv
         subst hx;exact .inr (.inr ⟨z,i,cc,rfl,rfl,by rw[<- Dq];exact hz,hc,q F2 H2 _ R0 (e02.mono λ_ z=>z.elim) (.str _)⟩)
       .simp only[hz,yep]at q
      |_=>exact q.elim
     |_=>exact q.elim
theorem U0(ha:PE X a (tM X.K E ca ma))(hb:PE X b (tM X.K E ca mb))(hs:Sd b):PE X (.Subscript a b pos) (tM X.K E ca (AM ma mb)):=PE.weak (pe_ix zmr ha hb hs) λσ H Q h=>tM_ix h
def BL{α:Type}(l:List α)(lo hi:Option Int):List α:=(l.drop (HT.sIx l.length 0 lo)).take (HT.sIx l.length l.length hi - HT.sIx l.length 0 lo)
noncomputable def EK(m:Option (AB->Option Rs)):AB->Option (Option Int):=λτ=>match m with
 |none=>some none
 |some m=>match m τ with
  |some (.v (.int i) _)=>some (some i)
  |_=>none
def Ay(ma:AB->Option Rs)(ml mh:Option (AB->Option Rs)):AB->Option Rs:=λτ=>match ma τ with
 |some (.v t false)=>(match EK ml τ with
  |some lo=>(match EK mh τ with
   |some hi=>(match t with
    |.nd _ .lst l=>some (.v (.own (BL (Aw l) lo hi)) false)
    |.nd _ .rl l=>some (.v (.own (BL (Aw l) lo hi)) false)
    |_=>none)
   |none=>none)
  |none=>none)
 |some (.v _ true)=>none
 |r=>r
def HF(K:kA)(m:Option (AB->Option Rs)):TO:=λσ H Q=>∃F τ R o,StR K F H σ τ R/\EK m τ=some o/\∀F' H',Ext F H F' H' R0->Q o H'
theorem r_po0:PO X none (HF X.K none):=λpins s σ H Q I h=>by
 obtain⟨F,τ,R,o,S,e,q⟩:=h;cases e;exact zif pins s σ H Q I (q F H (Ext.refl S.fh))
theorem r_po1(ha:PE X e (tM X.K E ca m)):PO X (some e) (HF X.K (some m)):=λpins s σ H Q I h=>by
 obtain⟨F,τ,R,o,S,e',q⟩:=h;refine zie ha pins s σ H Q I ⟨F,τ,R,S,?_⟩;unfold EK at e';simp only at e';cases hm:m τ with
 |none=>rw[hm]at e';cases e'
 |some r =>
  rw[hm]at e';cases r with
  |x c=>cases e'
  |v v b =>
   cases v with
   |int i =>
    cases e';intro F' H' x B e g
    have hx:x=.int i:=by
     cases b with
     |true=>obtain⟨_,A,_,r⟩:=g;exact r.int_inv
     |false=>exact(show Rp X.K F' H' _ _ _ from g).int_inv
    exact⟨i,hx,q F' H' (e.mono λ_ z=>z.elim)⟩
   |_=>cases e'
theorem zgx{F:Hp}{l:List T}{xs:List V}(r:Ag K F l xs)(lo hi:Option Int):Ag K F (BL l lo hi) (JW xs lo hi):=by
 have hl:=r.1;unfold BL JW;rw[hl];refine⟨by simp[hl],λi t x h1 h2=>?_⟩
 rw[List.getElem?_take]at h1 h2;split at h1
 .rename_i hi';rw[if_pos hi',List.getElem?_drop]at h2;rw[List.getElem?_drop]at h1;exact r.2 _ t x h1 h2
 .cases h1
theorem UU{lo hi:Option Expr}{ml mh:Option (AB->Option Rs)}{p2:Pos}(ha:PE X a (tM X.K E ca ma))(hl:PO X lo (HF X.K ml))(hh:PO X hi (HF X.K mh)):PE X (.Subscript a (.Slice lo hi none p2) pos) (tM X.K E ca (Ay ma ml mh)):=by
 refine PE.weak (Ux zhm ha hl hh) λσ H Q h=>?_
 obtain⟨F,τ,R,S,q⟩:=h;refine⟨F,τ,R,S,?_⟩;unfold Ay at q;cases hm:ma τ with
 |none=>simp only[hm]at q
 |some r =>
  simp only[hm]at q;cases r with
  |x c=>exact q
  |v t bb =>
   cases bb with
   |true=>exact q.elim
   |false =>
    intro F1 H1 x B e1 g1;obtain⟨F1',e1',_,r1⟩:=DL.frz (b:=false) S e1 g1;have S1:=S.ext e1';simp only at q;cases h1:EK ml τ with
    |none=>simp only[h1]at q
    |some lo' =>
     simp only[h1]at q;refine⟨F1',τ,R,lo',S1,h1,λF2 H2 e2=>?_⟩
     have S2:=S1.ext e2;cases h2:EK mh τ with
     |none=>simp only[h2]at q
     |some hi' =>
      simp only[h2]at q;refine⟨F2,τ,R,hi',S2,h2,λF3 H3 e3=>?_⟩
      have S3:=S2.ext e3;have e03:=e1'.trans0 (e2.trans0 e3);have r3:Rp X.K F3 F3 t.share x R0:=(show Rp X.K F1' F1' t.share x R0 from r1).frame (e2.ff.trans e3.ff) λ_ z=>z.elim
      have key:∀{o:Bool} {k:Kd} {l:List T},t=.nd o k l->(k=.lst\/k=.rl)->(∀F' H' x B,Ext F H F' H' B->Rp X.K F' H' (.own (BL (Aw l) lo' hi')) x B->Q x H')->Ua X.K x lo' hi' H3 Q:=by
       intro o k l et hk qq;subst et;rw[T.share]at r3;obtain⟨p,xs,rfl,_,n3,k3⟩:=Dl r3
       have sq:Ac X.K H3 p xs:=by
        rcases hk with rfl|rfl
        .exact Ac.of (S3.fh _ _ n3)
        .exact S3.fh.seq n3
       refine⟨p,xs,rfl,sq,λp' hp'=>?_⟩
       have gg:Cp X.K F3 H3 (.own (BL (Aw l) lo' hi')) Q:=λF' H' z C e g=>qq F' H' z C (e03.trans0 e) g
       exact gg.list S3.fh (zgx k3 lo' hi') hp'
      cases t with
      |nd o k l =>
       cases k with
       |lst=>exact key rfl (.inl rfl) q
       |rl=>exact key rfl (.inr rfl) q
       |tup=>exact q.elim
       |rt=>exact q.elim
       |pin _=>exact q.elim
      |_=>exact q.elim
def IU(K:kA)(E:L2.St->XK)(ca:Str->Value)(m:AB->Option RsL):TA:=λσ H Q=>∃F τ R,StR K F H σ τ R/\match m τ with
 |some (.v ts _)=>∀F' H' xs (Rr:Nat->Rg),Ext F H F' H' (tot Rr)->RpO K F' H' ts xs Rr->Q xs H'
 |some (.x c)=>∀F' H',Ext F H F' H' R0->E σ (ca c) none H'
 |none=>False
noncomputable def AF(m:AB->Option Rs)(ms:AB->Option RsL):AB->Option RsL:=λτ=>match m τ with
 |some (.v t false)=>(match ms τ with
  |some (.v ts _)=>some (.v (t::ts) false)
  |r=>r)
 |some (.v _ true)=>none
 |some (.x c)=>some (.x c)
 |none=>none
theorem UW:PA X [] (IU X.K E ca AE):=PA.weak DU λσ H Q h=>by
 obtain⟨F,τ,R,S,q⟩:=h;exact q F H [] (λ_=>R0) ((Ext.refl S.fh).mono λa ⟨i,z⟩=>z.elim) .nil
theorem U6(ha:PE X e (tM X.K E ca m))(hr:PA X es (IU X.K E ca ms))(hs:starEach (e::es) X.env=(false,eval e X.env)::starEach es X.env):PA X (e::es) (IU X.K E ca (AF m ms)):=by
 refine PA.weak (Cj ha hr hs) λσ H Q h=>?_
 obtain⟨F,τ,R,S,q⟩:=h;refine⟨F,τ,R,S,?_⟩;unfold AF at q;cases hm:m τ with
 |none=>simp only[hm]at q
 |some r =>
  simp only[hm]at q;cases r with
  |x c=>exact q
  |v t bb =>
   cases bb with
   |true=>exact q.elim
   |false =>
    intro F1 H1 x B e1 g1;have S1:=S.ext e1;refine⟨F1,τ,R,S1,?_⟩;simp only at q;cases hs:ms τ with
    |none=>simp only[hs]at q
    |some r =>
     simp only[hs]at q;cases r with
     |x c=>exact λF' H' e=>q F' H' ((e1.trans e).mono λ_ z=>z.elim)
     |v ts b' =>
      intro F2 H2 xs Rr e2 ro;have g1':Rp X.K F1 H1 t x B:=g1;refine q F2 H2 (x::xs) _ ((e1.trans e2).mono ?_) (ro.cons (g1'.ext e2) λi a z=>?_)
      .rintro a ⟨j,z⟩;cases j with
       |zero=>exact .inl z
       |succ j=>exact .inr ⟨j,z⟩
      .exact g1'.apart e2 ⟨i,z⟩
def AK(ms:AB->Option RsL):AB->Option Rs:=λτ=>match ms τ with
 |some (.v ts _)=>if ts.length<=AY then some (.v (.own ts) false) else none
 |some (.x c)=>some (.x c)
 |none=>none
theorem UY(h:PA X es (IU X.K E ca ms)):PE X (.List es pos) (tM X.K E ca (AK ms)):=by
 refine PE.weak (zll h) λσ H Q h=>?_
 obtain⟨F,τ,R,S,q⟩:=h;refine⟨F,τ,R,S,?_⟩;unfold AK at q;cases hm:ms τ with
 |none=>simp only[hm]at q
 |some r =>
  simp only[hm]at q;cases r with
  |x c=>exact q
  |v ts b =>
   intro F1 H1 xs Rr e1 ro
   by_cases hz:ts.length<=AY
   .simp only[hz,yeo]at q;refine⟨by rw[<- ro.len,<- Dq];exact hz,λp hp=>?_⟩
    obtain⟨r,e2⟩:=ro.list e1.fh hp;refine q F1 _ _ _ ((e1.trans e2).mono ?_) r;rintro a (z|⟨i,z⟩)
    .exact .inr z
    .exact .inl ⟨i,z⟩
   .simp only[hz,yep]at q
def AO(ms:AB->Option RsL):AB->Option Rs:=λτ=>match ms τ with
 |some (.v ts false)=>if ts.length<=AY then some (.v (.tup ts) false) else none
 |some (.v _ true)=>none
 |some (.x c)=>some (.x c)
 |none=>none
theorem r_tup{k:Nat}(h:PA X es (CD X.K E ca ms)):PE X (.Tuple es k pos) (tM X.K E ca (AO ms)):=by
 refine PE.weak (zlh h) λσ H Q h=>?_
 obtain⟨F,τ,R,S,q⟩:=h;refine⟨F,τ,R,S,?_⟩;unfold AO at q;cases hm:ms τ with
 |none=>simp only[hm]at q
 |some r =>
  simp only[hm]at q;cases r with
  |x c=>exact q
  |v ts b =>
   cases b with
   |true=>exact q.elim
   |false =>
    intro F1 H1 xs e1 rs
    by_cases hz:ts.length<=AY
    .simp only[hz,yeo]at q;refine⟨by rw[<- rs.1,<- Dq];exact hz,λp hp=>?_⟩
     have gg:Cp X.K F1 H1 (.tup ts) Q:=λF' H' z C e g=>q F' H' z C (e1.trans0 e) g
     exact gg.tuple e1.fh rs hp
    .simp only[hz,yep]at q
theorem Ii{id:String}{x:Str}{p:Pos}{g:List T->Option T}(hc:B0 X (.builtin id) (Cw X.K g))(hg:Gl X x)(hm:X.mg x=none)(hv:bootBuiltins x=some (.builtin id))(ha:PA X (e::es) (CD X.K E ca ms))(hn:x≠"__name__")(hdb:(x == ("__debug__":Str))=false)
  (he:starEach (e::es) X.env=(false,eval e X.env)::starEach es X.env) (hpl:(backTo pos (starEach es X.env)).any (·.1)=false):PE X (.Call (.Name x p) (e::es) [] pos) (tM X.K E ca (BB g ms)) :=
 PE.weak (KA hc hg hm hv ha hn hdb he hpl) λσ H Q h=>GH h
theorem MF{T':String}{x:Str}{p:Pos}{g:List T->Option T}(hc:B0 X (.type T') (Cw X.K g))(hg:Gl X x)(hm:X.mg x=none)(hv:bootBuiltins x=some (.type T'))(ha:PA X (e::es) (CD X.K E ca ms))(hn:x≠"__name__")(hdb:(x == ("__debug__":Str))=false)
  (he:starEach (e::es) X.env=(false,eval e X.env)::starEach es X.env) (hpl:(backTo pos (starEach es X.env)).any (·.1)=false):PE X (.Call (.Name x p) (e::es) [] pos) (tM X.K E ca (BB g ms)) :=
 PE.weak (VA hc hg hm hv ha hn hdb he hpl) λσ H Q h=>GH h
end
def BP:T->Option T
 |.nd _ _ l=>some (.int l.length)
 |.str z=>if z.length<=AY then some (.int z.length) else none
 |_=>none
def Ga:T->Option T
 |.nd _ _ l=>some (.own l)
 |_=>none
def J2:T->Option T
 |.int i=>some (.int (if i<0 then -i else i))
 |_=>none
def MV:T->T->Option T
 |.int i,.int j=>some (.int (if j<i then j else i))
 |_,_=>none
noncomputable def JH:T->Option T
 |.int i=>some (.int i)
 |.bl k=>some (.int (if k then 1 else 0))
 |.str x=>if x.length<=640 then (intText? x).map T.int else none
 |_=>none
def CN:T->Option T
 |.int i=>if i.natAbs.log2<1920 then some (.str (toString i)) else none
 |_=>none
noncomputable def Fw:List T->Option (List Bool)
 |[]=>some []
 |.bl b::r=>(match Fw r with
  |some l=>some (b::l)
  |none=>none)
 |_::_=>none
def Eh:T->Option T
 |.nd _ .lst l=>(match Fw l with
  |some bs=>some (.bl (bs.all id))
  |none=>none)
 |_=>none
def NS:T->Option T
 |.nd _ .lst l=>(match Fw l with
  |some bs=>some (.bl (bs.any id))
  |none=>none)
 |_=>none
noncomputable def Nr:T->Option String
 |.non=>some "NoneType"
 |.bl _=>some "bool"
 |.int _=>some "int"
 |.str _=>some "str"
 |.nd _ .lst _=>some "list"
 |.nd _ .tup _=>some "tuple"
 |.dic _ _=>some "dict"
 |.pdc _ _=>some "dict"
 |_=>none
def Je:List String:=["int","bool","str","list","tuple"]
def L6(a c:String):Bool:=a == c || (a == "bool" && c == "int")
def CK(c:String)(t:T):Option T:=match Nr t with
 |some a=>if c∈Je then some (.bl (L6 a c)) else none
 |none=>none
theorem zcf:PySem.W.kitMeta "str"=true:=by decide +kernel
theorem zbs:PySem.W.kitMeta "list"=true:=by decide +kernel
theorem Wz(K:kA){a c:String}(ha:a∈["NoneType","bool","int","str","list","tuple","dict"])(hc:c∈Je):PySem.W.kitOne K (.type a) (.type c)=some (L6 a c):=by
 have km:PySem.W.kitMeta c=true:=by
  simp only[Je,yad,yb3,yf6]at hc
  rcases hc with rfl|rfl|rfl|rfl|rfl
  .exact zcg
  .exact zbt
  .exact zcf
  .exact zbs
  .exact zb9
 by_cases h:a=c
 .subst h;rw[zgm];simp[L6]
 .refine zmk K (l:=[]) h km ?_;simp only[Je,yad,yb3,yf6]at hc ha
  rcases ha with rfl|rfl|rfl|rfl|rfl|rfl|rfl<;>rcases hc with rfl|rfl|rfl|rfl|rfl<;>first|exact absurd rfl h|decide +kernel
section
variable {X:Cx}
theorem ZC:B0 X (.builtin "len") (Cw X.K (g1 BP)):=by
 intro pins s σ H xs us Q I r h;obtain⟨F,ts,v,fh,rs,e,q⟩:=h;unfold g1 at e;split at e
 .obtain⟨x1,xs1,rfl,r1,rs1⟩:=rs.inv;cases rs1.inv0;unfold BP at e;split at e
  .cases e;obtain⟨p,ys,rfl,hq,hl,_⟩:=Rp.seq (H:=H) fh (r1.any);refine Yy pins s σ H _ us Q I r ⟨_,ys.length,rfl,?_,by rw[<- hl];exact q.int fh⟩
   rcases hq with hq|hq
   .exact .inl ⟨ys,hq,rfl⟩
   .exact .inr ⟨ys,hq,rfl⟩
  .split at e
   .cases e;rename_i hz;rw[r1.str_inv]at r;exact Yy pins s σ H _ us Q I r ⟨_,_,rfl,⟨by rw[<- Dq];exact hz,rfl⟩,q.int fh⟩
   .cases e
  .cases e
 .cases e
theorem ze1{K:kA}{F H:Hp}{k:Kd}{p:Addr}{xs:List V}(s:AZ F H)(h:FU K F k p xs):Ac K H p xs\/BY K H p xs:=by
 cases k with
 |lst=>exact .inl (Ac.of (s _ _ h))
 |rl=>exact .inl (s.seq h)
 |tup=>exact .inr (BY.of (s _ _ h))
 |rt=>exact .inr (GJ s h)
 |pin q=>exact .inl (Ac.of (s _ _ h))
theorem zdg:B0 X (.type "list") (Cw X.K (g1 Ga)):=by
 intro pins s σ H xs us Q I r h;obtain⟨F,ts,v,fh,rs,e,q⟩:=h;unfold g1 at e;split at e
 .obtain⟨x1,xs1,rfl,r1,rs1⟩:=rs.inv;cases rs1.inv0;unfold Ga at e;split at e
  .cases e;obtain⟨p,ys,rfl,rfl,n1,k1⟩:=Dl r1;have hq:Ac X.K H p ys\/BY X.K H p ys:=ze1 fh n1;exact zc4 pins s σ H _ us Q I r ⟨p,ys,rfl,hq,λl hl=>q.list fh k1 hl⟩
  .cases e
 .cases e
theorem zeu:B0 X (.builtin "abs") (Cw X.K (g1 J2)):=by
 intro pins s σ H xs us Q I r h;obtain⟨F,ts,v,fh,rs,e,q⟩:=h;unfold g1 at e;split at e
 .obtain⟨x1,xs1,rfl,r1,rs1⟩:=rs.inv;cases rs1.inv0;unfold J2 at e;split at e
  .cases e;rw[r1.int_inv]at r;exact zh8 pins s σ H _ us Q I r ⟨_,rfl,q.int fh⟩
  .cases e
 .cases e
theorem zer:B0 X (.type "int") (Cw X.K (g1 JH)):=by
 intro pins s σ H xs us Q I r h;obtain⟨F,ts,v,fh,rs,e,q⟩:=h;unfold g1 at e;split at e
 .obtain⟨x1,xs1,rfl,r1,rs1⟩:=rs.inv;cases rs1.inv0;unfold JH at e;split at e
  .cases e;rw[r1.int_inv]at r;exact Yz pins s σ H _ us Q I r (.inl ⟨_,rfl,q.int fh⟩)
  .cases e;rw[r1.bl_inv]at r;exact Yz pins s σ H _ us Q I r (.inr ⟨_,rfl,q.int fh⟩)
  .split at e
   .obtain⟨n,hn,rfl⟩:=ya4.mp e;rw[r1.str_inv]at r;obtain⟨u,rfl,ru⟩:=r.one;obtain⟨t,rfl⟩:=ru;exact PySem.W.KIN.call_text hn ‹_› ⟨.int n,H,I.tok _,⟨_,rfl⟩,q.int fh⟩
   .cases e
  .cases e
 .cases e
theorem zeo:B0 X (.type "str") (Cw X.K (g1 CN)):=by
 intro pins s σ H xs us Q I r h;obtain⟨F,ts,v,fh,rs,e,q⟩:=h;unfold g1 at e;split at e
 .obtain⟨x1,xs1,rfl,r1,rs1⟩:=rs.inv;cases rs1.inv0;unfold CN at e;split at e
  .split at e
   .cases e;rename_i hz;rw[r1.int_inv]at r;exact zc3 pins s σ H _ us Q I r ⟨_,rfl,hz,q.str fh⟩
   .cases e
  .cases e
 .cases e
theorem zem{f:String}{g:T->T->Option T}{gi:Int->Int->Int}(hc:B0 X (.builtin f) (λxs H Q=>∃i j,xs=[.int i,.int j]/\Q (.int (gi i j)) H))(hg:∀t u v,g t u=some v->∃i j,t=.int i/\u=.int j/\v=.int (gi i j)):B0 X (.builtin f) (Cw X.K (g2 g)):=by
 intro pins s σ H xs us Q I r h;obtain⟨F,ts,v,fh,rs,e,q⟩:=h;unfold g2 at e;split at e
 .obtain⟨x1,xs1,rfl,r1,rs1⟩:=rs.inv;obtain⟨x2,xs2,rfl,r2,rs2⟩:=rs1.inv;cases rs2.inv0;obtain⟨i,j,rfl,rfl,rfl⟩:=hg _ _ _ e;rw[r1.int_inv,r2.int_inv]at r;exact hc pins s σ H _ us Q I r ⟨_,_,rfl,q.int fh⟩
 .cases e
theorem zep(hc:X.calm=true):B0 X (.builtin "min") (Cw X.K (g2 MV)):=zem (zek hc) λt u v h=>by
 unfold MV at h;split at h
 .cases h;exact⟨_,_,rfl,rfl,rfl⟩
 .cases h
theorem ZF:∀{l:List T} {bs:List Bool},Fw l=some bs->l.length=bs.length/\∀(i:Nat) (t:T),l[i]?=some t->∃b,bs[i]?=some b/\t=.bl b
 |[],bs,h=>by cases h;exact⟨rfl,λi t e=>by simp at e⟩
 |t::r,bs,h=>by
  unfold Fw at h;cases t with
  |bl b =>
   simp only at h;cases hr:Fw r with
   |none=>simp only[hr]at h;cases h
   |some l =>
    simp only[hr]at h;cases h;obtain⟨h1,h2⟩:=ZF hr;refine⟨by simp[h1],λi t e=>?_⟩
    cases i with
    |zero=>simp at e;exact⟨b,rfl,e.symm⟩
    |succ i=>exact h2 i t (by simpa using e)
  |_=>cases h
theorem UP{bs:List Bool}{tr:Nat->Bool}(h:∀(i:Nat) (b:Bool),bs[i]?=some b->tr i=b):(List.range bs.length).all tr=bs.all id/\(List.range bs.length).any tr=bs.any id:=by
 have e:(List.range bs.length).map tr=bs:=by
  apply List.ext_getElem?;intro i;rw[yaj]
  by_cases hi:i<bs.length
  .rw[yd2 hi,ya5 hi];simp only[yav];rw[h i _ (ya5 hi)]
  .rw[ybu (by simp;omega),ybu (by omega)]
   rfl
 constructor
 .have:(List.range bs.length).all tr=((List.range bs.length).map tr).all id:=by rw[yby];rfl
  rw[this,e]
 .have:(List.range bs.length).any tr=((List.range bs.length).map tr).any id:=by rw[List.any_map];rfl
  rw[this,e]
theorem Ss(hc:X.calm=true){pins:List (Addr×Obj)}{s:Shared}{σ:L2.St}{H:Hp}{F:Hp}{l:List T}{bs:List Bool}{p:Addr}{E':Value->Shared->Prop}{P:Value->Shared->Prop}{o:Bool}(I:Inv X pins σ H s)(fh:AZ F H)(r1:Rp X.K F F (.nd o .lst l) (.ref p) R0)(hb:Fw l=some bs)
  (hP : ∀ (I0 : Addr) (wr fp : List Addr) (St : Nat -> Heap -> Prop) (PP : Nat -> Value -> Prop) (tr : Nat -> Bool) (s2 : Shared), Walks X.prog X.w X.A.in1 I0 fp wr bs.length PP St -> St 0 s2.heap -> TruthOf X.prog X.w X.A.in1 PP tr -> (∀ (i : Nat) (b : Bool), bs[i]? = some b -> tr i = b) ->
   (∀h' tk,(∀b o,b∉wr->s2.heap.get? b=some o->h'.get? b=some o)->Inv X pins σ H { s2 with heap:=h',toks:=tk })->P (.ref I0) s2):wpAny (model X.prog X.w) X.A.in1 (pyIter (.ref p)) P E' s:=by
 obtain⟨p',ys,e',rfl,n1,k1⟩:=Dl r1;cases e';obtain⟨hlen,hget⟩:=ZF hb;obtain⟨its,rv,pl,hz⟩:=I.list (Ac.of (fh _ _ n1):Ac X.K H p ys);have hl:=rv.length
 have hne:p≠s.heap.objs.size:=yau (by
  obtain⟨o,n,e,_⟩:=pl;exact yah e)
 have hh:X.A.in1.handled=none:=I.ok.hd hc
 have val:∀(i:Nat) (v:Value),its[i]?=some v->∃b,bs[i]?=some b/\v=.bool b:=λi v hv=>by
  have hi:i<ys.length:=by
   have:=(yac.mp hv).1
   omega
  have hi2:i<l.length:=by rw[k1.1];exact hi
  obtain⟨b,h1,h2⟩:=hget i _ (ya5 hi2);have rr:=k1.2 i _ _ (ya5 hi2) (ya5 hi);rw[h2]at rr;obtain⟨u,e1,ru⟩:=rv.get (ya5 hi);rw[hv]at e1;cases e1;rw[rr.bl_inv]at ru;exact⟨b,h1,ru⟩
 have hbl:its.toArray.size=bs.length:=by rw[yaq,<- hl,<- k1.1,hlen]
 refine yek pl.isList ?_;have W:=Walks.list (prog:=X.prog) (w:=X.w) hh s.heap.objs.size p hne its.toArray;rw[hbl]at W;refine hP s.heap.objs.size _ _ _ _ (λi=>bs.getD i false) _ W ⟨⟨_,yao _ rfl,rfl,rfl⟩,?_⟩ ?_ ?_ ?_
 .obtain⟨o,ho,hr⟩:=pl.isList;exact⟨o,ya8 _ ho,hr⟩
 .intro i v s' Q' E'' hv hq';obtain⟨b,h1,h2⟩:=val i v (by simpa using hv)
  subst h2;refine yee ?_;have e:bs.getD i false=b:=by rw[yaw,h1];rfl
  rw[<- e];exact hq'
 .intro i b hb';show bs.getD i false=b;rw[yaw,hb']
  rfl
 .intro h' tk k
  exact I.kept λb o e=>k b o (λz=>by
   rw[ya7]at z;exact absurd (yah e) (by rw[z];exact yba _)) (ya8 _ e)
theorem zet(hc:X.calm=true):B0 X (.builtin "all") (Cw X.K (g1 Eh)):=by
 intro pins s σ H xs us Q I r h;obtain⟨F,ts,v,fh,rs,e,q⟩:=h;unfold g1 at e;split at e
 .obtain⟨x1,xs1,rfl,r1,rs1⟩:=rs.inv;cases rs1.inv0;unfold Eh at e;split at e
  .split at e
   .cases e;rename_i bs hbs;obtain⟨p,rfl⟩:=r1.ref_inv;obtain⟨u,rfl,ru⟩:=DP r;cases ru;refine call_all_walk (Ss hc I fh r1 hbs λI0 wr fp St PP tr s2 W st0 tro htr Al=>⟨I0,fp,wr,bs.length,PP,St,tr,rfl,W,st0,tro,λh' tk k=>?_⟩)
    rw[(UP htr).1];exact⟨.bl _,H,Al h' tk k,rfl,q.bl fh⟩
   .cases e
  .cases e
 .cases e
theorem zes(hc:X.calm=true):B0 X (.builtin "any") (Cw X.K (g1 NS)):=by
 intro pins s σ H xs us Q I r h;obtain⟨F,ts,v,fh,rs,e,q⟩:=h;unfold g1 at e;split at e
 .obtain⟨x1,xs1,rfl,r1,rs1⟩:=rs.inv;cases rs1.inv0;unfold NS at e;split at e
  .split at e
   .cases e;rename_i bs hbs;obtain⟨p,rfl⟩:=r1.ref_inv;obtain⟨u,rfl,ru⟩:=DP r;cases ru;refine call_any_walk (Ss hc I fh r1 hbs λI0 wr fp St PP tr s2 W st0 tro htr Al=>⟨I0,fp,wr,bs.length,PP,St,tr,rfl,W,st0,tro,λh' tk k=>?_⟩)
    rw[(UP htr).2];exact⟨.bl _,H,Al h' tk k,rfl,q.bl fh⟩
   .cases e
  .cases e
 .cases e
theorem zd7{pins:List (Addr×Obj)}{σ:L2.St}{H:Hp}{s:Shared}{p:Addr}{ob:Obj}{kvs:List (Key×V)}{c:Value}{b:Bool}{A:Around}{Q:Value->Shared->Prop}{E:Value->Shared->Prop}(I:Inv X pins σ H s)(ea:H p=some (.frz ob (.dK kvs)))(e:PySem.W.kitOne X.K (.type "dict") c=some b)(h:∀tk,Q (.bool b) { s with toks:=tk }) :
  wpAny (model X.prog X.w) A (call (.builtin "isinstance") [.ref p,c]) Q E s:=by
 obtain⟨_,_,_,vs,_,q⟩:=(show BK X.prog X.w H s.heap p (.frz ob (.dK kvs)) from I.hok p _ ea);obtain⟨o,es,ep,h1,h2,_⟩:=q;exact ybb ye3 I.kIn ⟨o,h1,h2.1⟩ e (λz=>nomatch z) h
theorem zk3{F H:Hp}{t:T}{x:V}{a:String}(fh:AZ F H)(r:Rp X.K F F t x R0)(h:Nr t=some a):(TyOf X.K H x (.type a)\/a="dict"/\∃p ob kvs,x=.ref p/\H p=some (.frz ob (.dK kvs)))/\a∈["NoneType","bool","int","str","list","tuple","dict"]:=by
 cases t with
 |non=>cases h;rw[r.non_inv];exact⟨.inl .non,by simp⟩
 |bl b=>cases h;rw[r.bl_inv];exact⟨.inl (.bl b),by simp⟩
 |int i=>cases h;rw[r.int_inv];exact⟨.inl (.int i),by simp⟩
 |str y=>cases h;rw[r.str_inv];exact⟨.inl (.str y),by simp⟩
 |nd o k l =>
  obtain⟨p,xs,rfl,_,n,_⟩:=Dl r;cases k with
  |lst=>cases h;exact⟨.inl (.lst (fh _ _ n)),by simp⟩
  |tup=>cases h;exact⟨.inl (.tup (fh _ _ n)),by simp⟩
  |rl=>cases h
  |rt=>cases h
  |pin _=>cases h
 |dic ks l =>
  cases h;cases r with
  |dic h e ek c=>exact⟨.inr ⟨rfl,_,_,_,rfl,fh _ _ h⟩,by simp⟩
 |pdc ks l =>
  cases h;cases r with
  |pdc h e ek c=>exact⟨.inl (.dK (fh _ _ h)),by simp⟩
 |odc ks l=>cases h
 |obj k l=>cases h
 |oob p C fs l=>cases h
 |osd ks l=>cases h
theorem zeq{c:String}:B0 X (.builtin "isinstance") (λxs H Q=>∃x,xs=[x,.ty c]/\Cw X.K (g1 (CK c)) [x] H Q):=by
 intro pins s σ H xs us Q I r h;obtain⟨x,rfl,F,ts,v,fh,rs,e,q⟩:=h;unfold g1 at e;split at e
 .obtain⟨x1,xs1,e1,r1,rs1⟩:=rs.inv;cases e1;unfold CK at e;split at e
  .rename_i a ha;split at e
   .cases e;rename_i hc;obtain⟨ty,hm⟩:=zk3 fh r1 ha
    rcases ty with ty|⟨rfl,p,ob,kvs,rfl,hp⟩
    .exact zh6 pins s σ H _ us Q I r ⟨x,_,_,rfl,ty,Wz X.K hm hc,q.bl fh⟩
    .obtain⟨u,w',rfl,rx,ry⟩:=Jc r;cases ry;cases rx;exact zd7 I hp (Wz X.K hm hc) λtk=>⟨.bl _,H,I.tok _,rfl,q.bl fh⟩
   .cases e
  .cases e
 .cases e
def T.isN:T->Bool
 |.non=>true
 |_=>false
noncomputable def T.isB(b:Bool):T->Bool
 |.bl c=>c == b
 |_=>false
def Hh(neg:Bool)(t u:T):Option T:=match u with
 |.non=>some (.bl (neg ^^ t.isN))
 |.bl b=>some (.bl (neg ^^ t.isB b))
 |_=>none
theorem Y9{K:kA}{F H:Hp}{t:T}{x:V}{A:Rg}(r:Rp K F H t x A):decide (x=V.non)=t.isN:=by
 cases r<;>simp[T.isN]
theorem Yb{K:kA}{F H:Hp}{t:T}{x:V}{A:Rg}{b:Bool}(r:Rp K F H t x A):decide (x=V.bl b)=t.isB b:=by
 cases r<;>simp[T.isB]
 rename_i c;cases c<;>cases b<;>rfl
theorem zlv:Ad X (compareOp .Is) (B5 X.K (Hh false)):=by
 intro pins s σ H x y v u Q I rx ry h;obtain⟨F,t1,t2,r,fh,r1,r2,e,q⟩:=h;unfold Hh at e;split at e
 .cases e;rw[r2.non_inv]at ry;refine zlr pins s σ H _ _ v u Q I rx ry ⟨rfl,?_⟩;rw[Y9 r1];have:=q.bl fh;rw[Bool.false_xor]at this;exact this
 .cases e;rw[r2.bl_inv]at ry;refine zls pins s σ H _ _ v u Q I rx ry ⟨_,rfl,?_⟩;rw[Yb r1];have:=q.bl fh;rw[Bool.false_xor]at this;exact this
 .cases e
theorem zdy:Ad X (compareOp .IsNot) (B5 X.K (Hh true)):=by
 intro pins s σ H x y v u Q I rx ry h;obtain⟨F,t1,t2,r,fh,r1,r2,e,q⟩:=h;unfold Hh at e;split at e
 .cases e;rw[r2.non_inv]at ry;refine zio pins s σ H _ _ v u Q I rx ry ⟨rfl,?_⟩;rw[Y9 r1];have:=q.bl fh;rw[Bool.true_xor]at this;exact this
 .cases e;rw[r2.bl_inv]at ry;refine ziq pins s σ H _ _ v u Q I rx ry ⟨_,rfl,?_⟩;rw[Yb r1];have:=q.bl fh;rw[Bool.true_xor]at this;exact this
 .cases e
end
section
variable {X:Cx}{E:L2.St->XK}{ca:Str->Value}{σ:L2.St}{H:Hp}{m ma mb mc:AB->Option Rs}{ms:AB->Option RsL}{K:kA}{a b c e:Expr}{es:List Expr}{pos p p2:Pos}
theorem r_isT{c:String}{cn:Str}(hv:bootBuiltins cn=some (.type c))(hg:Gl X "isinstance")(hm:X.mg "isinstance"=none)(hgc:Gl X cn)(hmc:X.mg cn=none)(hn:cn≠"__name__")(hd:(cn == ("__debug__":Str))=false)(ha:PE X e (tM X.K E ca m))(he:starEach [e,.Name cn p2] X.env=(false,eval e X.env)::starEach [.Name cn p2] X.env) :
  PE X (.Call (.Name "isinstance" p) [e,.Name cn p2] [] pos) (tM X.K E ca (BB (g1 (CK c)) (AD m AE))):=by
 refine PE.weak (KA (zeq (c:=c)) hg hm yct (Cj ha (Cj (VB (v:=.ty c) hgc hmc hv rfl hn hd) DU) he) (by decide) (by decide) he rfl) λσ H Q h=>?_
 exact(FX (GH h)).mono λx H1 h1=>⟨x,rfl,GG h1⟩
inductive Ru where
 |ok (t:T)|exc (c:Str)
def Bv(K:kA)(ca:Str->Value)(g:List T->Option Ru):Sp:=λvs H Q E=>∃F ts,AZ F H/\Ag K F ts vs/\match g ts with
 |some (.ok v)=>Cp K F H v Q
 |some (.exc c)=>∀F' H',Ext F H F' H' R0->E (ca c) none H'
 |none=>False
def AR(g:List T->Option Ru)(ms:AB->Option RsL):AB->Option Rs:=λτ=>match ms τ with
 |some (.v ts b)=>(match g ts with
  |some (.ok v)=>Al b v
  |some (.exc c)=>some (.x c)
  |none=>none)
 |some (.x c)=>some (.x c)
 |none=>none
theorem Yx{g:List T->Option Ru}{Q:VK}(h:tM K E ca (AR g ms) σ H Q):T6 (Bv K ca g) [] E (CD K E ca ms) σ H Q:=by
 obtain⟨F,τ,R,S,q⟩:=h;refine⟨F,τ,R,S,?_⟩;unfold AR at q;cases hs:ms τ with
 |none=>simp only[hs]at q
 |some r =>
  simp only[hs]at q;cases r with
  |x c=>exact q
  |v ts b =>
   intro F1 H1 xs e1 rs;have S1:=S.ext e1;simp only at q;rw[yb4];refine⟨Gz b F1 H1 R,ts,X0 S1,rs,?_⟩;cases hg:g ts with
   |none=>simp only[hg]at q
   |some r =>
    simp only[hg]at q;cases r with
    |exc c=>exact λF' H' e2=>q F1 H' (e1.grow e2.hh)
    |ok v =>
     intro F2 H2 z C e2 r2;simp only at q;unfold Al at q;cases b with
     |false=>exact q F2 H2 z C (e1.trans0 e2) r2
     |true =>
      cases hf:v.flat with
      |false=>rw[hf]at q;exact False.elim q
      |true=>rw[hf]at q;exact q F1 H2 z R0 (e1.grow e2.hh) (r2.flat_any hf)
theorem zl1{k j:Nat}{x:Str}{ps:List Str}{g:List T->Option Ru}(D:DefX X.prog X.w X.K X.mg X.base k x ps (Bv X.K ca g))(hr:Room j X.A)(hx:BH X E)(ha:PA X (e::es) (CD X.K E ca ms))(hk:k<=j)(hg:Gl X x)(hdb:(x == ("__debug__":Str))=false)
  (he:starEach (e::es) X.env=(false,eval e X.env)::starEach es X.env) (hpl:(backTo pos (starEach es X.env)).any (·.1)=false):PE X (.Call (.Name x p) (e::es) [] pos) (tM X.K E ca (AR g ms)):=PE.weak (px D hr hx ha hk hg hdb he hpl) λ_ _ _ h=>Yx h
end
def GC(K:kA)(J:It)(F:Hp)(ts:List T):Prop:=∀(i:Nat) (F' H':Hp),AZ F F'->AZ F' H' ->
 (∀t,ts[i]?=some t->J.go i H'/\∀x H'',J.yld i H' x H''->∃F'',Ext F' H' F'' H'' R0/\Rp K F'' H'' t x R0)/\(i=ts.length->J.stop i H')
def tI(K:kA)(E:L2.St->XK)(ca:Str->Value)(m:AB->Option RsL):TI:=λσ H P=>∃F τ R,StR K F H σ τ R/\match m τ with
 |some (.v ts _)=>∀F' H' J,Ext F H F' H' R0->GC K J F' ts->P J H'
 |some (.x c)=>∀F' H',Ext F H F' H' R0->E σ (ca c) none H'
 |none=>False
noncomputable def Q6:T->Bool
 |.nd _ .lst _=>true
 |.nd _ .rl _=>true
 |.nd _ (.pin _) _=>true
 |_=>false
noncomputable def JJ(m:AB->Option Rs):AB->Option RsL:=λτ=>match m τ with
 |some (.v (.nd _ k l) false)=>some (.v (Aw l) false)
 |some (.x c)=>some (.x c)
 |_=>none
def E2(lo:Int)(n:Nat):List T:=(List.range n).map λ(i:Nat)=>.int (lo+(i:Int))
def GY(j:Int):Bool:=@decide (-(2 ^ 62)<=j/\j<2 ^ 62) (Classical.propDecidable _)
def NR:List T->Option Int
 |[.int j]=>some j
 |_=>none
def DX(ms:AB->Option RsL):AB->Option RsL:=λτ=>match ms τ with
 |some (.v ts _)=>(match NR ts with
  |some j=>if GY j then some (.v (E2 0 j.toNat) false) else none
  |none=>none)
 |r=>r
def DC:Nat->List T->List T
 |_,[]=>[]
 |i,t::r=>.tup [.int (i:Int),t]::DC (i+1) r
def NQ:List T->Option (List T)
 |[.nd o k l]=>if Q6 (.nd o k l) then some l else none
 |_=>none
def Fm(ms:AB->Option RsL):AB->Option RsL:=λτ=>match ms τ with
 |some (.v ts false)=>(match NQ ts with
  |some l=>some (.v (DC 0 l) false)
  |none=>none)
 |some (.v _ true)=>none
 |r=>r
theorem RZ:∀(l:List T) (n i:Nat),(DC n l)[i]?=(l[i]?).map λt=>T.tup [.int ((n+i:Nat):Int),t]
 |[],n,i=>by simp[DC]
 |t::r,n,i=>by
  cases i with
  |zero=>simp[DC]
  |succ i =>
   simp only[DC,yck];rw[RZ r (n+1) i];have:n+1+i=n+(i+1):=by omega
   rw[this]
theorem RY(l:List T):∀n,(DC n l).length=l.length:=by
 induction l with
 |nil=>intro n;rfl
 |cons t r ih=>intro n;simp[DC,ih]
section
variable {X:Cx}{E:L2.St->XK}{ca:Str->Value}{σ:L2.St}{H:Hp}{m ma mb mc:AB->Option Rs}{ms:AB->Option RsL}{K:kA}{a b c e tg:Expr}{es elts:List Expr}{pos p tpos:Pos}{kk:Nat}
theorem Mh{F:Hp}{p:Addr}{xs:List V}{l:List T}(n:∀F' H':Hp,AZ F F'->AZ F' H'->Ac K H' p xs)(r:Ag K F l xs):GC K (Nd K p) F l:=by
 intro i F' H' s1 s2;have sq:=n F' H' s1 s2;refine⟨λt ht=>?_,λe=>⟨xs,sq,by rw[e,r.1];exact yaf _⟩⟩
 have hi:i<xs.length:=by
  have:=(yac.mp ht).1;have:=r.1
  omega
 refine⟨⟨xs,xs[i],sq,ya5 hi⟩,λx H'' y=>?_⟩
 obtain⟨rfl,y⟩:=y;have hx:=y xs sq;exact⟨F',Ext.refl s2,((r.same s1).2 i t x ht hx).any⟩
theorem XM{F:Hp}{p:Addr}{xs:List V}{l:List T}(n:∀F' H':Hp,AZ F F'->AZ F' H'->BY K H' p xs)(r:Ag K F l xs):GC K (Sg K p) F l:=by
 intro i F' H' s1 s2;have sq:=n F' H' s1 s2;refine⟨λt ht=>?_,λe=>⟨xs,sq,by rw[e,r.1];exact yaf _⟩⟩
 have hi:i<xs.length:=by
  have:=(yac.mp ht).1;have:=r.1
  omega
 refine⟨⟨xs,xs[i],sq,ya5 hi⟩,λx H'' y=>?_⟩
 obtain⟨rfl,y⟩:=y;have hx:=y xs sq;exact⟨F',Ext.refl s2,((r.same s1).2 i t x ht hx).any⟩
theorem ze8{F:Hp}{lo:Int}{n:Nat}:GC K (Nc lo n) F (E2 lo n):=by
 intro i F' H' s1 s2;refine⟨λt ht=>?_,λe=>?_⟩
 .unfold E2 at ht;rw[yaj]at ht;obtain⟨j,e1,e2⟩:=ya4.mp ht
  have hi:i<n:=by
   have:=(yac.mp e1).1
   simpa using this
  have hj:i=j:=by rw[yd2 hi]at e1;exact ya9 e1
  subst hj;subst e2;refine⟨hi,λx H'' y=>?_⟩
  obtain⟨rfl,rfl⟩:=y;exact⟨F',Ext.refl s2,.int _⟩
 .have:n<=i:=by rw[e];simp[E2]
  exact this
theorem zgn{F:Hp}{p:Addr}{xs:List V}{l:List T}(n:∀F' H':Hp,AZ F F'->AZ F' H'->Ac K H' p xs)(r:Ag K F l xs):GC K (Si K p) F (DC 0 l):=by
 intro i F' H' s1 s2;have sq:=n F' H' s1 s2;refine⟨λt ht=>?_,λe=>⟨xs,sq,by rw[e,RY,r.1];exact yaf _⟩⟩
 rw[RZ]at ht;obtain⟨t0,h0,rfl⟩:=ya4.mp ht
 have hi:i<xs.length:=by
  have:=(yac.mp h0).1;have:=r.1
  omega
 refine⟨⟨xs,xs[i],sq,ya5 hi⟩,λx H'' y=>?_⟩
 obtain⟨q,y0,rfl,hq,rfl,y⟩:=y;have hx:=y xs sq;have e:=Ext.new (o:=.tup [.int i,y0]) s2 hq;refine⟨_,e,Ag.of_node (k:=.tup) (xs:=[.int i,y0]) Bq ?_⟩;have e0:((0+i:Nat):Int)=(i:Int):=by simp
 rw[e0];exact .cons (H:=H') (.int _) (.cons (H:=H') (((r.same (s1.trans e.ff)).2 i t0 y0 h0 hx).any) .nil)
theorem PI.weak{t t':TI}(h:PI X tg e t)(w:∀σ H P,t' σ H P->t σ H P):PI X tg e t':=λpins s σ H P I q=>h pins s σ H P I (w σ H P q)
theorem PI.or{t t':TI}(h:PI X tg e t)(h':PI X tg e t'):PI X tg e (λσ H P=>t σ H P\/t' σ H P):=λpins s σ H P I q=>q.elim (h pins s σ H P I) (h' pins s σ H P I)
theorem U2(ha:PE X e (tM X.K E ca m)):PI X tg e (tI X.K E ca (JJ m)):=by
 refine PI.weak (PI.or (zih ha) (zld ha)) λσ H P h=>?_
 obtain⟨F,τ,R,S,q⟩:=h;unfold JJ at q
 have key:∀{o:Bool} {k:Kd} {l:List T},m τ=some (.v (.nd o k l) false)->(∀F' H' J,Ext F H F' H' R0->GC X.K J F' (Aw l)->P J H')->∀F1 H1 x B,Ext F H F1 H1 B->DL X.K F1 H1 R (.nd o k l) false x B->∃(F2:Hp) (p:Addr) (xs:List V),x=.ref p/\Ext F H F2 H1 R0/\FU X.K F2 k p xs/\Ag X.K F2 (Aw l) xs:=by
  intro o k l hm q F1 H1 x B e1 g1;obtain⟨F2,e2,_,r2⟩:=DL.frz (b:=false) S e1 g1;have r2':Rp X.K F2 F2 (T.nd o k l).share x R0:=r2;rw[T.share]at r2';obtain⟨p,xs,rfl,_,n,kd⟩:=Dl r2';exact⟨F2,p,xs,rfl,e2,n,kd⟩
 cases hm:m τ with
 |none=>simp only[hm]at q
 |some r =>
  simp only[hm]at q;cases r with
  |x c=>exact .inl ⟨F,τ,R,S,by rw[hm];exact q⟩
  |v t bb =>
   cases t with
   |nd o k l =>
    cases bb with
    |true=>exact q.elim
    |false =>
     simp only at q;cases k with
     |lst =>
      refine .inl ⟨F,τ,R,S,?_⟩;rw[hm];intro F1 H1 x B e1 g1;obtain⟨F2,p,xs,rfl,e2,n,kd⟩:=key hm q F1 H1 x B e1 g1;exact⟨p,rfl,⟨xs,Ac.of (e2.fh _ _ n)⟩,q F2 H1 _ e2 (Mh (λF' H' s1 s2=>Ac.of (s2 _ _ (s1 _ _ n))) kd)⟩
     |pin _ =>
      refine .inl ⟨F,τ,R,S,?_⟩;rw[hm];intro F1 H1 x B e1 g1;obtain⟨F2,p,xs,rfl,e2,n,kd⟩:=key hm q F1 H1 x B e1 g1;exact⟨p,rfl,⟨xs,Ac.of (e2.fh _ _ n)⟩,q F2 H1 _ e2 (Mh (λF' H' s1 s2=>Ac.of (s2 _ _ (s1 _ _ n))) kd)⟩
     |rl =>
      refine .inl ⟨F,τ,R,S,?_⟩;rw[hm];intro F1 H1 x B e1 g1;obtain⟨F2,p,xs,rfl,e2,n,kd⟩:=key hm q F1 H1 x B e1 g1;exact⟨p,rfl,⟨xs,e2.fh.seq n⟩,q F2 H1 _ e2 (Mh (λF' H' s1 s2=>s2.seq (s1.seq n)) kd)⟩
     |tup =>
      refine .inr ⟨F,τ,R,S,?_⟩;rw[hm];intro F1 H1 x B e1 g1;obtain⟨F2,p,xs,rfl,e2,n,kd⟩:=key hm q F1 H1 x B e1 g1;exact⟨p,rfl,⟨xs,BY.of (e2.fh _ _ n)⟩,q F2 H1 _ e2 (XM (λF' H' s1 s2=>BY.of (s2 _ _ (s1 _ _ n))) kd)⟩
     |rt =>
      refine .inr ⟨F,τ,R,S,?_⟩;rw[hm];intro F1 H1 x B e1 g1;obtain⟨F2,p,xs,rfl,e2,n,kd⟩:=key hm q F1 H1 x B e1 g1;exact⟨p,rfl,⟨xs,GJ e2.fh n⟩,q F2 H1 _ e2 (XM (λF' H' s1 s2=>GJ s2 (GJ s1 n)) kd)⟩
   |_=>exact q.elim
theorem T5{f:(AB->Option RsL)->AB->Option RsL}{P:It->Hp->Prop}{W:List V->Hp->Prop}(hx:∀τ c,ms τ=some (.x c)->f ms τ=some (.x c))(hn:∀τ,ms τ=none->f ms τ=none)
  (hv : ∀ F τ R ts b, StR K F H σ τ R -> ms τ = some (.v ts b) -> (match f ms τ with
   |some (.v us _)=>∀F' H' J,Ext F H F' H' R0->GC K J F' us->P J H'
   |some (.x c)=>∀F' H',Ext F H F' H' R0->E σ (ca c) none H'
   |none=>False)->∀F' H' xs,Ext F H F' H' R0->Ag K (Gz b F' H' R) ts xs->W xs H') (h:tI K E ca (f ms) σ H P):CD K E ca ms σ H W:=by
 obtain⟨F,τ,R,S,q⟩:=h;refine⟨F,τ,R,S,?_⟩;cases hm:ms τ with
 |none=>rw[hn τ hm]at q;exact q.elim
 |some r =>
  cases r with
  |x c=>rw[hx τ c hm]at q;exact q
  |v ts b=>exact λF' H' xs e rs=>hv F τ R ts b S hm q F' H' xs e rs
theorem zg8{j:Int}(h:GY j=true):-(2 ^ 62)<=j/\j<2 ^ 62:=@of_decide_eq_true _ (Classical.propDecidable _) h
theorem zft(hg:Gl X "range")(hm:X.mg "range"=none)(ha:PA X [a] (CD X.K E ca ms))(hs:starEach [a] X.env=[(false,eval a X.env)]):PI X tg (.Call (.Name "range" p) [a] [] pos) (tI X.K E ca (DX ms)):=by
 refine PI.weak (zdv hg hm ha hs) λσ H P h=>?_
 refine T5 (f:=DX) (λτ c e=>by unfold DX;rw[e]) (λτ e=>by unfold DX;rw[e]) (λF τ R ts b S e q F' H' xs e1 rs=>?_) h
 unfold DX at q;rw[e]at q;simp only at q;cases h1:NR ts with
 |none=>simp only[h1]at q
 |some j =>
  simp only[h1]at q
  by_cases hj:GY j=true
  .simp only[hj,yeo]at q;obtain⟨g1,g2⟩:=zg8 hj;unfold NR at h1;split at h1
   .cases h1;obtain⟨x1,xs1,rfl,r1,rs1⟩:=rs.inv;cases rs1.inv0;rw[r1.int_inv];exact⟨j,rfl,g1,g2,q F' H' _ e1 ze8⟩
   .cases h1
  .simp only[hj]at q;exact q.elim
theorem zmt{F:Hp}{o:Bool}{k:Kd}{l:List T}{x:V}(h:Q6 (.nd o k l)=true)(r:Rp K F F (.nd o k l) x R0):∃p xs,x=.ref p/\(∀F' H':Hp,AZ F F'->AZ F' H'->Ac K H' p xs)/\Ag K F l xs:=by
 obtain⟨p,xs,rfl,_,n,kd⟩:=Dl r;refine⟨p,xs,rfl,λF' H' s1 s2=>?_,kd⟩
 cases k with
 |lst=>exact Ac.of (s2 _ _ (s1 _ _ n))
 |rl=>exact s2.seq (s1.seq n)
 |tup=>cases h
 |rt=>cases h
 |pin q=>exact Ac.of (s2 _ _ (s1 _ _ n))
theorem U4(hg:Gl X "enumerate")(hm:X.mg "enumerate"=none)(ha:PA X [a] (CD X.K E ca ms))(hs:starEach [a] X.env=[(false,eval a X.env)]):PI X (.Tuple elts kk tpos) (.Call (.Name "enumerate" p) [a] [] pos) (tI X.K E ca (Fm ms)):=by
 refine PI.weak (zii hg hm ha hs) λσ H P h=>?_
 refine T5 (f:=Fm) (λτ c e=>by unfold Fm;rw[e]) (λτ e=>by unfold Fm;rw[e]) (λF τ R ts b S e q F' H' xs e1 rs=>?_) h
 unfold Fm at q;rw[e]at q;cases b with
 |true=>exact q.elim
 |false =>
  simp only at q;cases h1:NQ ts with
  |none=>simp only[h1]at q
  |some l =>
   simp only[h1]at q;unfold NQ at h1;split at h1
   .split at h1
    .cases h1;rename_i hL;obtain⟨x1,xs1,rfl,r1,rs1⟩:=rs.inv;cases rs1.inv0;obtain⟨p',ys,rfl,sq,kd⟩:=zmt hL r1;exact⟨p',rfl,⟨ys,sq F' H' (.refl _) e1.fh⟩,q F' H' _ e1 (zgn sq kd)⟩
    .cases h1
   .cases h1
end
theorem StR.set{K:kA}{F H:Hp}{σ:L2.St}{τ:AB}{R:Nat->Rg}(S:StR K F H σ τ R){i:Nat}{t:T}{x:V}{A:Rg}(r:Rp K F H t x A)(d:∀j a,j≠i->R j a->¬ A a)(hi:i<τ.length) :
  StR K F H (σ.set i (some x)) (τ.set i (some t)) (λj=>if j=i then A else R j):=by
 have hl:=S.len;refine⟨S.fh,by simp[hl],λj t' e=>?_,λj a z=>?_,λj k a hjk z1 z2=>?_⟩
 .by_cases hj:j=i
  .subst hj;rw[yas hi]at e;cases e;exact⟨x,yas (by omega),by simpa using r⟩
  .rw[yan (yb1 hj)]at e ⊢;obtain⟨y,e1,r1⟩:=S.rep j t' e;exact⟨y,e1,by simpa[hj] using r1⟩
 .by_cases hj:j=i
  .subst hj;exact⟨t,yas hi⟩
  .simp only[hj,yep]at z;obtain⟨t',e⟩:=S.out j a z;exact⟨t',by rw[yan (yb1 hj)];exact e⟩
 .by_cases hj:j=i
  .simp only[hj,yeo]at z1;have hk:¬ k=i:=λz=>hjk (hj.trans z.symm)
   simp only[hk,yep]at z2;exact d k a hk z2 z1
  .simp only[hj,yep]at z1
   by_cases hk:k=i
   .simp only[hk,yeo]at z2;exact d j a hj z1 z2
   .simp only[hk,yep]at z2;exact S.dis j k a hjk z1 z2
def Dg(K:kA)(b:T->AB->Option AB):TG:=λv σ H Q=>∃F τ R t τ',StR K F H σ τ R/\Rp K F H t v R0/\b t τ=some τ'/\∀σ' R',StR K F H σ' τ' R'->(∀i a,R' i a->R i a)->Q σ' H
def IV(K:kA)(b:List T->AB->Option AB):Fy:=λvs σ H Q=>∃F τ R ts τ',StR K F H σ τ R/\Ag K F ts vs/\b ts τ=some τ'/\∀σ' R',StR K F H σ' τ' R'->(∀i a,R' i a->R i a)->Q σ' H
def AG(i:Nat):T->AB->Option AB:=λt τ=>if i<τ.length then some (τ.set i (some t)) else none
def DD:List T->AB->Option AB
 |[],τ=>some τ
 |_::_,_=>none
def BX(b:T->AB->Option AB)(bs:List T->AB->Option AB):List T->AB->Option AB
 |t::ts,τ=>(match b t τ with
  |some τ'=>bs ts τ'
  |none=>none)
 |[],_=>none
def Cn(n:Nat)(bs:List T->AB->Option AB):T->AB->Option AB
 |.nd _ .tup l,τ=>if l.length=n then bs l τ else none
 |.nd _ .rt l,τ=>if l.length=n then bs l τ else none
 |_,_=>none
section
variable {X:Cx}{e:Expr}{es:List Expr}{pos:Pos}{b:T->AB->Option AB}{bs:List T->AB->Option AB}
theorem PG.weak{t t':TG}(h:PG X e t)(w:∀v σ H Q,t' v σ H Q->t v σ H Q):PG X e t':=λpins s σ H v u Q I r q=>h pins s σ H v u Q I r (w v σ H Q q)
theorem De.weak{t t':Fy}(h:De X es t)(w:∀v σ H Q,t' v σ H Q->t v σ H Q):De X es t':=λpins s σ H v u Q I r q=>h pins s σ H v u Q I r (w v σ H Q q)
theorem g_nm{i:Nat}{x:Str}(hN:X.N.Nodup)(hi:X.N[i]?=some x)(hx:FV X.env.scope x)(hf:X.fn x=true\/X.env.scope.names.lookup x=some .local):PG X (.Name x pos) (Dg X.K (AG i)):=by
 refine PG.weak (Uv hN hi hx hf) λv σ H Q h=>?_
 obtain⟨F,τ,R,t,τ',S,r,e,q⟩:=h;unfold AG at e;split at e
 .cases e;rename_i hl;refine q _ _ (S.set r (λ_ _ _ _ z=>z.elim) hl) λj a z=>?_
  by_cases hj:j=i
  .simp only[hj,yeo]at z;exact z.elim
  .simpa[hj] using z
 .cases e
theorem g_nil:De X [] (IV X.K DD):=De.weak zij λv σ H Q h=>by
 obtain⟨F,τ,R,ts,τ',S,r,e,q⟩:=h;cases ts with
 |nil=>cases e;exact⟨r.inv0,q σ R S λ_ _ z=>z⟩
 |cons _ _=>cases e
theorem zmz(h1:PG X e (Dg X.K b))(h2:De X es (IV X.K bs))(hs:(assignEach (e::es) X.env).map (·.2)=assign e X.env::(assignEach es X.env).map (·.2)):De X (e::es) (IV X.K (BX b bs)):=by
 refine De.weak (zg2 h1 h2 hs) λv σ H Q h=>?_
 obtain⟨F,τ,R,ts,τ',S,r,e,q⟩:=h;cases ts with
 |nil=>cases e
 |cons t ts =>
  obtain⟨x,xs,rfl,r1,rs⟩:=r.inv;unfold BX at e;simp only at e;cases hb:b t τ with
  |none=>rw[hb]at e;cases e
  |some τ1 =>
   rw[hb]at e;exact⟨x,xs,rfl,F,τ,R,t,τ1,S,r1.any,hb,λσ1 R1 S1 w1=>⟨F,τ1,R1,ts,τ',S1,rs,e,λσ2 R2 S2 w2=>q σ2 R2 S2 λi a z=>w1 i a (w2 i a z)⟩⟩
theorem g_tup{k n:Nat}(hc:X.calm=true)(h:De X es (IV X.K bs))(hn:(assignEach es X.env).length=n)(hst:(assignEach es X.env).findIdx? (·.1)=none):PG X (.Tuple es k pos) (Dg X.K (Cn n bs)):=by
 refine PG.weak (zlf hc h hn hst) λv σ H Q h=>?_
 obtain⟨F,τ,R,t,τ',S,r,e,q⟩:=h
 have key:∀{o:Bool} {kd:Kd} {l:List T},t=.nd o kd l->(kd=.tup\/kd=.rt)->(if l.length=n then bs l τ else none)=some τ'->YI X.K n (IV X.K bs) v σ H Q:=by
  intro o kd l et hk e';subst et;split at e'
  .rename_i hl;obtain⟨p,xs,rfl,_,nn,kid⟩:=Dl (r.any (H':=F))
   have sq:BY X.K H p xs:=by
    rcases hk with rfl|rfl
    .exact BY.of (S.fh _ _ nn)
    .exact GJ S.fh nn
   exact⟨p,xs,rfl,sq,by rw[<- kid.1];exact hl,F,τ,R,l,τ',S,kid,e',q⟩
  .cases e'
 unfold Cn at e;split at e
 .exact key rfl (.inl rfl) e
 .exact key rfl (.inr rfl) e
 .cases e
end
def Ej:L2.St->XK:=λ_=>E0
noncomputable def Bg(b:T->AB->Option AB)(mt me:AB->Option Rs):List T->AB->Option (List T)
 |[],_=>some []
 |t::ts,τ=>(match b t τ with
  |some τ1=>(match mt τ1 with
   |some (.v (.bl true) _)=>(match me τ1 with
    |some (.v v false)=>(match Bg b mt me ts τ1 with
     |some l=>some (v::l)
     |none=>none)
    |_=>none)
   |some (.v (.bl false) _)=>Bg b mt me ts τ1
   |_=>none)
  |none=>none)
noncomputable def Ea(b:T->AB->Option AB)(mt me:AB->Option Rs):List T->AB->Option Str
 |[],_=>none
 |t::ts,τ=>(match b t τ with
  |some τ1=>(match mt τ1 with
   |some (.v (.bl true) _)=>(match me τ1 with
    |some (.v _ false)=>Ea b mt me ts τ1
    |some (.x c)=>some c
    |_=>none)
   |some (.v (.bl false) _)=>Ea b mt me ts τ1
   |some (.x c)=>some c
   |_=>none)
  |none=>none)
noncomputable def NH(τ:AB)(j:Nat):Option T:=match τ[j]? with
 |some (some t)=>if t.sh then some t else none
 |_=>none
def blk(n:Nat)(caps:List Nat)(τ:AB):AB:=List.replicate n none++caps.map (NH τ)
noncomputable def NG(σ:L2.St)(j:Nat):Option V:=match σ[j]? with
 |some (some v)=>some v
 |_=>none
def ET(n:Nat)(caps:List Nat)(σ:L2.St):L2.St:=List.replicate n none++caps.map (NG σ)
def BO(n:Nat)(caps:List Nat)(mi:AB->Option RsL)(b:T->AB->Option AB)(mt me:AB->Option Rs):AB->Option Rs:=λτ=>match mi τ with
 |some (.v ts _)=>if ts.length<=AY then (match Bg b mt me ts (blk n caps τ) with
  |some l=>some (.v (.own l) false)
  |none=>(match Ea b mt me ts (blk n caps τ) with
   |some c=>some (.x c)
   |none=>none)) else none
 |some (.x c)=>some (.x c)
 |none=>none
theorem zng{K:kA}{F H:Hp}{σ:L2.St}{τ:AB}{R:Nat->Rg}(S:StR K F H σ τ R)(n:Nat)(caps:List Nat):StR K F H (ET n caps σ) (blk n caps τ) (λ_=>R0):=by
 refine⟨S.fh,by simp[ET,blk],λi t e=>?_,λ_ _ z=>z.elim,λ_ _ _ _ z=>z.elim⟩
 unfold blk at e;unfold ET
 by_cases hi:i<n
 .rw[yay (by simpa using hi),ydf,if_pos hi]at e
  cases e
 .rw[yb0 (by simp;omega),yaj]at e ⊢
  simp only[ydr]at e ⊢;cases hc:caps[i - n]? with
  |none=>rw[hc]at e;cases e
  |some j =>
   rw[hc]at e;simp only[yav]at e ⊢;have e':NH τ j=some t:=ya9 e;unfold NH at e';split at e'
   .rename_i t' ht;split at e'
    .cases e';rename_i hs;obtain⟨x,ex,r⟩:=S.rep j _ ht;refine⟨x,?_,r.move hs (.refl _)⟩;unfold NG;rw[ex]
    .cases e'
   .cases e'
theorem Th{l:List T}{Rr:Nat->Rg}{B:Rg}{a:Addr}(h:tot (λj=>if j=l.length then B else Rr j) a):tot Rr a\/B a:=by
 obtain⟨j,z⟩:=h
 by_cases hj:j=l.length
 .simp only[hj,yeo]at z;exact .inr z
 .simp only[hj,yep]at z;exact .inl ⟨j,z⟩
section
variable {X:Cx}{E:L2.St->XK}{ca:Str->Value}{σ:L2.St}{H:Hp}{K:kA}{n:Nat}{caps:List Nat}{mi:AB->Option RsL}{b:T->AB->Option AB}{mt me:AB->Option Rs}
theorem ze5{t:T}{us l2:List T}{τ1:AB}(h:Bg b mt me (t::us) τ1=some l2):∃τ2,b t τ1=some τ2/\((∃bt,mt τ2=some (.v (.bl false) bt)/\Bg b mt me us τ2=some l2)\/∃bt w l3,mt τ2=some (.v (.bl true) bt)/\me τ2=some (.v w false)/\Bg b mt me us τ2=some l3/\l2=w::l3):=by
 unfold Bg at h;split at h
 .rename_i τ2 hb;refine⟨τ2,hb,?_⟩;split at h
  .rename_i bt ht;split at h
   .rename_i w hw;split at h
    .rename_i l3 h3;cases h;exact .inr ⟨bt,w,l3,ht,hw,h3,rfl⟩
    .cases h
   .cases h
  .rename_i bt ht;exact .inl ⟨bt,ht,h⟩
  .cases h
 .cases h
theorem zgi{t:T}{us:List T}{c:Str}{τ1:AB}(h:Ea b mt me (t::us) τ1=some c):∃τ2,b t τ1=some τ2/\((∃bt,mt τ2=some (.v (.bl false) bt)/\Ea b mt me us τ2=some c)\/(∃bt,mt τ2=some (.v (.bl true) bt)/\((∃w,me τ2=some (.v w false)/\Ea b mt me us τ2=some c)\/me τ2=some (.x c)))\/mt τ2=some (.x c)):=by
 unfold Ea at h;split at h
 .rename_i τ2 hb;refine⟨τ2,hb,?_⟩;split at h
  .rename_i bt ht;split at h
   .rename_i w hw;exact .inr (.inl ⟨bt,ht,.inl ⟨w,hw,h⟩⟩)
   .rename_i c' hw;cases h;exact .inr (.inl ⟨bt,ht,.inr hw⟩)
   .cases h
  .rename_i bt ht;exact .inl ⟨bt,ht,h⟩
  .rename_i c' ht;cases h;exact .inr (.inr ht)
  .cases h
 .cases h
theorem TV{Q:VK}(h:tM K E ca (BO n caps mi b mt me) σ H Q):LY (ET n caps) (tI K E ca mi) (Dg K b) (Ao K (λ_=>E σ) ca mt) (tM K (λ_=>E σ) ca me) σ H Q:=by
 obtain⟨F,τ,R,S,q⟩:=h;refine⟨F,τ,R,S,?_⟩;unfold BO at q;cases hi:mi τ with
 |none=>simp only[hi]at q
 |some r =>
  simp only[hi]at q;cases r with
  |x c=>exact q
  |v ts bb =>
   intro F1 H1 J e1 its
   by_cases hz':¬ ts.length<=AY
   .simp only[hz',yep]at q
   have hz:ts.length<=AY:=Decidable.not_not.mp hz';simp only[hz,yeo]at q
   obtain⟨G,g1,g0,gs⟩:∃G:List T->AB->List T->Prop,(∀t us τ1 l,G (t::us) τ1 l->∃τ2,b t τ1=some τ2/\((∃bt,mt τ2=some (.v (.bl false) bt)/\G us τ2 l)\/(∃bt,mt τ2=some (.v (.bl true) bt)/\((∃w,me τ2=some (.v w false)/\G us τ2 (l++[w]))\/∃c,me τ2=some (.x c)/\∀F' H',Ext F H F' H' R0->E σ (ca c) none H'))\/∃c,mt τ2=some (.x c)/\∀F' H',Ext F H F' H' R0->E σ (ca c) none H')) /\
     (∀τ1 l,G [] τ1 l->∀F' H' x B,Ext F H F' H' B->Rp K F' H' (.own l) x B->Q x H')/\G ts (blk n caps τ) []:=by
    cases hg:Bg b mt me ts (blk n caps τ) with
    |some res =>
     simp only[hg]at q;refine⟨λus τ1 l=>∃l2,Bg b mt me us τ1=some l2/\l++l2=res,λt us τ1 l z=>?_,λτ1 l z=>?_,res,hg,rfl⟩
     .obtain⟨l2,z,e⟩:=z;obtain⟨τ2,y,w|⟨bt,w,l3,y1,y2,y3,rfl⟩⟩:=ze5 z
      .obtain⟨bt,w1,w2⟩:=w;exact⟨τ2,y,.inl ⟨bt,w1,l2,w2,e⟩⟩
      .exact⟨τ2,y,.inr (.inl ⟨bt,y1,.inl ⟨w,y2,l3,y3,by simpa using e⟩⟩)⟩
     .obtain⟨l2,z,e⟩:=z;cases z;rw[yb4]at e;subst e;exact q
    |none =>
     simp only[hg]at q;cases hx:Ea b mt me ts (blk n caps τ) with
     |none=>simp only[hx]at q
     |some c =>
      simp only[hx]at q;refine⟨λus τ1 l=>Ea b mt me us τ1=some c,λt us τ1 l z=>?_,λτ1 l z=>(by cases z),hx⟩
      obtain⟨τ2,y,w|⟨bt,y1,⟨w,y2,y3⟩|y2⟩|w⟩:=zgi z
      .exact⟨τ2,y,.inl w⟩
      .exact⟨τ2,y,.inr (.inl ⟨bt,y1,.inl ⟨w,y2,y3⟩⟩)⟩
      .exact⟨τ2,y,.inr (.inl ⟨bt,y1,.inr ⟨c,y2,q⟩⟩)⟩
      .exact⟨τ2,y,.inr (.inr ⟨c,w,q⟩)⟩
   have S1:=S.ext e1;refine⟨λi ys st H'=>∃(F':Hp) (τ':AB) (l:List T) (Rr:Nat->Rg),Ext F1 H1 F' H' (tot Rr)/\RpO K F' H' l ys Rr/\StR K F' H' st τ' (λ_=>R0)/\i<=ts.length/\G (ts.drop i) τ' l/\l.length<=i,ts.length,by rw[<- Dq];exact hz,?_,?_⟩
   .exact⟨F1,blk n caps τ,[],λ_=>R0,(Ext.refl S1.fh).mono λa ⟨_,z⟩=>z.elim,.nil,zng S1 n caps,ycf _,gs,yaf _⟩
   .rintro i ys st H' ⟨F',τ',l,Rr,e2,ro,S2,hle,hgo,hll⟩;have hly:=ro.len;refine⟨by omega,hle,?_⟩
    obtain⟨i1,i2⟩:=its i F' H' e2.ff e2.fh
    by_cases hlt:i<ts.length
    .refine .inr ⟨hlt,?_⟩;obtain⟨go,yld⟩:=i1 _ (ya5 hlt);refine⟨go,λx H'' y=>?_⟩
     obtain⟨F'',e3,rx⟩:=yld x H'' y;have S3:=S2.ext e3;rw[yce hlt]at hgo;obtain⟨τ1,hb,hgo⟩:=g1 _ _ _ _ hgo;refine⟨F'',τ',_,ts[i],τ1,S3,rx,hb,λst1 R1 S4 hR1=>?_⟩
     have R1e:R1=λ_=>R0:=funext λj=>funext λa=>propext ⟨λz=>hR1 j a z,λz=>z.elim⟩
     subst R1e;refine⟨F'',τ1,_,S4,?_⟩;have eX:∀{c:Str},(∀F' H',Ext F H F' H' R0->E σ (ca c) none H')->∀F' H',Ext F'' H'' F' H' R0->E σ (ca c) none H':=λz F' H' e=>z F' H' (((e1.trans0 e2).trans (e3.trans0 e)).mono λ_ z=>z.elim)
     rcases hgo with ⟨bt,ht,hgo⟩|⟨bt,ht,hgo⟩|⟨c,ht,hX⟩
     .rw[ht];intro F4 H4 e4;exact K0 ⟨F4,τ1,l,Rr,(e2.trans ((e3.trans0 e4).mono λ_ z=>z)).mono λa z=>.inl z,(ro.ext e3).ext e4,S4.ext e4,hlt,hgo,by omega⟩
     .rw[ht];intro F4 H4 e4;have S5:=S4.ext e4;have e24:=e2.trans ((e3.trans0 e4).mono λ_ z=>z)
      refine KZ ⟨F4,τ1,_,S5,?_⟩
      rcases hgo with ⟨ve,he,hgo⟩|⟨c,he,hX⟩
      .rw[he];intro F5 H5 y B e5 ry;have ry':Rp K F5 H5 ve y B:=ry;have ro4:=(ro.ext e3).ext e4;have ro5:=ro4.ext e5;refine⟨F5,τ1,l++[ve],_,(e24.trans e5).mono ?_,ro5.snoc ry' (λj a z1 z2=>ro4.apart e5 z2 j z1),S5.ext e5,hlt,hgo,by simp;omega⟩
       intro a z
       rcases Th z with z|z
       .exact .inl (.inl z)
       .exact .inr z
      .rw[he];exact λF' H' e=>eX hX F' H' (e4.trans0 e)
     .rw[ht];exact eX hX
    .have hi':i=ts.length:=by omega
     subst hi';refine .inl ⟨i2 rfl,λp hp=>?_⟩
     rw[List.drop_length]at hgo;obtain⟨rl,e3⟩:=ro.list e2.fh hp;refine g0 _ _ hgo F' _ _ _ (((e1.trans0 e2).trans e3).mono ?_) rl;rintro a (z|⟨j,z⟩)
     .exact .inr z
     .exact .inl ⟨j,z⟩
structure BlkOk(X:Cx)(scope:Scope)(N':List Str)(n:Nat)(caps:List Nat):Prop where
 kind:scope.kind=.function
 names:∀y∈scope.names,y.2=.local->scope.names.lookup y.1=some .local
 len:N'.length=n+caps.length
 cap:∀(k j:Nat),caps[k]?=some j->∃y,X.N[j]?=some y/\N'[n+k]?=some y/\scope.names.lookup y=some .free/\(y,NameKind.cell)∉scope.names
 free:∀y∈scope.names,y.2=.free->scope.names.lookup y.1=some .free/\(X.env.scope.names.lookup y.1=some .cell\/X.env.scope.names.lookup y.1=some .free)
theorem QV{env:Env}(y:Str):∀(names:List (Str×NameKind)),(names.map λ(n,k)=>if (k == NameKind.free && env.scope.kind == .function && env.kindOf n == some .cell) then (n,NameKind.cell) else (n,k)).lookup y =
  (names.lookup y).map λk=>if (k == NameKind.free && env.scope.kind == .function && env.kindOf y == some .cell) then .cell else k
 |[]=>rfl
 |(n,k)::r=>by
  rw[yae];cases hy:y == n with
  |true =>
   have e:y=n:=eq_of_beq hy;subst e
   by_cases hc:(k == NameKind.free && env.scope.kind == .function && env.kindOf y == some .cell)=true
   .simp only[hc,yeo,yb2,yf3,yav]
   .simp only[hc,yb2,yf3,yav];simp
  |false =>
   by_cases hc:(k == .free && env.scope.kind == .function && env.kindOf n == some .cell)=true
   .simp only[hc,yeo,yb2,hy];exact QV y r
   .simp only[hc,yb2,hy];simp only[ycn,yep,yb2,hy];exact QV y r
theorem MD(scope:Scope)(env:Env)(y:Str):(relabel scope env).names.lookup y=(scope.names.lookup y).map λk=>if (k == NameKind.free && env.scope.kind == .function && env.kindOf y == some .cell) then .cell else k:=QV y scope.names
theorem QW{y:Str}{k:NameKind}:∀{names:List (Str×NameKind)},names.lookup y=some k->(y,k)∈names:=λh=>ybr h
theorem ZI{scope:Scope}{N':List Str}(B:BlkOk X scope N' n caps){pins:List (Addr×Obj)}{s:Shared}(I:Inv X pins σ H s) :
  ∃cl,closureFor scope X.env=pure cl/\(∀y c,cl.lookup y=some c->X.env.cells.lookup y=some c)/\(∀y,(relabel scope X.env).names.lookup y=some .cell\/(relabel scope X.env).names.lookup y=some .free->(y,NameKind.cell)∈scope.names\/∃c,cl.lookup y=some c) /\
   (∀(σ:L2.St) (i:Nat) (y:Str) (v:V),N'[i]?=some y->(ET n caps σ)[i]?=some (some v)->(y,NameKind.cell)∉scope.names) /\
   (∀σ:L2.St,σ.length=X.N.length->(ET n caps σ).length=N'.length) /\
   (∀(σ:L2.St) (i:Nat) (y:Str) (v:V),N'[i]?=some y->(ET n caps σ)[i]?=some (some v)->((relabel scope X.env).names.lookup y=some .cell\/(relabel scope X.env).names.lookup y=some .free)/\∃j:Nat,X.N[j]?=some y/\σ[j]?=some (some v)/\Dc X.env.scope y/\X.env.kindOf y≠some .local):=by
 obtain⟨cl,h1,h2,h3⟩:=zci scope X.env λy hy hf=>I.ok.has y.1 (B.free y hy hf).2
 have Kn:∀(σ:L2.St) (i:Nat) (y:Str) (v:V),N'[i]?=some y->(ET n caps σ)[i]?=some (some v)->∃j:Nat,X.N[j]?=some y/\σ[j]?=some (some v)/\scope.names.lookup y=some .free/\(y,NameKind.cell)∉scope.names:=by
  intro σ i y v e1 e2;unfold ET at e2
  by_cases hi:i<n
  .rw[yay (by simpa using hi),ydf,if_pos hi]at e2
   cases e2
  .rw[yb0 (by simp;omega),yaj]at e2
   simp only[ydr]at e2;cases hc:caps[i - n]? with
   |none=>rw[hc]at e2;cases e2
   |some j =>
    rw[hc]at e2;simp only[yav]at e2;have e':NG σ j=some v:=ya9 e2;obtain⟨y',g1,g2,g3,g4⟩:=B.cap (i - n) j hc;have en:n+(i - n)=i:=by omega
    rw[en,e1]at g2;cases g2
    have sv:σ[j]?=some (some v):=by
     unfold NG at e';split at e'
     .rename_i v' hv;cases e';exact hv
     .cases e'
    exact⟨j,g1,sv,g3,g4⟩
 refine⟨cl,h1,h2,λy hy=>?_,λσ i y v e1 e2=>?_,λσ hσ=>by simp[ET,B.len],λσ i y v e1 e2=>?_⟩
 .cases hk:scope.names.lookup y with
  |none =>
   rw[MD,hk]at hy
   rcases hy with hy|hy<;>cases hy
  |some k =>
   by_cases hf:k=.free
   .subst hf;exact .inr (h3 _ (QW hk) rfl)
   .rw[MD,hk]at hy;simp only[yav]at hy;have hf':(k == NameKind.free)=false:=beq_eq_false_iff_ne.mpr hf;simp only[hf',ybt,ycn,yep]at hy
    rcases hy with hy|hy
    .cases hy;exact .inl (QW hk)
    .cases hy;exact absurd rfl hf
 .exact(Kn σ i y v e1 e2).choose_spec.2.2.2
 .obtain⟨j,g1,sv,g3,g4⟩:=Kn σ i y v e1 e2;have fr:=B.free _ (QW g3) rfl;refine⟨?_,j,g1,sv,?_,?_⟩
  .rw[MD,g3];simp only[yav]
   by_cases hc2:(NameKind.free == NameKind.free && X.env.scope.kind == .function && X.env.kindOf y == some .cell)=true
   .exact .inl (by rw[if_pos hc2])
   .exact .inr (by rw[if_neg hc2])
  .rcases fr.2 with z|z
   .exact .inr (.inl z)
   .exact .inr (.inr z)
  .intro z;have z':X.env.scope.names.lookup y=some .local:=z
   rcases fr.2 with w|w
   .rw[z']at w;cases w
   .rw[z']at w;cases w
theorem UZ{elt iter tg:Expr}{ifs:List Expr}{scope:Scope}{pos:Pos}{N':List Str}(B:BlkOk X scope N' n caps){cq:Cx->Prop}(hc:∀pins σ H s cl C ex xb,Inv X pins σ H s->cq (Ai X scope cl N' C s H ex xb))(hi:PJ cq X tg iter (tI X.K E ca mi))
  (hps:BH X E) (hst:Gw X) (hg:∀cl C s₀ H₀ ex xb E',BH (Ai X scope cl N' C s₀ H₀ ex xb) E'->PG (Ai X scope cl N' C s₀ H₀ ex xb) tg (Dg X.K b)) (ht:∀cl C s₀ H₀ ex xb E',BH (Ai X scope cl N' C s₀ H₀ ex xb) E'->Gv (Ai X scope cl N' C s₀ H₀ ex xb) ifs (Ao X.K E' ca mt)) (he:∀cl C s₀ H₀ ex xb E',BH (Ai X scope cl N' C s₀ H₀ ex xb) E'->PE (Ai X scope cl N' C s₀ H₀ ex xb) elt (tM X.K E' ca me))
  (hs:∀x,foldedSetIterable iter X.env x=pure x):PE X (.ListComp elt [⟨tg,iter,ifs,0⟩] scope pos) (tM X.K E ca (BO n caps mi b mt me)):=by
 intro pins s σ H Q I h;obtain⟨cl,h1,h2,h3,h4,h5,h6⟩:=ZI B I;exact zmh (ET n caps) h1 B.kind B.names h2 h3 h4 h5 h6 hc hi hps hst (λcl C s₀ H₀ ex xb=>hg cl C s₀ H₀ ex xb _) (λcl C s₀ H₀ ex xb=>ht cl C s₀ H₀ ex xb _) (λcl C s₀ H₀ ex xb=>he cl C s₀ H₀ ex xb _) hs I (TV h)
theorem r_lcS{elt iter tg:Expr}{ifs:List Expr}{scope:Scope}{pos pos2 pos':Pos}{N':List Str}(B:BlkOk X scope N' n caps)(hc:X.calm=true)(hi:PI X tg iter (tI X.K E ca mi))
  (hps:BH X E) (hst:Gw X) (hg:∀cl C s₀ H₀ ex xb E',BH (Ai X scope cl N' C s₀ H₀ ex xb) E'->PG (Ai X scope cl N' C s₀ H₀ ex xb) tg (Dg X.K b)) (ht:∀cl C s₀ H₀ ex xb E',BH (Ai X scope cl N' C s₀ H₀ ex xb) E'->Gv (Ai X scope cl N' C s₀ H₀ ex xb) ifs (Ao X.K E' ca mt)) (he:∀cl C s₀ H₀ ex xb E',BH (Ai X scope cl N' C s₀ H₀ ex xb) E'->PE (Ai X scope cl N' C s₀ H₀ ex xb) elt (tM X.K E' ca me))
  (hs:∀x,foldedSetIterable iter X.env x=pure x) {i:Nat} {x:Str} (hN:X.N.Nodup) (hix:X.N[i]?=some x) (hx:X.env.scope.names.lookup x=some .local)
  (hsw:swapsWith (.ListComp elt [⟨tg,iter,ifs,0⟩] scope pos) (some (.Name x pos')) pos2.line X.env=pure true):PS X (.Assign [.Name x pos'] (.ListComp elt [⟨tg,iter,ifs,0⟩] scope pos) pos2) (λD σ H=>tM X.K E ca (BO n caps mi b mt me) σ H λv H1=>D.nx (σ.set i (some v)) H1):=by
 intro pins s σ H D I h;obtain⟨cl,h1,h2,h3,h4,h5,h6⟩:=ZI B I;exact zmi (ET n caps) h1 B.kind B.names h2 h3 h4 h5 h6 hc hi hps hst (λcl C s₀ H₀ ex xb=>hg cl C s₀ H₀ ex xb _) (λcl C s₀ H₀ ex xb=>ht cl C s₀ H₀ ex xb _) (λcl C s₀ H₀ ex xb=>he cl C s₀ H₀ ex xb _) hs hN hix hx hsw I (TV h)
end
section
variable {X:Cx}{E:L2.St->XK}{ca:Str->Value}{m mk mv:AB->Option Rs}{o k v:Expr}{pos p p2 ap cp:Pos}{K:kA}{elts:List Expr}{kk:Nat}{tpos:Pos}
end
inductive Out where
 |nx (τ:AB)|rt (t:T)|bk (τ:AB)|ct (τ:AB)|xc (c:Str) (τ:AB)
structure Stp(F H:Hp)(O:Rg)(F' H':Hp)(O':Rg):Prop where
 ff:AZ F F'
 fh:AZ F' H'
 kp:∀b u,¬ O b->H b=some u->H' b=some u
 nw:∀b,O' b->O b\/H b=none
 nf:∀b u,F' b=some u->F b=some u\/O b\/H b=none
section
variable {F H F1 H1 F2 H2:Hp}{O O1 O2 B:Rg}{R:Nat->Rg}
theorem Stp.refl(s:AZ F H):Stp F H O F H O:=⟨.refl _,s,λ_ _ _ e=>e,λ_ z=>.inl z,λ_ _ e=>.inl e⟩
theorem Stp.trans(a:Stp F H O F1 H1 O1)(b:Stp F1 H1 O1 F2 H2 O2):Stp F H O F2 H2 O2 where
 ff:=a.ff.trans b.ff
 fh:=b.fh
 kp:=λx u n e=>b.kp x u (λz=>(a.nw x z).elim n λw=>by rw[e]at w;cases w) (a.kp x u n e)
 nw:=λx z=>(b.nw x z).elim (a.nw x) λw=>by
  by_cases hO:O x
  .exact .inl hO
  .cases e:H x with
   |none=>exact .inr rfl
   |some u=>rw[a.kp x u hO e]at w;cases w
 nf:=λx u e=>(b.nf x u e).elim (a.nf x u) λz=>.inr (z.elim (a.nw x) λw=>by
  by_cases hO:O x
  .exact .inl hO
  .cases e':H x with
   |none=>exact .inr rfl
   |some u'=>rw[a.kp x u' hO e']at w;cases w)
theorem Stp.mono(a:Stp F H O F1 H1 O1)(h:∀x,O2 x->O1 x):Stp F H O F1 H1 O2:=⟨a.ff,a.fh,a.kp,λx z=>a.nw x (h x z),a.nf⟩
theorem Ext.stp(e:Ext F H F1 H1 B):Stp F H O F1 H1 (λx=>O x\/B x):=⟨e.ff,e.fh,λb u _ q=>e.hh b u q,λb z=>z.elim .inl λz=>.inr (e.nb b z),λb u q=>(e.nf b u q).elim .inl λz=>.inr (.inr z)⟩
theorem Ext.stp0(e:Ext F H F1 H1 B):Stp F H O F1 H1 O:=e.stp.mono λ_ z=>.inl z
end
section
def Wr(K:kA)(mu:Bool)(F H:Hp)(t:T)(x:V)(B:Rg):Prop:=match mu with
 |false=>Rp K F H t x B
 |true=>∃v q l,t=.own [v,.nd true (.pin q) l]/\v.flat=true/\Rp K F H v x R0/\Rp K F H (.nd true (.pin q) l) (.ref q) B
def tS(K:kA)(E:L2.St->XK)(ca:Str->Value)(mu:Bool)(m:AB->Option Out):TS:=λD σ H=>∃F τ R,StR K F H σ τ R/\match m τ with
 |some (.nx τ')=>∀F' H' σ' R',Stp F H (tot R) F' H' (tot R')->StR K F' H' σ' τ' R'->D.nx σ' H'
 |some (.bk τ')=>∀F' H' σ' R',Stp F H (tot R) F' H' (tot R')->StR K F' H' σ' τ' R'->D.bk σ' H'
 |some (.ct τ')=>∀F' H' σ' R',Stp F H (tot R) F' H' (tot R')->StR K F' H' σ' τ' R'->D.ct σ' H'
 |some (.rt t)=>∀F' H' x B,Stp F H (tot R) F' H' B->Wr K mu F' H' t x B->D.rt x H'
 |some (.xc c τ')=>∀F' H' σ' R',Stp F H (tot R) F' H' (tot R')->StR K F' H' σ' τ' R'->E σ' (ca c) none H'
 |none=>False
end
def AI(m n:AB->Option Out):AB->Option Out:=λτ=>match m τ with
 |some (.nx τ')=>n τ'
 |r=>r
def Aq:AB->Option Out:=λτ=>some (.nx τ)
def Lq:AB->Option Out:=λ_=>none
def PY:AB->Option Out:=λτ=>some (.bk τ)
def PV:AB->Option Out:=λτ=>some (.ct τ)
def Bw(m:AB->Option Rs):AB->Option Out:=λτ=>match m τ with
 |some (.v _ _)=>some (.nx τ)
 |some (.x c)=>some (.xc c τ)
 |none=>none
def A2(m:AB->Option Rs):AB->Option Out:=λτ=>match m τ with
 |some (.v t _)=>some (.rt t)
 |some (.x c)=>some (.xc c τ)
 |none=>none
def PF:AB->Option Out:=λ_=>some (.rt .non)
noncomputable def AQ(m:AB->Option Rs)(b:T->AB->Option AB):AB->Option Out:=λτ=>match m τ with
 |some (.v t false)=>(match b t.share τ with
  |some τ'=>some (.nx τ')
  |none=>none)
 |some (.v _ true)=>none
 |some (.x c)=>some (.xc c τ)
 |none=>none
noncomputable def Ct(i:Nat)(m:AB->Option Rs):AB->Option Out:=λτ=>match m τ with
 |some (.v t false)=>if i<τ.length then some (.nx (τ.set i (some t))) else none
 |some (.v _ true)=>none
 |some (.x c)=>some (.xc c τ)
 |none=>none
noncomputable def Dj(i:Nat):AB->Option Out:=λτ=>match τ[i]? with
 |some (some t)=>some (.nx (τ.set i (some t.share)))
 |_=>some (.nx τ)
def Ab(c:AB->Option Rs)(a b:AB->Option Out):AB->Option Out:=λτ=>match c τ with
 |some (.v (.bl true) _)=>a τ
 |some (.v (.bl false) _)=>b τ
 |some (.x c)=>some (.xc c τ)
 |_=>none
noncomputable def Bz(b:T->AB->Option AB)(body:AB->Option Out):List T->AB->Option Out
 |[],τ=>some (.nx τ)
 |t::ts,τ=>(match b t τ with
  |some τ1=>(match body τ1 with
   |some (.nx τ2)=>Bz b body ts τ2
   |some (.ct τ2)=>Bz b body ts τ2
   |some (.bk τ2)=>some (.nx τ2)
   |r=>r)
  |none=>none)
def EA(mi:AB->Option RsL)(b:T->AB->Option AB)(body:AB->Option Out):AB->Option Out:=λτ=>match mi τ with
 |some (.v ts _)=>Bz b body ts τ
 |some (.x c)=>some (.xc c τ)
 |none=>none
noncomputable def C4(c:AB->Option Rs)(body:AB->Option Out):Nat->AB->Option Out
 |0,_=>none
 |n+1,τ=>(match c τ with
  |some (.v (.bl true) _)=>(match body τ with
   |some (.nx τ2)=>C4 c body n τ2
   |some (.ct τ2)=>C4 c body n τ2
   |some (.bk τ2)=>some (.nx τ2)
   |r=>r)
  |some (.v (.bl false) _)=>some (.nx τ)
  |some (.x c)=>some (.xc c τ)
  |_=>none)
open Classical in
def F7(c:AB->Option Rs)(body:AB->Option Out):AB->Option Out:=λτ=>if h:∃n,(C4 c body n τ).isSome=true then C4 c body h.choose τ else none
theorem zfb{c:AB->Option Rs}{body:AB->Option Out}{τ:AB}{o:Out}(h:F7 c body τ=some o):∃n,C4 c body n τ=some o:=by
 unfold F7 at h;split at h
 .exact⟨_,h⟩
 .cases h
theorem Ni{c:AB->Option Rs}{body:AB->Option Out}:∀{n:Nat} {τ:AB} {o:Out},C4 c body n τ=some o->C4 c body (n+1) τ=some o
 |0,τ,o,h=>by cases h
 |n+1,τ,o,h=>by
  unfold C4 at h ⊢;split at h
  .split at h
   .exact Ni h
   .exact Ni h
   .exact h
   .exact h
  .exact h
  .exact h
  .cases h
theorem Sq{c:AB->Option Rs}{body:AB->Option Out}{n m:Nat}{τ:AB}{o:Out}(h:C4 c body n τ=some o)(hm:n<=m):C4 c body m τ=some o:=by
 induction hm with
 |refl=>exact h
 |step _ ih=>exact Ni ih
theorem zkn{c:AB->Option Rs}{body:AB->Option Out}{n:Nat}{τ:AB}{o:Out}(h:C4 c body n τ=some o):F7 c body τ=some o:=by
 unfold F7;have hx:∃n,(C4 c body n τ).isSome=true:=⟨n,by rw[h];rfl⟩
 rw[dif_pos hx];obtain⟨o',e⟩:=yda.mp hx.choose_spec;have e1:=Sq e (Nat.le_max_left hx.choose n);have e2:=Sq h (Nat.le_max_right hx.choose n);rw[e1]at e2;rw[e,<- e2]
section
variable {mu:Bool}{X:Cx}{E:L2.St->XK}{ca:Str->Value}{σ:L2.St}{H:Hp}{K:kA}{m mk mc:AB->Option Rs}{ms mi:AB->Option RsL}{b:T->AB->Option AB}{u w:AB->Option Out}{D:Ends}{e c tg iter:Expr}{st:Stmt}{rest body sa sb:List Stmt}{pos pos':Pos}
theorem PS.weak{t t':TS}(h:PS X st t)(w:∀D σ H,t' D σ H->t D σ H):PS X st t':=λpins s σ H D I q=>h pins s σ H D I (w D σ H q)
theorem BJ.weak{t t':TS}(h:BJ X rest t)(w:∀D σ H,t' D σ H->t D σ H):BJ X rest t':=λpins s σ H D I q=>h pins s σ H D I (w D σ H q)
theorem zk5(h:tS K E ca mu (AI u w) D σ H):TM (tS K E ca mu u) (tS K E ca mu w) D σ H:=by
 obtain⟨F,τ,R,S,q⟩:=h;refine⟨F,τ,R,S,?_⟩;unfold AI at q;cases hm:u τ with
 |none=>simp only[hm]at q
 |some o =>
  simp only[hm]at q;cases o with
  |nx τ' =>
   intro F1 H1 σ1 R1 s1 S1;refine⟨F1,τ',R1,S1,?_⟩;simp only at q;cases hw:w τ' with
   |none=>simp only[hw]at q
   |some o =>
    simp only[hw]at q;cases o with
    |nx _=>exact λF' H' σ' R' s S=>q F' H' σ' R' (s1.trans s) S
    |bk _=>exact λF' H' σ' R' s S=>q F' H' σ' R' (s1.trans s) S
    |ct _=>exact λF' H' σ' R' s S=>q F' H' σ' R' (s1.trans s) S
    |rt _=>exact λF' H' x B s r=>q F' H' x B (s1.trans s) r
    |xc _ _=>exact λF' H' σ' R' s S=>q F' H' σ' R' (s1.trans s) S
  |rt _=>exact q
  |bk _=>exact q
  |ct _=>exact q
  |xc _ _=>exact q
theorem OT:BJ X [] (tS X.K E ca mu Aq):=BJ.weak zib λD σ H h=>by
 obtain⟨F,τ,R,S,q⟩:=h;exact q F H σ R (Stp.refl S.fh) S
theorem Jm(h1:PS X st (tS X.K E ca mu u))(h2:BJ X rest (tS X.K E ca mu w)):BJ X (st::rest) (tS X.K E ca mu (AI u w)):=BJ.weak (zfx h1 h2) λD σ H h=>zk5 h
theorem Jk(h1:PS X st (tS X.K E ca mu u)):BJ X [st] (tS X.K E ca mu u):=Uk h1
theorem Tq:PS X st (tS X.K E ca mu Lq):=λpins s σ H D I h=>by
 obtain⟨_,_,_,_,q⟩:=h;exact q.elim
theorem zkk:PS X (.Pass pos) (tS X.K E ca mu Aq):=PS.weak zid λD σ H h=>by
 obtain⟨F,τ,R,S,q⟩:=h;exact q F H σ R (Stp.refl S.fh) S
theorem zhp:PS X (.Break pos) (tS X.K E ca mu PY):=PS.weak zg0 λD σ H h=>by
 obtain⟨F,τ,R,S,q⟩:=h;exact q F H σ R (Stp.refl S.fh) S
theorem zcy:PS X (.Continue pos) (tS X.K E ca mu PV):=PS.weak zcc λD σ H h=>by
 obtain⟨F,τ,R,S,q⟩:=h;exact q F H σ R (Stp.refl S.fh) S
theorem zk6{i:Nat}(h:tS K E ca mu (AI (Dj i) w) D σ H):tS K E ca mu w D σ H:=by
 obtain⟨F,τ,R,S,q⟩:=h;unfold AI Dj at q;cases ht:τ[i]? with
 |none =>
  rw[ht]at q;exact⟨F,τ,R,S,q⟩
 |some ot =>
  rw[ht]at q;cases ot with
  |none=>exact⟨F,τ,R,S,q⟩
  |some t =>
   simp only at q;obtain⟨x,ex,r⟩:=S.rep i t ht;have hi:i<τ.length:=(yac.mp ht).1;have n:∀a,R i a->F a=none:=λa z=>(r.dom z).1
   have S0:StR K (frz F H (R i)) H σ (τ.set i (some t.share)) (λj=>if j=i then R0 else R j):=by
    refine⟨JM S.fh,by simpa using S.len,λj t' e=>?_,λj a z=>?_,λj k a hjk z1 z2=>?_⟩
    .by_cases hj:j=i
     .subst hj;rw[yas hi]at e;cases e;exact⟨x,ex,by simpa using r.share (Ec n) λa u z q=>by rw[Gi z];exact q⟩
     .rw[yan (yb1 hj)]at e;obtain⟨y,e1,r1⟩:=S.rep j t' e;refine⟨y,e1,?_⟩;simp only[hj,yep]
      exact r1.frame (Ec n) λa z=>⟨rfl,by
       rw[Fp (λz'=>S.dis j i a hj z z')]
       exact(r1.dom z).1⟩
    .by_cases hj:j=i
     .simp only[hj,yeo]at z;exact z.elim
     .simp only[hj,yep]at z;obtain⟨t',e⟩:=S.out j a z;exact⟨t',by rw[yan (yb1 hj)];exact e⟩
    .by_cases hj:j=i
     .simp only[hj,yeo]at z1;exact z1.elim
     .by_cases hk:k=i
      .simp only[hk,yeo]at z2;exact z2.elim
      .simp only[hj,yep]at z1;simp only[hk,yep]at z2;exact S.dis j k a hjk z1 z2
   have st0:Stp F H (tot R) (frz F H (R i)) H (tot λj=>if j=i then R0 else R j):=by
    refine⟨Ec n,JM S.fh,λ_ _ _ e=>e,λb ⟨j,z⟩=>?_,λb u e=>?_⟩
    .by_cases hj:j=i
     .simp only[hj,yeo]at z;exact z.elim
     .simp only[hj,yep]at z;exact .inl ⟨j,z⟩
    .by_cases hb:R i b
     .exact .inr (.inl ⟨i,hb⟩)
     .rw[Fp hb]at e;exact .inl e
   refine⟨_,_,_,S0,?_⟩;cases hw:w (τ.set i (some t.share)) with
   |none=>simp only[hw]at q
   |some o =>
    simp only[hw]at q;cases o with
    |nx _=>exact λF' H' σ' R' s S=>q F' H' σ' R' (st0.trans s) S
    |bk _=>exact λF' H' σ' R' s S=>q F' H' σ' R' (st0.trans s) S
    |ct _=>exact λF' H' σ' R' s S=>q F' H' σ' R' (st0.trans s) S
    |rt _=>exact λF' H' x B s r=>q F' H' x B (st0.trans s) r
    |xc _ _=>exact λF' H' σ' R' s S=>q F' H' σ' R' (st0.trans s) S
theorem s_frz{i:Nat}(h:BJ X rest (tS X.K E ca mu w)):BJ X rest (tS X.K E ca mu (AI (Dj i) w)):=BJ.weak h λD σ H h=>zk6 h
theorem s_exp(he:PE X e (tM X.K E ca m))(hs:swapsWith e none pos.line X.env=pure false):PS X (.Expr e pos) (tS X.K E ca mu (Bw m)):=by
 refine PS.weak (Ul he hs) λD σ H h=>?_
 obtain⟨F,τ,R,S,q⟩:=h;refine⟨F,τ,R,S,?_⟩;unfold Bw at q;cases hm:m τ with
 |none=>simp only[hm]at q
 |some r =>
  simp only[hm]at q;cases r with
  |x c=>exact λF' H' e=>q F' H' σ R e.stp0 (S.ext e)
  |v t bb=>exact λF' H' x B e g=>q F' H' σ R e.stp0 (S.ext e)
theorem Li(he:PE X e (tM X.K E ca m)):PS X (.Return (some e) pos) (tS X.K E ca false (A2 m)):=by
 refine PS.weak (zl8 he) λD σ H h=>?_
 obtain⟨F,τ,R,S,q⟩:=h;refine⟨F,τ,R,S,?_⟩;unfold A2 at q;cases hm:m τ with
 |none=>simp only[hm]at q
 |some r =>
  simp only[hm]at q;cases r with
  |x c=>exact λF' H' e=>q F' H' σ R e.stp0 (S.ext e)
  |v t bb =>
   intro F' H' x B e g;cases bb with
   |false=>exact q F' H' x B (e.stp.mono λ_ z=>.inr z) g
   |true =>
    obtain⟨_,A,hA,r⟩:=g;exact q F' H' x A (e.stp.mono λa z=>.inl (hA a z)) r
theorem zkj:PS X (.Return none pos) (tS X.K E ca false PF):=PS.weak zic λD σ H h=>by
 obtain⟨F,τ,R,S,q⟩:=h;exact q F H .non R0 ((Stp.refl S.fh).mono λ_ z=>z.elim) .non
theorem Tr(hc:PT X c (Ao X.K E ca mc))(ha:BJ X sa (tS X.K E ca mu u))(hb:BJ X sb (tS X.K E ca mu w)):PS X (.If c sa sb pos) (tS X.K E ca mu (Ab mc u w)):=by
 refine PS.weak (ps_if hc ha hb) λD σ H h=>?_
 obtain⟨F,τ,R,S,q⟩:=h;refine⟨F,τ,R,S,?_⟩;unfold Ab at q;cases hm:mc τ with
 |none=>simp only[hm]at q
 |some r =>
  simp only[hm]at q;cases r with
  |x c=>exact λF' H' e=>q F' H' σ R e.stp0 (S.ext e)
  |v t bb =>
   cases t with
   |bl k =>
    intro F1 H1 e1;have S1:=S.ext e1
    have key:∀{mm:AB->Option Out},(match mm τ with
      |some (.nx τ')=>∀F' H' σ' R',Stp F H (tot R) F' H' (tot R')->StR X.K F' H' σ' τ' R'->D.nx σ' H'
      |some (.bk τ')=>∀F' H' σ' R',Stp F H (tot R) F' H' (tot R')->StR X.K F' H' σ' τ' R'->D.bk σ' H'
      |some (.ct τ')=>∀F' H' σ' R',Stp F H (tot R) F' H' (tot R')->StR X.K F' H' σ' τ' R'->D.ct σ' H'
      |some (.rt t)=>∀F' H' x B,Stp F H (tot R) F' H' B->Wr X.K mu F' H' t x B->D.rt x H'
      |some (.xc c τ')=>∀F' H' σ' R',Stp F H (tot R) F' H' (tot R')->StR X.K F' H' σ' τ' R'->E σ' (ca c) none H'
      |none=>False)->tS X.K E ca mu mm D σ H1:=λ{mm} q=>by
     refine⟨F1,τ,R,S1,?_⟩;cases hr:mm τ with
     |none=>simp only[hr]at q
     |some o =>
      simp only[hr]at q;cases o with
      |nx _=>exact λF' H' σ' R' s S=>q F' H' σ' R' (e1.stp0.trans s) S
      |bk _=>exact λF' H' σ' R' s S=>q F' H' σ' R' (e1.stp0.trans s) S
      |ct _=>exact λF' H' σ' R' s S=>q F' H' σ' R' (e1.stp0.trans s) S
      |rt _=>exact λF' H' x B s r=>q F' H' x B (e1.stp0.trans s) r
      |xc _ _=>exact λF' H' σ' R' s S=>q F' H' σ' R' (e1.stp0.trans s) S
    cases k with
    |true=>exact KZ (key q)
    |false=>exact K0 (key q)
   |_=>exact q.elim
theorem LW{g:TG}(hg:∀v σ H Q,Dg K b v σ H Q->g v σ H Q)(h:tS K E ca mu (AQ m b) D σ H):LZ (tM K E ca m) g D σ H:=by
 obtain⟨F,τ,R,S,q⟩:=h;refine⟨F,τ,R,S,?_⟩;unfold AQ at q;cases hm:m τ with
 |none=>simp only[hm]at q
 |some r =>
  simp only[hm]at q;cases r with
  |x c=>exact λF' H' e=>q F' H' σ R e.stp0 (S.ext e)
  |v t bb =>
   cases bb with
   |true=>exact q.elim
   |false =>
    intro F1 H1 x B e1 g1;obtain⟨F2,e2,_,r2⟩:=DL.frz (b:=false) S e1 g1;simp only at q;cases hb:b t.share τ with
    |none=>simp only[hb]at q
    |some τ' =>
     simp only[hb]at q;refine hg _ _ _ _ ⟨F2,τ,R,t.share,τ',S.ext e2,(show Rp K F2 F2 t.share x R0 from r2).any,hb,λσ' R' S' hR=>?_⟩
     exact q F2 H1 σ' R' (e2.stp0.mono λa ⟨i,z⟩=>⟨i,hR i a z⟩) S'
theorem Ml{i:Nat}{v:V}{Q:L2.St->Hp->Prop}(h:Dg K (AG i) v σ H Q):JL i v σ H Q:=by
 obtain⟨F,τ,R,t,τ',S,r,e,q⟩:=h;unfold AG at e;split at e
 .cases e;rename_i hl;refine q _ _ (S.set r (λ_ _ _ _ z=>z.elim) hl) λj a z=>?_
  by_cases hj:j=i
  .simp only[hj,yeo]at z;exact z.elim
  .simpa[hj] using z
 .cases e
theorem OI{i:Nat}{x:Str}(hN:X.N.Nodup)(hi:X.N[i]?=some x)(hx:FV X.env.scope x)(he:PE X e (tM X.K E ca m))(hs:swapsWith e (some (.Name x pos')) pos.line X.env=pure false)(hf:X.fn x=true\/X.env.scope.names.lookup x=some .local) :
  PS X (.Assign [.Name x pos'] e pos) (tS X.K E ca mu (AQ m (AG i))):=PS.weak (Ph hN hi hx he hs hf) λD σ H h=>LW (λ_ _ _ _ z=>Ml z) h
theorem zki(he:PE X e (tM X.K E ca m))(hg:PG X tg (Dg X.K b))(hs:swapsWithSole [tg] e pos.line X.env=pure false)(hw:swappedStores [tg] e X.env=pure none)(h1:(assignEach [tg] X.env).map (·.2)=[assign tg X.env]) :
  PS X (.Assign [tg] e pos) (tS X.K E ca mu (AQ m b)):=PS.weak (Um he hg hs hw h1) λD σ H h=>LW (λ_ _ _ _ z=>z) h
theorem TN{i:Nat}(h:tS K E ca mu (Ct i m) D σ H):LZ (tM K E ca m) (JL i) D σ H:=by
 obtain⟨F,τ,R,S,q⟩:=h;refine⟨F,τ,R,S,?_⟩;unfold Ct at q;cases hm:m τ with
 |none=>simp only[hm]at q
 |some r =>
  simp only[hm]at q;cases r with
  |x c=>exact λF' H' e=>q F' H' σ R e.stp0 (S.ext e)
  |v t bb =>
   cases bb with
   |true=>exact q.elim
   |false =>
    intro F1 H1 x B e1 g1;have g1':Rp K F1 H1 t x B:=g1;have S1:=S.ext e1
    by_cases hl:i<τ.length
    .simp only[hl,yeo]at q;refine q F1 H1 _ _ (e1.stp.mono ?_) (S1.set g1' (λj a _ z1 z2=>S.apart e1 z2 j z1) hl)
     rintro a ⟨j,z⟩
     by_cases hj:j=i
     .simp only[hj,yeo]at z;exact .inr z
     .simp only[hj,yep]at z;exact .inl ⟨j,z⟩
    .simp only[hl,yep]at q
theorem zkl{i:Nat}{x:Str}(hN:X.N.Nodup)(hi:X.N[i]?=some x)(hx:FV X.env.scope x)(he:PE X e (tM X.K E ca m))(hs:swapsWith e (some (.Name x pos')) pos.line X.env=pure false)(hf:X.fn x=true\/X.env.scope.names.lookup x=some .local) :
  PS X (.Assign [.Name x pos'] e pos) (tS X.K E ca mu (Ct i m)):=PS.weak (Ph hN hi hx he hs hf) λD σ H h=>TN h
theorem s_for(hp:PassesOwn (model X.prog X.w) X.A X.env X.xe)(hc:X.calm=true)(hi:PI X tg iter (tI X.K E ca mi))(hg:PG X tg (Dg X.K b))(hb:BJ X body (tS X.K E ca mu u))(hs:∀x,foldedSetIterable iter X.env x=pure x) :
  PS X (.For tg iter body [] pos) (tS X.K E ca mu (EA mi b u)):=by
 refine PS.weak (zl9 hp hc hi hg hb hs) λD σ H h=>?_
 obtain⟨F,τ,R,S,q⟩:=h;refine⟨F,τ,R,S,?_⟩;unfold EA at q;cases hm:mi τ with
 |none=>simp only[hm]at q
 |some r =>
  simp only[hm]at q;cases r with
  |x c=>exact λF' H' e=>q F' H' σ R e.stp0 (S.ext e)
  |v ts bb =>
   intro F1 H1 J e1 its;simp only at q;have S1:=S.ext e1;cases hg:Bz b u ts τ with
   |none=>simp only[hg]at q
   |some out =>
    simp only[hg]at q;refine⟨λi mm σ' H'=>mm=ts.length - i/\i<=ts.length/\∃F' τ' R',Stp F H (tot R) F' H' (tot R')/\AZ F1 F'/\StR X.K F' H' σ' τ' R'/\Bz b u (ts.drop i) τ'=some out,⟨ts.length,by simp,ycf _,F1,τ,R,e1.stp0,.refl _,S1,by simpa using hg⟩,?_⟩
    rintro i mm σ' H' ⟨rfl,hle,F',τ',R',st,sf,S',hgo⟩;obtain⟨i1,i2⟩:=its i F' H' sf S'.fh
    by_cases hlt:i<ts.length
    .refine .inr ⟨(i1 _ (ya5 hlt)).1,λσ2 H2=>i+1<=ts.length/\∃F2 τ2 R2,Stp F H (tot R) F2 H2 (tot R2)/\AZ F1 F2/\StR X.K F2 H2 σ2 τ2 R2/\Bz b u (ts.drop (i+1)) τ2=some out,λσ2 H2 n2=>⟨ts.length - (i+1),by omega,rfl,n2⟩,λx H'' y=>?_⟩
     obtain⟨F'',e3,rx⟩:=(i1 _ (ya5 hlt)).2 x H'' y;have S3:=S'.ext e3;rw[yce hlt]at hgo;unfold Bz at hgo;cases hb2:b ts[i] τ' with
     |none=>simp only[hb2]at hgo;cases hgo
     |some τ1 =>
      simp only[hb2]at hgo;refine⟨F'',τ',R',ts[i],τ1,S3,rx,hb2,λσ3 R3 S4 hR3=>?_⟩
      have st3:Stp F H (tot R) F'' H'' (tot R3):=(st.trans e3.stp0).mono λa ⟨j,z⟩=>⟨j,hR3 j a z⟩
      refine⟨F'',τ1,R3,S4,?_⟩;cases hu:u τ1 with
      |none=>simp only[hu]at hgo;cases hgo
      |some o =>
       simp only[hu]at hgo;cases o with
       |nx τ2=>exact λF4 H4 σ4 R4 s4 S5=>⟨hlt,F4,τ2,R4,st3.trans s4,(sf.trans e3.ff).trans s4.ff,S5,hgo⟩
       |ct τ2=>exact λF4 H4 σ4 R4 s4 S5=>⟨hlt,F4,τ2,R4,st3.trans s4,(sf.trans e3.ff).trans s4.ff,S5,hgo⟩
       |bk τ2 =>
        cases hgo;exact λF4 H4 σ4 R4 s4 S5=>q F4 H4 σ4 R4 (st3.trans s4) S5
       |rt v =>
        cases hgo;exact λF4 H4 x B s4 r=>q F4 H4 x B (st3.trans s4) r
       |xc cc τ2 =>
        cases hgo;exact λF4 H4 σ4 R4 s4 S5=>q F4 H4 σ4 R4 (st3.trans s4) S5
    .have hi':i=ts.length:=by omega
     subst hi';refine .inl ⟨i2 rfl,?_⟩;rw[List.drop_length]at hgo;unfold Bz at hgo;cases hgo;exact q F' H' σ' R' st S'
theorem s_wh(hp:PassesOwn (model X.prog X.w) X.A X.env X.xe)(hc:PT X c (Ao X.K E ca mc))(hb:BJ X body (tS X.K E ca mu u)):PS X (.While c body [] pos) (tS X.K E ca mu (F7 mc u)):=by
 refine PS.weak (zfy hp hc hb) λD σ H h=>?_
 obtain⟨F,τ,R,S,q⟩:=h;cases hw:F7 mc u τ with
 |none=>simp only[hw]at q
 |some out =>
  simp only[hw]at q;obtain⟨n,hn⟩:=zfb hw;refine⟨λmm σ' H'=>∃F' τ' R',Stp F H (tot R) F' H' (tot R')/\StR X.K F' H' σ' τ' R'/\C4 mc u mm τ'=some out,⟨n,F,τ,R,Stp.refl S.fh,S,hn⟩,?_⟩
  rintro mm σ' H' ⟨F',τ',R',st,S',hgo⟩;cases mm with
  |zero=>cases hgo
  |succ mm =>
   refine⟨F',τ',R',S',?_⟩;unfold C4 at hgo;cases hm:mc τ' with
   |none=>simp only[hm]at hgo;cases hgo
   |some r =>
    simp only[hm]at hgo;cases r with
    |x cc =>
     cases hgo;exact λF2 H2 e2=>q F2 H2 σ' R' (st.trans e2.stp0) (S'.ext e2)
    |v t bb =>
     cases t with
     |bl k =>
      intro F2 H2 e2;have S2:=S'.ext e2;have st2:Stp F H (tot R) F2 H2 (tot R'):=st.trans e2.stp0;cases k with
      |false =>
       cases hgo;exact K0 (q F2 H2 σ' R' st2 S2)
      |true =>
       simp only at hgo;refine KZ ⟨λσ2 H2=>∃F2 τ2 R2,Stp F H (tot R) F2 H2 (tot R2)/\StR X.K F2 H2 σ2 τ2 R2/\C4 mc u mm τ2=some out,λσ3 H3 n3=>⟨mm,yc5 _,n3⟩,F2,τ',R',S2,?_⟩
       cases hu:u τ' with
       |none=>simp only[hu]at hgo;cases hgo
       |some o =>
        simp only[hu]at hgo;cases o with
        |nx τ2=>exact λF4 H4 σ4 R4 s4 S5=>⟨F4,τ2,R4,st2.trans s4,S5,hgo⟩
        |ct τ2=>exact λF4 H4 σ4 R4 s4 S5=>⟨F4,τ2,R4,st2.trans s4,S5,hgo⟩
        |bk τ2 =>
         cases hgo;exact λF4 H4 σ4 R4 s4 S5=>q F4 H4 σ4 R4 (st2.trans s4) S5
        |rt v =>
         cases hgo;exact λF4 H4 x B s4 r=>q F4 H4 x B (st2.trans s4) r
        |xc cc τ2 =>
         cases hgo;exact λF4 H4 σ4 R4 s4 S5=>q F4 H4 σ4 R4 (st2.trans s4) S5
     |_=>cases hgo
end
section
variable {K:kA}{F H:Hp}{l:List T}{xs:List V}{Rr:Nat->Rg}{p:Addr}{o:HO}
theorem Rp.own_inv{x:V}{A:Rg}{k:Kd}(h:Rp K F H (.nd true k l) x A):∃p xs Rr,x=.ref p/\A=(λa=>a=p\/∃j,Rr j a)/\F p=none/\H p=some (.lst xs)/\RpO K F H l xs Rr/\(∀j,¬ Rr j p)/\LC k p:=by
 cases h with
 |own hk R f h e c d dp o=>exact⟨_,_,R,rfl,rfl,f,h,⟨e,c,d,o⟩,dp,hk⟩
theorem zln{k:Kd}(hk:LC k p)(r:RpO K F H l xs Rr)(f:F p=none)(h:H p=some (.lst xs))(dp:∀j,¬ Rr j p):Rp K F H (.nd true k l) (.ref p) (λa=>a=p\/∃j,Rr j a):=.own hk Rr f h r.len r.rep r.dis dp r.out
theorem RpO.upd(r:RpO K F H l xs Rr)(dp:∀j,¬ Rr j p):RpO K F (L2.upd H p o) l xs Rr:=⟨r.len,λi t x h1 h2=>(r.rep i t x h1 h2).frame (.refl _) λa z=>⟨Ak (λe=>dp i (e▸z)),(r.dom z).1⟩,r.dis,r.out⟩
theorem Rp.upd{t:T}{x:V}{A:Rg}(r:Rp K F H t x A)(dp:¬ A p):Rp K F (L2.upd H p o) t x A:=r.frame (.refl _) λa z=>⟨Ak (λe=>dp (e▸z)),(r.dom z).1⟩
theorem RpO.set(r:RpO K F H l xs Rr){j0:Nat}{t:T}{y:V}{B:Rg}(hj:j0<l.length)(rt:Rp K F H t y B)(d:∀j a,j≠j0->Rr j a->¬ B a):RpO K F H (l.set j0 t) (xs.set j0 y) (λj=>if j=j0 then B else Rr j):=by
 have hl:=r.len;refine⟨by simp[hl],λi t' x' h1 h2=>?_,λi k a hik z1 z2=>?_,λi a z=>?_⟩
 .by_cases hi:i=j0
  .subst hi;rw[yas hj]at h1;rw[yas (by omega)]at h2
   cases h1;cases h2
   simpa using rt
  .rw[yan (yb1 hi)]at h1 h2
   simpa[hi] using r.rep i t' x' h1 h2
 .by_cases hi:i=j0
  .simp only[hi,yeo]at z1;have hk:¬ k=j0:=λz=>hik (hi.trans z.symm)
   simp only[hk,yep]at z2;exact d k a hk z2 z1
  .simp only[hi,yep]at z1
   by_cases hk:k=j0
   .simp only[hk,yeo]at z2;exact d i a hi z1 z2
   .simp only[hk,yep]at z2;exact r.dis i k a hik z1 z2
 .by_cases hi:i=j0
  .simp[hi];omega
  .simp only[hi,yep]at z
   simpa using r.out i a z
variable {σ:L2.St}{τ:AB}{R:Nat->Rg}
theorem StR.upd(S:StR K F H σ τ R){i:Nat}{t t':T}{x:V}{A' B:Rg}(ht:τ[i]?=some (some t))(hx:σ[i]?=some (some x))(hp:R i p)(r':Rp K F (L2.upd H p o) t' x A')(hA:∀a,A' a->R i a\/B a)(hB:∀j a,R j a->¬ B a) :
  StR K F (L2.upd H p o) σ (τ.set i (some t')) (λj=>if j=i then A' else R j)/\Stp F H (λa=>Pu.tot R a\/B a) F (L2.upd H p o) (Pu.tot λj=>if j=i then A' else R j):=by
 have fp:F p=none:=(S.dom hp).1;have hi:i<τ.length:=(yac.mp ht).1
 have fh':AZ F (L2.upd H p o):=λb u e=>by
  rw[Ak (λz=>by rw[z,fp]at e;cases e)]
  exact S.fh b u e
 refine⟨⟨fh',by simpa using S.len,λj t1 e=>?_,λj a z=>?_,λj k a hjk z1 z2=>?_⟩,⟨.refl _,fh',λb u n e=>?_,λb ⟨j,z⟩=>?_,λb u e=>.inl e⟩⟩
 .by_cases hj:j=i
  .subst hj;rw[yas hi]at e;cases e;exact⟨x,hx,by simpa using r'⟩
  .rw[yan (yb1 hj)]at e;obtain⟨y,e1,r1⟩:=S.rep j t1 e;exact⟨y,e1,by simpa[hj] using r1.upd (o:=o) (λz=>S.dis j i p hj z hp)⟩
 .by_cases hj:j=i
  .subst hj;exact⟨t',yas hi⟩
  .simp only[hj,yep]at z;obtain⟨t1,e⟩:=S.out j a z;exact⟨t1,by rw[yan (yb1 hj)];exact e⟩
 .by_cases hj:j=i
  .simp only[hj,yeo]at z1;have hk:¬ k=i:=λz=>hjk (hj.trans z.symm)
   simp only[hk,yep]at z2
   rcases hA a z1 with w|w
   .exact S.dis i k a (yb1 hk) w z2
   .exact hB k a z2 w
  .simp only[hj,yep]at z1
   by_cases hk:k=i
   .simp only[hk,yeo]at z2
    rcases hA a z2 with w|w
    .exact S.dis i j a (yb1 hj) w z1
    .exact hB j a z1 w
   .simp only[hk,yep]at z2;exact S.dis j k a hjk z1 z2
 .rw[Ak (λz=>n (.inl (by rw[z];exact⟨i,hp⟩)))]
  exact e
 .by_cases hj:j=i
  .simp only[hj,yeo]at z
   rcases hA b z with w|w
   .exact .inl (.inl ⟨i,w⟩)
   .exact .inl (.inr w)
  .simp only[hj,yep]at z;exact .inl (.inl ⟨j,z⟩)
end
def Ip(τ:AB)(i:Nat):Option (Kd×List T):=match τ[i]? with
 |some (some (.nd true k l))=>some (k,l)
 |_=>none
theorem zd1{τ:AB}{i:Nat}{k:Kd}{l:List T}(h:Ip τ i=some (k,l)):τ[i]?=some (some (.nd true k l)):=by
 unfold Ip at h;split at h
 .rename_i k' l' e;cases h;exact e
 .cases h
def Bx(i:Nat)(m:AB->Option Rs):AB->Option Out:=λτ=>match Ip τ i with
 |some (kd,l)=>(match m τ with
  |some (.v t false)=>if l.length<AY then some (.nx (τ.set i (some (.nd true kd (l++[t]))))) else none
  |some (.v _ true)=>none
  |some (.x c)=>some (.xc c τ)
  |none=>none)
 |none=>none
section
variable {mu:Bool}{X:Cx}{E:L2.St->XK}{ca:Str->Value}{σ:L2.St}{H:Hp}{K:kA}{m mk mn:AB->Option Rs}{D:Ends}{e k n:Expr}{pos apos cpos p1 pos2 pos3:Pos}{i:Nat}{x:Str}
theorem zjm{F:Hp}{R:Nat->Rg}{j:Int}{b:Bool}{y:V}{B:Rg}(g:DL K F H R (.int j) b y B):y=.int j:=by
 cases b with
 |true=>obtain⟨_,A,_,r⟩:=g;exact r.int_inv
 |false=>exact(show Rp K F H _ _ _ from g).int_inv
theorem Tg{l:List T}{Rr:Nat->Rg}{B:Rg}{a:Addr}(h:∃j,(λj=>if j=l.length then B else Rr j) j a):(∃j,Rr j a)\/B a:=Th (l:=l) h
theorem s_app(hN:X.N[i]?=some x)(hv:Dc X.env.scope x)(hd:(x == ("__debug__":Str))=false)(hcd:(x == ("__classdict__":Str))=false)(he:PE X e (tM X.K E ca m))(hs:starEach [e] X.env=[(false,eval e X.env)])(hline:(apos.endLine == cpos.line)=true) :
  PS X (.Expr (.Call (.Attribute (.Name x p1) "append" apos) [e] [] cpos) pos) (tS X.K E ca mu (Bx i m)):=by
 refine PS.weak (Ul (Io PySem.F.plainAttrs_list PySem.F.slot_list_append PySem.F.type_list_append ze3 (Jz hN hv hd hcd) (Cj he DU hs) rfl (by rw[hs];rfl) hline hs rfl) rfl) λD σ H h=>?_
 obtain⟨F,τ,R,S,q⟩:=h;unfold Bx at q;cases ho:Ip τ i with
 |none=>simp only[ho]at q
 |some kl =>
  obtain⟨kd,l⟩:=kl;simp only[ho]at q;have ht:=zd1 ho;obtain⟨y,ey,ry⟩:=S.rep i _ ht;obtain⟨p,xs,Rr,rfl,hA,fp,hp,ro,dp,hOw⟩:=ry.own_inv;refine⟨_,ey,.inl ⟨rfl,xs,Ac.of hp⟩,F,τ,R,S,?_⟩;cases hm:m τ with
  |none=>simp only[hm]at q
  |some r =>
   simp only[hm]at q;cases r with
   |x c=>exact λF' H' e=>q F' H' σ R e.stp0 (S.ext e)
   |v t bb =>
    cases bb with
    |true=>exact q.elim
    |false =>
     intro F1 H1 y B e1 g1;have g1':Rp X.K F1 H1 t y B:=g1
     by_cases hz:l.length<AY
     .simp only[hz,yeo]at q;have S1:=S.ext e1;have ro1:=ro.ext e1;have hp1:=e1.hh _ _ hp;have pB:¬ B p:=λz=>by rw[e1.nb p z]at hp;cases hp
      have fp1:F1 p=none:=(ry.ext e1 |>.dom (by rw[hA];exact .inl rfl)).1
      refine⟨p,xs,y,rfl,rfl,hp1,by rw[<- ro.len,<- Dq];exact hz,?_⟩
      have ro2:RpO X.K F1 (upd H1 p (.lst (xs++[y]))) (l++[t]) (xs++[y]) _:=(ro1.upd dp).snoc (g1'.upd pB) λj a z1 z2=>ro.apart e1 z2 j z1
      have dp2:∀j,¬ (if j=l.length then B else Rr j) p:=λj z=>by
       by_cases hj:j=l.length
       .simp only[hj,yeo]at z;exact pB z
       .simp only[hj,yep]at z;exact dp j z
      have r2:=zln hOw ro2 fp1 Bq dp2
      obtain⟨S3,st3⟩:=S1.upd ht ey (by rw[hA];exact .inl rfl) r2 (B:=B) (λa z=>by
       rw[hA]
       rcases z with z|z
       .exact .inl (.inl z)
       .rcases Tg z with w|w
        .exact .inl (.inr w)
        .exact .inr w) (λj a z1 z2=>S.apart e1 z2 j z1)
      exact q F1 _ σ _ (e1.stp.trans st3) S3
     .simp only[hz,yep]at q
end
section
variable {X:Cx}{E:L2.St->XK}{ca:Str->Value}{σ:L2.St}{H F:Hp}{K:kA}{m mk:AB->Option Rs}{ms:AB->Option RsL}{D:Ends}{e:Expr}{es:List Expr}{pos apos cpos p1 p2:Pos}{i j:Nat}{x y:Str}{τ:AB}{R:Nat->Rg}{mu:Bool}
inductive Mo where
 |ok (v:T) (τ:AB)|exc (c:Str) (τ:AB)
def Jh(K:kA)(ca:Str->Value)(g:List T->Option Ru):Sp:=λvs H Q E=>∃F p l ts A vs',AZ F H/\vs=.ref p::vs'/\Rp K F H (.nd true (.pin p) l) (.ref p) A/\Ag K F ts vs'/\match g (.nd true (.pin p) l::ts) with
 |some (.ok t)=>∀F' H' x B,Stp F H A F' H' B->Wr K true F' H' t x B->Q x H'
 |some (.exc c)=>∀F' H',Stp F H A F' H' R0->E (ca c) none H'
 |none=>False
variable {mm:AB->Option Mo}
end
abbrev HW(A:Around):Around:={ A with handled:=none }
def Rb(P:Program)(w:World)(K:kA)(mg:Str->Option Value)(base:Heap)(N:List Str)(qual:Str)(scope:Scope)(f:Addr)(cd:Value)(A:Around)(outer:List Env)(s:Shared)(H:Hp):Cx :=
 { ES IG P w K mg base N qual scope f cd (HW A) outer s H E0 with A:=A.deeper (envOfC qual scope s.heap.objs.size f cd),calm:=false,xe:=λ_ _=>False }
structure FnS(P:Program)(w:World)(K:kA)(mg:Str->Option Value)(base:Heap)(k:Nat)(f:Addr)(fd:FuncData)(p:Str)(sp:Sp):Prop where
 run:∀(A:Around) (outer:List Env) (s:Shared) (H:Hp) (args:Args) (a:Addr) (Q:VK),A.handled=some (.ref a)->(∃C,EW H a C)->Room k (HW A)->Env0 P w K mg base A outer s H->BindsTo s fd args [(p,.ref a)]->sp [.ref a] H Q E0 ->
  codeAny (model P w) A (.call (.ref f) args) (CR IG outer P w H s Q E0) s
theorem fnS{P:Program}{w:World}{K:kA}{mg:Str->Option Value}{base:Heap}{k:Nat}{f:Addr}{x qual:Str}{st:Stmt}{fd:FuncData}{N:List Str}{p:Str}{sp:Sp}(F:FunD K x qual st f fd)(S:FnScope N [p] (AL st))
  (hbody : ∀ (cdv : Value) (A : Around) (outer : List Env) (s : Shared) (H : Hp) (a : Addr) (Q : VK), A.handled = some (.ref a) -> (∃ C, EW H a C) -> Room k (HW (A.deeper (envOfC qual (AL st) s.heap.objs.size f cdv))) -> sp [.ref a] H Q E0 ->
   ∃t,BJ (Rb P w K mg base N qual (AL st) f cdv A outer s H) (Ah st) t/\t { nx:=λ_ H'=>Q .non H',rt:=Q } (start N [.ref a]) H):FnS P w K mg base (k+1) f fd p sp:=by
 obtain⟨oc,od,dV,kV,doc,pm,an,cdv,ct,osl,rfl,lk,hcd⟩:=F.ex;refine⟨λA outer s H args a Q hh hX hr e0 hb hsp=>?_⟩
 have KX:K.In s.heap:=e0.mod.kin.keeps λb o e=>(e0.bs b o e).1
 have AY:s.heap.NoLimit:=e0.mod.nolimit.keeps λb o e=>(e0.bs b o e).1
 have hkind:∀y∈[p].zip [Value.ref a],(AL st).names.lookup y.1=some .local\/((AL st).names.lookup y.1=some .cell/\((cellsFrom (s.heap.objs.size+1) (AL st).names []).lookup y.1).isSome=true):=λ⟨n,v⟩ hy=>by
  rcases S.par n (ydu hy).1 with q|q
  .exact .inl q
  .exact .inr ⟨q,ydj _ _ _ (.inl q)⟩
 refine codeAny_call_function hr.depth (KX _ _ lk) rfl S.co S.gen rfl (PySem.W.codeRec_of KX hcd) (hb _ _ _ _ ?_);refine wpAny_newFunctionEnv_cells S.kind hkind λenv he s1 y=>?_
 subst he;refine⟨AY.keeps y.toInCall.keep,codeAny_func ?_⟩;obtain⟨t,ht,hq⟩:=hbody cdv A outer s H a Q hh hX (hr.deeper _) hsp;have e1:Env0 P w K mg base (HW A) outer s H:=⟨e0.frames,e0.mod,e0.bs,e0.bsz,e0.funs,e0.frf,e0.hok,e0.bare⟩;have I0:Inv (ES IG P w K mg base N qual (AL st) f cdv (HW A) outer s H E0) [] (start N [.ref a]) H s1:=XT (us:=[.ref a]) S hr.hd e1 rfl (.cons rfl .nil) y
 have I:Inv (Rb P w K mg base N qual (AL st) f cdv A outer s H) [] (start N [.ref a]) H s1 :=
  ⟨⟨I0.ok.mod,I0.ok.kind,I0.ok.glob,I0.ok.blt,I0.ok.above,I0.ok.inj,I0.ok.has,I0.ok.cab,λz=>Bool.noConfusion z,Around.frames_deeper e0.frames,I0.ok.stk,I0.ok.exf,I0.ok.bs,I0.ok.bsz,I0.ok.noex,I0.ok.exfs,I0.ok.funs,I0.ok.frf⟩,I0.os,I0.bare,I0.base,I0.loc,I0.cell,I0.free,I0.freeC,I0.pin,I0.hok,I0.len⟩
 refine yed (ht [] s1 (start N [.ref a]) H _ I hq) (λfl s' hs=>?_) λe s' hs=>False.elim hs
 have Al:∀{σ':L2.St} {H':Hp} {v:V} {u:Value},Inv (Rb P w K mg base N qual (AL st) f cdv A outer s H) [] σ' H' s'->RelV v u->Q v H'->CE outer P w H s Q u s' :=
  λ{σ' H' v u} J rv q=>⟨v,H',J.os,J.bare,J.base,J.hok,rv,q⟩
 cases fl with
 |ret u =>
  obtain⟨v,σ',H',J,rv,q⟩:=hs;exact Al J rv q
 |next =>
  obtain⟨σ',H',J,q⟩:=hs;exact Al (v:=V.non) (u:=Value.none) J rfl q
 |brk =>
  obtain⟨_,_,_,q⟩:=hs;exact False.elim q
 |cont =>
  obtain⟨_,_,_,q⟩:=hs;exact False.elim q
structure DefS(P:Program)(w:World)(K:kA)(mg:Str->Option Value)(base:Heap)(k:Nat)(x p:Str)(sp:Sp) where
 f:Addr
 fd:FuncData
 ok:FnS P w K mg base k f fd p sp
 m:mg x=some (.ref f)
 kp:PySem.W.keepIn K (.ref f)=true
 b:Cq K fd [p] []
theorem px_s{X:Cx}{j k i:Nat}{a:Addr}{x y p:Str}{sp:Sp}{q q2 pos:Pos}(D:DefS X.prog X.w X.K X.mg X.base k x p sp)(hr:Room j (HW X.A))(hh:X.A.handled=some (.ref a))(hk:k<=j)(hv:PE X (.Name y q2) (LV i))(hg:Gl X x)(hdb:(x == ("__debug__":Str))=false) :
  PE X (.Call (.Name x q) [.Name y q2] [] pos) (λσ H Q=>σ[i]?=some (some (.ref a))/\(∃C,EW H a C)/\sp [.ref a] H Q E0):=by
 intro pins s σ H Q I h;obtain⟨h1,h2,h3⟩:=h;refine yem (JB I hg D.m ?_ hdb);refine ydz (h₀:=X.base) I.ok.mod.kin D.kp (AS ((Cj hv DU:PA X [.Name y q2] _) pos pins s σ H (λvs H1=>vs=[V.ref a]/\H1=H) I ⟨_,h1,rfl,rfl⟩) λus s1 ⟨vs,H1,I1,r,e1,e2⟩=>⟨I1.kIn,?_⟩) rfl rfl
 subst e1 e2;obtain⟨u,rfl,ru⟩:=DP r;cases ru;refine yew (yes (D.ok.run X.A X.stack s1 H1 ⟨_,[]⟩ a Q hh h2 (hr.mono hk) I1.env0 (D.b s1 [.ref a] I1.kIn rfl) h3) λr s' hq=>?_)
 cases r with
 |error v=>exact False.elim hq
 |ok fl =>
  cases fl with
  |ret u=>exact I1.after hq
  |_=>exact False.elim hq
section
variable {X:Cx}{pins:List (Addr×Obj)}{σ:L2.St}{H:Hp}{s:Shared}{a:Addr}{kvs:List (Key×V)}
end
section
variable {X:Cx}
def tDicO:TE:=λ_ H Q=>∀p,H p=none->Q (.ref p) (upd H p (.dK []))
theorem zik{pos:Pos}:PE X (.Dict [] [] pos) tDicO:=λpins s σ H Q I h=>by
 refine wpAny_Dict_empty ⟨.ref s.heap.objs.size,_,I.laid (a:=s.heap.objs.size) (o:=.dK []) (t':=s.toks) (λ_ _ q=>ya8 _ q) (yaf _) (zgv s.heap I.big),rfl,h _ (I.hok.fresh (yaf _))⟩
end
section
variable {X:Cx}{E:L2.St->XK}{ca:Str->Value}{m mk mv:AB->Option Rs}{e k:Expr}{pos p1 pos2:Pos}{mu:Bool}
end
section
variable {X:Cx}{E:L2.St->XK}{ca:Str->Value}{m mk:AB->Option Rs}{e k:Expr}{pos p1 pos2:Pos}{mu:Bool}{i:Nat}{x:Str}
end
theorem StR.frz{K:kA}{F H:Hp}{σ:L2.St}{τ:AB}{R:Nat->Rg}{i:Nat}{t:T}(S:StR K F H σ τ R)(ht:τ[i]?=some (some t)):StR K (Pu.frz F H (R i)) H σ (τ.set i (some t.share)) (λj=>if j=i then R0 else R j):=by
 obtain⟨x,ex,r⟩:=S.rep i t ht;have hi:i<τ.length:=(yac.mp ht).1;have n:∀a,R i a->F a=none:=λa z=>(r.dom z).1
 refine⟨JM S.fh,by simpa using S.len,λj t' e=>?_,λj a z=>?_,λj k a hjk z1 z2=>?_⟩
 .by_cases hj:j=i
  .subst hj;rw[yas hi]at e;cases e;exact⟨x,ex,by simpa using r.share (Ec n) λa u z q=>by rw[Gi z];exact q⟩
  .rw[yan (yb1 hj)]at e;obtain⟨y,e1,r1⟩:=S.rep j t' e;refine⟨y,e1,?_⟩;simp only[hj,yep]
   exact r1.frame (Ec n) λa z=>⟨rfl,by
    rw[Fp (λz'=>S.dis j i a hj z z')]
    exact(r1.dom z).1⟩
 .by_cases hj:j=i
  .simp only[hj,yeo]at z;exact z.elim
  .simp only[hj,yep]at z;obtain⟨t',e⟩:=S.out j a z;exact⟨t',by rw[yan (yb1 hj)];exact e⟩
 .by_cases hj:j=i
  .simp only[hj,yeo]at z1;exact z1.elim
  .by_cases hk:k=i
   .simp only[hk,yeo]at z2;exact z2.elim
   .simp only[hj,yep]at z1;simp only[hk,yep]at z2;exact S.dis j k a hjk z1 z2
section
variable {X:Cx}{E:L2.St->XK}{ca:Str->Value}{σ:L2.St}{H:Hp}{K:kA}{u w:AB->Option Out}{D:Ends}
end
theorem Wj{fs:List Str}{xs:List V}{f:Str}:∀{j:Nat} {x:V},fs.findIdx? (· == f)=some j->xs[j]?=some x->(fs.zip xs).lookup f=some x:=by
 induction fs generalizing xs with
 |nil=>intro j x h;simp at h
 |cons g r ih =>
  intro j x h hx;rw[List.findIdx?_cons]at h;cases xs with
  |nil=>simp at hx
  |cons y ys =>
   rw[ye0,yb2]
   by_cases hg:g=f
   .subst hg;simp only[yf3,yeo,ycd]at h;subst h;simp at hx;rw[yf3,hx]
   .have h1:(g == f)=false:=beq_eq_false_iff_ne.mpr hg;have h2:(f == g)=false:=beq_eq_false_iff_ne.mpr (yb1 hg);rw[h1]at h;simp only[ycn,yep,ya4]at h;obtain⟨j',h3,rfl⟩:=h;rw[h2];exact ih h3 (by simpa using hx)
theorem Rp.obj_inv{K:kA}{F H:Hp}{k:Ob}{l:List T}{x:V}{A:Rg}(h:Rp K F H (.obj k l) x A):∃p xs,x=.ref p/\A=R0/\LD F k p xs/\l.length=xs.length/\∀(i:Nat) (t:T) (x:V),l[i]?=some t->xs[i]?=some x->Rp K F H t x R0:=by
 cases h with
 |obj h e c=>exact⟨_,_,rfl,rfl,h,e,c⟩
noncomputable def K1(C:Addr)(fs:List Str):T->Option (List T)
 |.obj (.ins C' fs') l=>if C'=C/\fs'=fs then some l else none
 |_=>none
theorem zea{C:Addr}{fs:List Str}{t:T}{l:List T}(h:K1 C fs t=some l):t=.obj (.ins C fs) l:=by
 unfold K1 at h;split at h
 .split at h
  .rename_i hc;cases h;rw[hc.1,hc.2]
  .cases h
 .cases h
def Dn(C:Addr)(fs:List Str)(j:Nat)(m:AB->Option Rs):AB->Option Rs:=λτ=>match m τ with
 |some (.v t b)=>(match K1 C fs t with
  |some l=>(match l[j]? with
   |some u=>some (.v u (b && !u.sh))
   |none=>none)
  |none=>none)
 |some (.x c)=>some (.x c)
 |none=>none
def Ax(m n:AB->Option Rs):AB->Option Rs:=λτ=>match m τ with
 |some r=>some r
 |none=>n τ
section
variable {X:Cx}{E:L2.St->XK}{ca:Str->Value}{m n:AB->Option Rs}{ms:AB->Option RsL}{e o:Expr}{es:List Expr}{pos p apos:Pos}{C:Addr}{fs:List Str}{f:Str}{j:Nat}
theorem U9(h1:PE X e (tM X.K E ca m))(h2:PE X e (tM X.K E ca n)):PE X e (tM X.K E ca (Ax m n)):=λpins s σ H Q I h=>by
 obtain⟨F,τ,R,S,q⟩:=h;unfold Ax at q;cases hm:m τ with
 |none =>
  rw[hm]at q;exact h2 pins s σ H Q I ⟨F,τ,R,S,q⟩
 |some r =>
  rw[hm]at q;exact h1 pins s σ H Q I ⟨F,τ,R,S,by rw[hm];exact q⟩
theorem zjl{K:kA}{F H:Hp}{R:Nat->Rg}{k:Ob}{l:List T}{b:Bool}{x:V}{B:Rg}(g:DL K F H R (.obj k l) b x B):Rp K F H (.obj k l) x R0/\B=R0:=by
 cases b with
 |true =>
  obtain⟨hB,A,_,r⟩:=g;obtain⟨p,xs,rfl,hA,_⟩:=r.obj_inv;exact⟨hA▸r,hB⟩
 |false =>
  have r:Rp K F H (.obj k l) x B:=g;obtain⟨p,xs,rfl,hA,_⟩:=r.obj_inv;exact⟨hA▸r,hA⟩
theorem r_fld(c:Cls X.K C)(hn:BM X.K C f)(hj:fs.findIdx? (· == f)=some j)(ho:PE X o (tM X.K E ca m))(hb:attributeBase o f X.env (eval o X.env)=eval o X.env):PE X (.Attribute o f pos) (tM X.K E ca (Dn C fs j m)):=by
 refine PE.weak (Uz ho hb) λσ H Q h=>?_
 obtain⟨F,τ,R,S,q⟩:=h;refine⟨F,τ,R,S,?_⟩;unfold Dn at q;cases hm:m τ with
 |none=>simp only[hm]at q
 |some r =>
  simp only[hm]at q;cases r with
  |x c=>exact q
  |v t b =>
   intro F1 H1 x B e1 g1;cases hi:K1 C fs t with
   |none=>simp only[hi]at q
   |some l =>
    simp only[hi]at q;have ht:=zea hi;subst ht;cases hu:l[j]? with
    |none=>simp only[hu]at q
    |some u =>
     simp only[hu]at q;obtain⟨r1,hB⟩:=zjl g1;subst hB;obtain⟨a,xs,rfl,_,⟨dx,hF⟩,el,cc⟩:=r1.obj_inv;have hjl:=(yac.mp hu).1;have hx:xs[j]?=some xs[j]:=ya5 (by omega)
     have hc:=cc j u _ hu hx;refine⟨a,_,dx,_,xs[j],rfl,e1.fh _ _ hF,c,hn,Wj hj hx,?_⟩;refine q F1 H1 _ R0 e1 ?_;cases b with
     |false=>exact hc
     |true =>
      cases hs:u.sh with
      |true=>exact hc
      |false=>exact⟨rfl,R0,λ_ z=>z.elim,hc⟩
structure MetX(P:Program)(w:World)(K:kA)(mg:Str->Option Value)(base:Heap)(C:Addr)(m:Str)(k:Nat)(ps:List Str)(sp:Sp) where
 f:Addr
 fd:FuncData
 c:Cls K C
 me:Meth K C m f
 ok:FnOk P w K mg base (Bk P w) k f fd ps sp
 b:Cq K fd ps []
structure NewX(P:Program)(w:World)(K:kA)(mg:Str->Option Value)(base:Heap)(x:Str)(C:Addr)(k:Nat)(ps:List Str)(sp:Sp) where
 f:Addr
 fd:FuncData
 m:mg x=some (.ref C)
 ma:Mk K C f
 ok:FnOk P w K mg base (Bk P w) k f fd ps sp
def zk8(C:Addr)(sp:Sp)(dvs:List V)(E:L2.St->XK)(t:TA):TE:=λσ H Q=>t σ H λvs H1=>∀x dx,H1 x=none->H1 dx=none->dx≠x ->
 sp (.ref x::(vs++dvs)) (upd (upd H1 dx (.own x)) x (.ins C dx [])) (λv H2=>v=.non/\Q (.ref x) H2) (E σ)
theorem pnx{k j:Nat}{x:Str}{ps:List Str}{sp:Sp}{t:TA}{dvs:List V}{ds:List Value}(D:NewX X.prog X.w X.K X.mg X.base x C k ps sp)(hb:Cq X.K D.fd ps ds)(hd:A9 dvs ds)(hr:Room j X.A)(hx:BH X E)(ha:PA X (e::es) t)(hk:k+1<=j)(hg:Gl X x)(hdb:(x == ("__debug__":Str))=false)
  (he:starEach (e::es) X.env=(false,eval e X.env)::starEach es X.env) (hpl:(backTo pos (starEach es X.env)).any (·.1)=false):PE X (.Call (.Name x p) (e::es) [] pos) (zk8 C sp dvs E t):=by
 intro pins s σ H Q I h;refine yem (JB I hg D.m ?_ hdb);refine ydz (h₀:=X.base) I.ok.mod.kin D.ma.kp (AS (ha pos pins s σ H _ I h) λus s1 ⟨vs,H1,I1,r,q⟩=>⟨I1.kIn,?_⟩) he hpl
 have hq:=q (s1.heap.objs.size+1) s1.heap.objs.size (I1.hok.fresh (ybw _)) (I1.hok.fresh (yaf _)) (yau (yc5 _));have I2:=Inv.made (C:=C) I1;have r2:A9 (V.ref (s1.heap.objs.size+1)::(vs++dvs)) (Value.ref (s1.heap.objs.size+1)::(us++ds)):=.cons rfl (r.append hd)
 have hl:(Value.ref (s1.heap.objs.size+1)::us++ds).length=ps.length:=by
  have e:=r2.length;rw[D.ok.len _ _ _ _ hq]at e;exact e.symm
 refine yew (zgf (f:=D.f) I1.kIn D.ma.makes D.ma.init (beq_iff_eq.mp D.ma.fn) (yes (D.ok.run _ X.stack _ _ ⟨Value.ref (s1.heap.objs.size+1)::us,[]⟩ (Value.ref (s1.heap.objs.size+1)::(us++ds)) _ _ (E σ) ((hr.mono hk).make C us [])
  (I2.env0.make C us []) (hb _ (Value.ref (s1.heap.objs.size+1)::us) I2.kIn hl) r2 hq) λr s' hq'=>?_))
 cases r with
 |error v=>exact hx pins σ _ _ v s' I2 hq'
 |ok fl =>
  cases fl with
  |ret u =>
   obtain⟨v,H',I3,rv,ev,q3⟩:=I2.after hq';subst ev;exact⟨rv,⟨V.ref (s1.heap.objs.size+1),H',I3,rfl,q3⟩⟩
  |next=>exact False.elim hq'
  |brk=>exact False.elim hq'
  |cont=>exact False.elim hq'
def DQ(K:kA)(ca:Str->Value)(C:Addr)(g:List T->Option Ru):Sp:=λvs H Q E=>∃F p dx ts vs',AZ F H/\vs=.ref p::vs'/\F p=none/\H p=some (.ins C dx [])/\Ag K F ts vs'/\match g ts with
 |some (.ok t)=>∀F' H',Stp F H (λa=>a=p) F' H' R0->Rp K F' H' t (.ref p) R0->Q .non H'
 |some (.exc c)=>∀F' H',Stp F H (λa=>a=p) F' H' R0->E (ca c) none H'
 |none=>False
noncomputable def E7(g:List T->Option Ru)(ds:List T)(ms:AB->Option RsL):AB->Option Rs:=λτ=>match ms τ with
 |some (.v ts false)=>(match g (ts++ds) with
  |some (.ok t)=>some (.v t false)
  |some (.exc c)=>some (.x c)
  |none=>none)
 |some (.v _ true)=>none
 |some (.x c)=>some (.x c)
 |none=>none
theorem r_new{k j:Nat}{x:Str}{ps:List Str}{g:List T->Option Ru}{dvs:List V}{dts:List T}{ds:List Value}(D:NewX X.prog X.w X.K X.mg X.base x C k ps (DQ X.K ca C g))(hb:Cq X.K D.fd ps ds)(hd:A9 dvs ds)(hdt:∀F:Hp,Ag X.K F dts dvs)(hr:Room j X.A)(hx:BH X E)(ha:PA X (e::es) (CD X.K E ca ms))(hk:k+1<=j)(hg:Gl X x)(hdb:(x == ("__debug__":Str))=false)
  (he:starEach (e::es) X.env=(false,eval e X.env)::starEach es X.env) (hpl:(backTo pos (starEach es X.env)).any (·.1)=false):PE X (.Call (.Name x p) (e::es) [] pos) (tM X.K E ca (E7 g dts ms)):=by
 refine PE.weak (pnx D hb hd hr hx ha hk hg hdb he hpl) λσ H Q h=>?_
 obtain⟨F,τ,R,S,q⟩:=h;refine⟨F,τ,R,S,?_⟩;unfold E7 at q;cases hs:ms τ with
 |none=>simp only[hs]at q
 |some r =>
  simp only[hs]at q;cases r with
  |x c=>exact q
  |v ts b =>
   cases b with
   |true=>exact λF1 H1 xs e1 rs=>q.elim
   |false =>
    intro F1 H1 xs e1 rs a dx ha hdx hne;simp only at q;have rs':Ag X.K F1 ts xs:=rs
    have key:∀F' H',Stp F1 (upd (upd H1 dx (.own a)) a (.ins C dx [])) (λb=>b=a) F' H' R0->Ext F H F' H' R0:=λF' H' st=>by
     refine e1.trans0 ⟨λb u z=>?_,st.ff,st.fh,λ_ z=>z.elim,λb u z=>?_⟩
     .have h1:b≠a:=Bf z ha;have h2:b≠dx:=Bf z hdx;exact st.kp b u h1 (by rw[Ak h1,Ak h2];exact z)
     .rcases st.nf b u z with w|w|w
      .exact .inl w
      .rw[w];exact .inr ha
      .by_cases h1:b=a
       .rw[h1];exact .inr ha
       .by_cases h2:b=dx
        .rw[h2];exact .inr hdx
        .rw[Ak h1,Ak h2]at w;exact .inr w
    have fh2:AZ F1 (upd (upd H1 dx (.own a)) a (.ins C dx [])):=λb u z=>by
     have z':=e1.fh b u z;rw[Ak (Bf z' ha),Ak (Bf z' hdx)];exact z'
    refine⟨F1,a,dx,ts++dts,xs++dvs,fh2,rfl,G3 e1.fh ha,Bq,Lz rs' (hdt F1),?_⟩;cases hg:g (ts++dts) with
    |none=>simp only[hg]at q
    |some r =>
     simp only[hg]at q;cases r with
     |exc c=>exact λF' H' st=>q F' H' (key F' H' st)
     |ok t=>exact λF' H' st r=>⟨rfl,q F' H' _ R0 (key F' H' st) r⟩
end
noncomputable def Ff(τ:AB)(i:Nat)(C:Addr)(fs:List Str):Option (Addr×List T):=match τ[i]? with
 |some (some (.oob p C' fs' l))=>if C'=C/\fs'=fs then some (p,l) else none
 |_=>none
theorem Pm{τ:AB}{i:Nat}{C:Addr}{fs:List Str}{p:Addr}{l:List T}(h:Ff τ i C fs=some (p,l)):τ[i]?=some (some (.oob p C fs l)):=by
 unfold Ff at h;split at h
 .rename_i q;split at h
  .rename_i hc;cases h;rw[q,hc.1,hc.2]
  .cases h
 .cases h
def CF(C:Addr)(fs:List Str)(j i:Nat)(m:AB->Option Rs):AB->Option Out:=λτ=>match m τ with
 |some (.v t false)=>(match Ff τ i C fs with
  |some (p,l)=>if l.length=j then some (.nx (τ.set i (some (.oob p C fs (l++[t]))))) else none
  |none=>none)
 |some (.v _ true)=>none
 |some (.x c)=>some (.xc c τ)
 |none=>none
def KC:Option T->Option (List Str×List T)
 |some (.osd ks l)=>some (ks,l)
 |_=>none
theorem zd2{o:Option T}{ks:List Str}{l:List T}(h:KC o=some (ks,l)):o=some (.osd ks l):=by
 unfold KC at h;split at h
 .cases h;rfl
 .cases h
open Classical in
def Jp(C:Addr)(fs:List Str)(j i:Nat)(mk m:AB->Option Rs):AB->Option Out:=λτ=>match m τ with
 |some (.v t false)=>(match Ff τ i C fs with
  |some (p,l)=>(match KC l[j]? with
   |some (ks,lv)=>(match mk τ with
    |some (.v (.str k) _)=>if k∉ks/\ks.length<100000 then some (.nx (τ.set i (some (.oob p C fs (l.set j (.osd (ks++[k]) (lv++[t.share]))))))) else none
    |some (.v _ _)=>none
    |some (.x c)=>some (.xc c τ)
    |none=>none)
   |none=>none)
  |none=>none)
 |some (.v _ true)=>none
 |some (.x c)=>some (.xc c τ)
 |none=>none
def Md:AB->Option Rs:=λ_=>some (.v (.osd [] []) false)
theorem Ui{f:Str}{y:V}:∀{fs:List Str} {xs:List V},fs[xs.length]?=some f->(fs.take xs.length).contains f=false->C7 f y (fs.zip xs)=fs.zip (xs++[y])
 |[],xs,h,_=>by simp at h
 |g::r,[],h,_=>by
  simp at h;subst h;simp[C7]
 |g::r,x::xs,h,hn=>by
  rw[ya6,ybk,List.contains_cons,ybe]at hn
  have hg:¬ g=f:=λz=>by
   have:=hn.1;rw[z,yf3]at this;cases this
  have ih:=Ui (f:=f) (y:=y) (fs:=r) (xs:=xs) (by simpa using h) hn.2
  rw[ye0,ydn,ye0,<- ih];show(if g=f then _ else _)=_
  rw[if_neg hg]
section
variable {K:kA}{F H:Hp}{C:Addr}{fs:List Str}{l:List T}
theorem Rp.oob_inv{p:Addr}{x:V}{A:Rg}(h:Rp K F H (.oob p C fs l) x A):∃dx xs Rr,x=.ref p/\A=(λa=>a=p\/∃j,Rr j a)/\F p=none/\H p=some (.ins C dx (fs.zip xs))/\RpO K F H l xs Rr/\∀j,¬ Rr j p:=by
 cases h with
 |oob R f h e c d dp o=>exact⟨_,_,R,rfl,rfl,f,h,⟨e,c,d,o⟩,dp⟩
theorem VL{p dx:Addr}{xs:List V}{Rr:Nat->Rg}(r:RpO K F H l xs Rr)(f:F p=none)(h:H p=some (.ins C dx (fs.zip xs)))(dp:∀j,¬ Rr j p):Rp K F H (.oob p C fs l) (.ref p) (λa=>a=p\/∃j,Rr j a):=.oob Rr f h r.len r.rep r.dis dp r.out
theorem Rp.osd_inv{ks:List Str}{x:V}{A:Rg}(h:Rp K F H (.osd ks l) x A):∃p xs,x=.ref p/\A=(λa=>a=p)/\F p=none/\H p=some (.dK (Dr ks xs))/\l.length=xs.length/\ks.length=xs.length/\∀(i:Nat) (t:T) (x:V),l[i]?=some t->xs[i]?=some x->Rp K F H t x R0:=by
 cases h with
 |osd f h e ek c=>exact⟨_,_,rfl,rfl,f,h,e,ek,c⟩
end
theorem zjd{ks:List Str}{xs:List V}(h:ks.length=xs.length):(Dr ks xs).length=xs.length:=by
 unfold Dr;rw[List.length_zipWith,h,Nat.min_self]
theorem zje{ks:List Str}{xs:List V}{kv:Key×V}(h:kv∈Dr ks xs):∃k∈ks,kv.1=Sum.inr k:=by
 induction ks generalizing xs with
 |nil=>cases xs<;>cases h
 |cons a r ih =>
  cases xs with
  |nil=>cases h
  |cons b s =>
   unfold Dr at h;rw[List.zipWith_cons_cons]at h
   rcases yad.mp h with e|e
   .exact⟨a,ya3 ..,by rw[e]⟩
   .obtain⟨k,hk,e⟩:=ih (xs:=s) e;exact⟨k,ya0 _ hk,e⟩
theorem zfv{ks:List Str}{xs:List V}{k:Str}{y:V}(h:ks.length=xs.length)(hk:k∉ks):DS (Dr ks xs) (Sum.inr k) y=Dr (ks++[k]) (xs++[y]):=by
 unfold DS;rw[if_neg]
 .unfold Dr;rw[List.zipWith_append h]
  rfl
 .intro c;obtain⟨kv,h1,h2⟩:=ye7.mp c;obtain⟨k',h3,h4⟩:=zje h1;have:=yf5 h2;rw[h4]at this;cases this;exact hk h3
section
variable {X:Cx}{E:L2.St->XK}{ca:Str->Value}{m mk:AB->Option Rs}{e k:Expr}{pos p1 pos2 pos3:Pos}{mu:Bool}{i j:Nat}{x f:Str}{C:Addr}{fs:List Str}
theorem zl0:PE X (.Dict [] [] pos) (tM X.K E ca Md):=PE.weak zik λσ H Q h p hp=>by
 obtain⟨F,τ,R,S,q⟩:=h;exact q F (upd H p (.dK [])) (.ref p) _ (Ext.newO S.fh hp) (Rp.osd (ks:=[]) (xs:=[]) (l:=[]) (G3 S.fh hp) Bq rfl rfl λi t x h=>by simp at h)
theorem Ts(c:Cls X.K C)(hn:BM X.K C f)(hj:fs[j]?=some f)(hnf:(fs.take j).contains f=false)(hjl:j<900)(hN:X.N[i]?=some x)(hv:Dc X.env.scope x)(hd:(x == ("__debug__":Str))=false)(hcd:(x == ("__classdict__":Str))=false)(he:PE X e (tM X.K E ca m))
  (hs:swapsWith e (some (.Attribute (.Name x p1) f pos2)) pos.line X.env=pure false):PS X (.Assign [.Attribute (.Name x p1) f pos2] e pos) (tS X.K E ca mu (CF C fs j i m)):=by
 refine PS.weak (zla (Jz hN hv hd hcd) he hs) λD σ H h=>?_
 obtain⟨F,τ,R,S,q⟩:=h;refine⟨F,τ,R,S,?_⟩;unfold CF at q;cases hm:m τ with
 |none=>simp only[hm]at q
 |some r =>
  simp only[hm]at q;cases r with
  |x c=>exact λF' H' e=>q F' H' σ R e.stp0 (S.ext e)
  |v t bb =>
   cases bb with
   |true=>exact λF1 H1 y B e1 g1=>q.elim
   |false =>
    intro F1 H1 y B e1 g1;have g1':Rp X.K F1 H1 t y B:=g1;simp only at q;cases ho:Ff τ i C fs with
    |none=>simp only[ho]at q
    |some pl =>
     obtain⟨p,l⟩:=pl;simp only[ho]at q
     by_cases hl:l.length=j
     .rw[if_pos hl]at q;have S1:=S.ext e1;have ht:=Pm ho;obtain⟨y2,ey,ry⟩:=S.rep i _ ht;obtain⟨dx,xs,Rr,rfl,hA,fp,hp,ro,dp⟩:=ry.oob_inv;have hxs:xs.length=j:=by rw[<- ro.len];exact hl
      have hp1:=e1.hh _ _ hp;have pB:¬ B p:=λz=>by rw[e1.nb p z]at hp;cases hp
      have fp1:F1 p=none:=(ry.ext e1 |>.dom (by rw[hA];exact .inl rfl)).1
      refine⟨_,ey,p,C,dx,fs.zip xs,rfl,hp1,c,hn,?_,?_⟩
      .rw[List.length_zip]
       omega
      .rw[Ui (by rw[hxs];exact hj) (by rw[hxs];exact hnf)]
       have ro1:=ro.ext e1;have ro2:RpO X.K F1 (upd H1 p (.ins C dx (fs.zip (xs++[y])))) (l++[t]) (xs++[y]) _:=(ro1.upd dp).snoc (g1'.upd pB) λj a z1 z2=>ro.apart e1 z2 j z1
       have dp2:∀j,¬ (if j=l.length then B else Rr j) p:=λj z=>by
        by_cases hj:j=l.length
        .simp only[hj,yeo]at z;exact pB z
        .simp only[hj,yep]at z;exact dp j z
       have r2:=VL (C:=C) (fs:=fs) ro2 fp1 Bq dp2
       obtain⟨S3,st3⟩:=S1.upd ht ey (by rw[hA];exact .inl rfl) r2 (B:=B) (λa z=>by
        rw[hA]
        rcases z with z|z
        .exact .inl (.inl z)
        .rcases Tg z with w|w
         .exact .inl (.inr w)
         .exact .inr w) (λj a z1 z2=>S.apart e1 z2 j z1)
       exact q F1 _ σ _ (e1.stp.trans st3) S3
     .rw[if_neg hl]at q;exact q.elim
def rSetS:NV:=λo i v H Q=>∃p kvs k,o=.ref p/\i=.str k/\H p=some (.dK kvs)/\kvs.length<sizeLine/\Q (upd H p (.dK (DS kvs (Sum.inr k) v)))
theorem zf4(hu:X.A.units+1<cLine):Z1 X rSetS:=by
 intro pins s σ H o i v ov iv u Q I ro ri rv h;obtain⟨p,kvs,k,rfl,rfl,hp,hl,q⟩:=h;cases ro;exact zef hu I (Ng.k (k:=Sum.inr k) hp hl) (show L2.RelV (kV (Sum.inr k)) iv from ri) rv λs' I'=>⟨_,I',q⟩
theorem FG{K:kA}{F H:Hp}{R:Nat->Rg}{z:Str}{b:Bool}{y:V}{B:Rg}(g:DL K F H R (.str z) b y B):y=.str z:=by
 cases b with
 |true=>obtain⟨_,A,_,r⟩:=g;exact r.str_inv
 |false=>exact(show Rp K F H _ _ _ from g).str_inv
theorem s_dpf(hu:X.A.units+1<cLine)(c:Cls X.K C)(hn:BM X.K C f)(hj:fs.findIdx? (· == f)=some j)(hN:X.N[i]?=some x)(hv:Dc X.env.scope x)(hd:(x == ("__debug__":Str))=false)(hcd:(x == ("__classdict__":Str))=false)(he:PE X e (tM X.K E ca m))(hk:PE X k (tM X.K E ca mk))
  (hs:swapsWithSole [.Subscript (.Attribute (.Name x p1) f pos3) k pos2] e pos.line X.env=pure false) (hw:swappedStores [.Subscript (.Attribute (.Name x p1) f pos3) k pos2] e X.env=pure none)
  (ha : ∀ v, assign (.Subscript (.Attribute (.Name x p1) f pos3) k pos2) X.env v = (do
   let ov <- holding [v] (eval (.Attribute (.Name x p1) f pos3) X.env);let iv <- holding [v,ov] (eval k X.env)
   standAt pos2
   holding [v,ov,iv] (setItem ov iv v)
   release [v,ov,iv] [])) :
  PS X (.Assign [.Subscript (.Attribute (.Name x p1) f pos3) k pos2] e pos) (tS X.K E ca mu (Jp C fs j i mk m)):=by
 refine PS.weak (Um he (zlg (Uz (Jz hN hv hd hcd) rfl) hk (zf4 hu) ha) hs hw rfl) λD σ H h=>?_
 obtain⟨F,τ,R,S,q⟩:=h;refine⟨F,τ,R,S,?_⟩;unfold Jp at q;cases hm:m τ with
 |none=>simp only[hm]at q
 |some r =>
  simp only[hm]at q;cases r with
  |x c=>exact λF' H' e=>q F' H' σ R e.stp0 (S.ext e)
  |v t bb =>
   cases bb with
   |true=>exact λF1 H1 y B e1 g1=>q.elim
   |false =>
    intro F0 H1 y B e0 g0;simp only at q;obtain⟨F1,e1,_,g1⟩:=DL.frz (b:=false) S e0 g0;have g1':Rp X.K F1 H1 t.share y R0:=(show Rp X.K F1 F1 t.share y R0 from g1).any;cases ho:Ff τ i C fs with
    |none=>simp only[ho]at q
    |some pl =>
     obtain⟨p,l⟩:=pl;simp only[ho]at q;cases hos:KC l[j]? with
     |none=>simp only[hos]at q
     |some kl =>
      obtain⟨ks,lv⟩:=kl;simp only[hos]at q;have hlj:=zd2 hos;have S1:=S.ext e1;have ht:=Pm ho;obtain⟨y2,ey,ry⟩:=S1.rep i _ ht;obtain⟨dx,xs,Rr,rfl,hA,fp,hp,ro,dp⟩:=ry.oob_inv;have hjl:=(yac.mp hlj).1;have hjx:j<xs.length:=by rw[<- ro.len];exact hjl
      have hx:xs[j]?=some xs[j]:=ya5 hjx;refine⟨_,ey,p,C,dx,_,xs[j],rfl,hp,c,hn,Wj hj hx,F1,τ,R,S1,?_⟩;cases hkk:mk τ with
      |none=>simp only[hkk]at q
      |some r =>
       simp only[hkk]at q;cases r with
       |x c=>exact λF' H' e=>q F' H' σ R ((e1.stp0).trans e.stp0) (S1.ext e)
       |v tk bk =>
        cases tk with
        |str kk =>
         simp only at q
         by_cases hc:kk∉ks/\ks.length<100000
         .rw[if_pos hc]at q;intro F2 H2 z CC e2 g2;have hz:=FG g2;subst hz;have e2':Ext F1 H1 F2 H2 R0:=e2.mono λ_ z=>z.elim
          have S2:=S1.ext e2;have ry2:=ry.ext e2;have ro2:=ro.ext e2;have fp2:F2 p=none:=(ry2.dom (by rw[hA];exact .inl rfl)).1
          have hp2:=e2.hh _ _ hp;have rk:=ro2.rep j _ _ hlj hx;obtain⟨pd,ys,exj,hAd,fpd,hpd,el,ek,cc⟩:=rk.osd_inv;have g2':Rp X.K F2 H2 t.share y R0:=g1'.ext e2;have pdj:Rr j pd:=by rw[hAd]
          have pne:pd≠p:=λz=>dp j (z▸pdj)
          refine⟨pd,Dr ks ys,kk,exj,rfl,hpd,?_,?_⟩
          .rw[zjd ek,<- ek,yel];exact yd9 hc.2 (by decide)
          .rw[zfv ek hc.1]
           have r3:Rp X.K F2 (upd H2 pd (.dK (Dr (ks++[kk]) (ys++[y])))) (.osd (ks++[kk]) (lv++[t.share])) (.ref pd) (λa=>a=pd):=by
            refine .osd fpd Bq (by simp[el]) (by simp[ek]) λj t' x' h1 h2=>?_
            rcases Nat.lt_or_ge j lv.length with w|w
            .rw[yay w]at h1;rw[yay (by omega)]at h2
             exact(cc j t' x' h1 h2).any
            .rw[yb0 w]at h1;rw[yb0 (by omega)]at h2
             have hj:j - lv.length=0:=by
              have:=(yac.mp h1).1;simp at this
              omega
             have hj2:j - ys.length=0:=by omega
             rw[hj]at h1;rw[hj2]at h2;simp at h1 h2;subst h1 h2;exact g2'.any
           have oth:∀k,k≠j->¬ Rr k pd:=λk hk z=>ro2.dis k j pd hk z pdj
           have ro3:RpO X.K F2 (upd H2 pd (.dK (Dr (ks++[kk]) (ys++[y])))) (l.set j (.osd (ks++[kk]) (lv++[t.share]))) xs Rr:=by
            refine⟨by rw[yd5];exact ro2.len,λk t' x' h1 h2=>?_,ro2.dis,λk a z=>by rw[yd5];exact ro2.out k a z⟩
            by_cases hk:k=j
            .subst hk;rw[yas hjl]at h1;rw[hx]at h2;cases h1;cases h2;rw[exj,hAd];exact r3
            .rw[yan (yb1 hk)]at h1;exact(ro2.rep k t' x' h1 h2).upd (oth k hk)
           have r4:=VL (C:=C) (fs:=fs) (p:=p) (dx:=dx) ro3 fp2 (by rw[Ak (yb1 pne)];exact hp2) dp
           obtain⟨S3,st3⟩:=S2.upd ht ey (p:=pd) (by rw[hA];exact .inr ⟨j,pdj⟩) r4 (B:=R0) (λa z=>.inl (by rw[hA];exact z)) (λj a z1 z2=>z2)
           exact q F2 _ σ _ ((e1.stp.trans e2.stp0).trans st3) S3
         .rw[if_neg hc]at q;exact q.elim
        |_=>exact λF' H' z CC e2 g2=>q.elim
end
section
variable {X:Cx}{E:L2.St->XK}{ca:Str->Value}{ma mb mc:AB->Option Rs}{a b c:Expr}{pos:Pos}{x:Str}{t:T}
theorem r_con{v:V}{u:Value}(hg:Gl X x)(hm:X.mg x=some u)(rv:RelV v u)(hd:(x == ("__debug__":Str))=false)(r:∀F:Hp,Rp X.K F F t v R0):PE X (.Name x pos) (tM X.K E ca (mC t)) :=
 PE.weak (Pk hg hm rv hd) λσ H Q h=>by
  obtain⟨F,τ,R,S,q⟩:=h;exact q F H v R0 (Ext.refl S.fh) (r F).any
def E8(g g':T->T->Option T)(ma mb mc:AB->Option Rs):AB->Option Rs:=λτ=>match ma τ,mb τ with
 |some (.v t _),some (.v u _)=>if t.flat && u.flat then (match g t u with
  |some (.bl true)=>(match mc τ with
   |some (.v w _)=>if w.flat then (match g' u w with
    |some (.bl k)=>some (.v (.bl k) false)
    |_=>none) else none
   |_=>none)
  |some (.bl false)=>some (.v (.bl false) false)
  |_=>none) else none
 |_,_=>none
theorem JK{K:kA}{F H F' H':Hp}{R:Nat->Rg}{v:T}{b:Bool}{x:V}{B:Rg}(g:DL K F H R v b x B)(h:v.flat=true):Rp K F' H' v x R0:=by
 cases b with
 |true=>obtain⟨_,A,_,r⟩:=g;exact r.flat_any h
 |false=>exact(show Rp K F H v x B from g).flat_any h
theorem TZ{g g':T->T->Option T}{σ:L2.St}{H:Hp}{Q:VK}(h:tM X.K E ca (E8 g g' ma mb mc) σ H Q):Ny (B5 X.K g) (B5 X.K g') (tM X.K E ca ma) (tM X.K E ca mb) (tM X.K E ca mc) σ H Q:=by
 obtain⟨F,τ,R,S,q⟩:=h;refine⟨F,τ,R,S,?_⟩;unfold E8 at q;cases h1:ma τ with
 |none=>simp only[h1]at q
 |some r1 =>
  cases r1 with
  |x c=>simp only[h1]at q
  |v t b1 =>
   cases h2:mb τ with
   |none=>simp only[h1,h2]at q
   |some r2 =>
    cases r2 with
    |x c=>simp only[h1,h2]at q
    |v u b2 =>
     simp only[h1,h2]at q
     by_cases hf:(t.flat && u.flat)=true
     .rw[if_pos hf]at q;rw[ya2]at hf;intro F1 H1 x B1 e1 g1;have S1:=S.ext e1;refine⟨F1,τ,R,S1,?_⟩;rw[h2];intro F2 H2 y B2 e2 g2;have S2:=S1.ext e2;have e12:Ext F H F2 H2 R0:=(e1.trans e2).mono λ_ z=>z.elim
      cases hg:g t u with
      |none=>simp only[hg]at q
      |some k =>
       cases k with
       |bl k =>
        cases k with
        |false =>
         simp only[hg]at q;refine⟨F2,t,u,_,S2.fh,JK g1 hf.1,JK g2 hf.2,hg,λF3 H3 z C3 e3 r3=>⟨false,r3.bl_inv,?_⟩⟩
         rw[if_neg yb9];exact q F3 H3 _ R0 (e12.trans0 (e3.mono λ_ z=>z.elim)) (.bl false)
        |true =>
         simp only[hg]at q;refine⟨F2,t,u,_,S2.fh,JK g1 hf.1,JK g2 hf.2,hg,λF3 H3 z C3 e3 r3=>⟨true,r3.bl_inv,?_⟩⟩
         rw[if_pos rfl];have S3:=S2.ext e3;refine⟨F3,τ,R,S3,?_⟩;cases h3:mc τ with
         |none=>simp only[h3]at q
         |some r3 =>
          cases r3 with
          |x c=>simp only[h3]at q
          |v w b3 =>
           simp only[h3]at q
           by_cases hw:w.flat=true
           .rw[if_pos hw]at q;intro F4 H4 z4 B4 e4 g4;have S4:=S3.ext e4;cases hg':g' u w with
            |none=>simp only[hg']at q
            |some k =>
             cases k with
             |bl k =>
              simp only[hg']at q;refine⟨F4,u,w,_,S4.fh,JK g2 hf.2,JK g4 hw,hg',λF5 H5 z5 C5 e5 r5=>?_⟩
              rw[r5.bl_inv];exact q F5 H5 _ R0 (e12.trans0 (((e3.trans e4).trans e5).mono λ_ z=>z.elim)) (.bl k)
             |_=>simp only[hg']at q
           .rw[if_neg hw]at q;exact q.elim
       |_=>simp only[hg]at q
     .rw[if_neg hf]at q;exact q.elim
theorem r_chn{op op':CmpOp}{g g':T->T->Option T}(ho:Ad X (compareOp op) (B5 X.K g))(ho':Ad X (compareOp op') (B5 X.K g'))(ha:PE X a (tM X.K E ca ma))(hb:PE X b (tM X.K E ca mb))(hc:PE X c (tM X.K E ca mc))(hm:lastMarks [op,op'] [b,c]=false) :
  PE X (.Compare a [op,op'] [b,c] pos) (tM X.K E ca (E8 g g' ma mb mc)):=PE.weak (zg4 ho ho' ha hb hc hm) λσ H Q h=>TZ h
theorem zkw{op op':CmpOp}{g g':T->T->Option T}(ho:Ad X (compareOp op) (B5 X.K g))(ho':Ad X (compareOp op') (B5 X.K g'))(ha:PE X a (tM X.K E ca ma))(hb:PE X b (tM X.K E ca mb))(hc:PE X c (tM X.K E ca mc))(hm:lastMarks [op,op'] [b,c]=false) :
  PT X (.Compare a [op,op'] [b,c] pos) (Ao X.K E ca (E8 g g' ma mb mc)):=PT.weak (zfw ho ho' ha hb hc hm) λσ H Q h=>TZ (LX h)
end
def Nf(x:Str):It:=⟨λi _=>i<x.cps.size,λi H y H'=>H'=H/\∃c,x.cps[i]?=some c/\y=.str ⟨#[c]⟩,λi _=>x.cps.size<=i⟩
theorem zey{P:Program}{w:World}{K:kA}{tg:Expr}(x:Str)(t:Tok)(it:Addr):Turn P w K tg (Nf x) [it] it (λi h=>h.IsStrIter it (strIterType x) x t i) where
 mem:=by simp
 obj:=λi h st b hb=>by
  have e:b=it:=by simpa using hb
  subst e;obtain⟨o,e,c,d⟩:=st;exact⟨o,e,λv z=>by rw[d]at z;cases z⟩
 keep:=λi h h' st k=>by
  obtain⟨o,e,c,d⟩:=st;exact⟨o,k it (by simp) o e,c,d⟩
 item:=by
  intro X hP hw hK hc i pins s σ H E I hf st hg;subst hP hw hK;have hi:i<x.cps.size:=hg;obtain⟨f0,f1,f2,f3,f4,f5⟩:=hf it (by simp)
  have Al:∀(h':Heap),h'.IsStrIter it (strIterType x) x t (i+1)->Heap.SameBut it s.heap h'->∃u,some (Value.str ⟨#[x.cps[i]]⟩ s.toks)=some u /\
   wpAny (model X.prog X.w) X.A (letOwnedTupleGo tg (.ref it) u) (λ_ s2=>∃y H',Inv X pins σ H' s2/\RelV y u/\(Nf x).yld i H y H'/\s2.heap.IsStrIter it (strIterType x) x t (i+1)/\∀b∈[it],H' b=none) E { s with heap:=h',toks:=s.toks+1 }:=λh' st' sb=>by
   have I1:Inv X pins σ H { s with heap:=h',toks:=s.toks+1 }:=I.turned (t':=s.toks+1) (λb o hb e=>(sb.2 b hb).trans e) f0 f1 f3 f4 f5
   obtain⟨o,e,c,d⟩:=id st';refine⟨_,rfl,K5 (s:={ s with heap:=h',toks:=s.toks+1 }) e c d ?_ ⟨.str ⟨#[x.cps[i]]⟩,H,I1,⟨_,rfl⟩,⟨rfl,_,yd6 hi,rfl⟩,st',λb hb=>(hf b hb).1⟩⟩
   unfold strIterType;split<;>decide
  cases ha:(x.cps.all λx=>decide (x<128)) with
  |true =>
   have e:strIterType x="str_ascii_iterator":=by unfold strIterType;rw[ha];rfl
   rw[e]at st Al ⊢;exact wpAny_pyNext_ascii_item st (yd6 hi) Al
  |false =>
   have e:strIterType x="str_iterator":=by unfold strIterType;rw[ha];rfl
   rw[e]at st Al ⊢;exact wpAny_pyNext_wide_item st (yd6 hi) Al
 done:=by
  intro X hP hw hK hc i pins s σ H E I hf st hg;subst hP hw hK;have hi:x.cps.size<=i:=hg;obtain⟨f0,f1,f2,f3,f4,f5⟩:=hf it (by simp)
  have n:x.cps[i]?=none:=Array.getElem?_eq_none hi;cases ha:(x.cps.all λx=>decide (x<128)) with
  |true =>
   have e:strIterType x="str_ascii_iterator":=by unfold strIterType;rw[ha];rfl
   rw[e]at st;exact wpAny_pyNext_ascii_end (I.ok.hd hc) st n λh' eb=>⟨rfl,I.turned (t':=s.toks) (λb o hb e=>eb b o hb e) f0 f1 f3 f4 f5⟩
  |false =>
   have e:strIterType x="str_iterator":=by unfold strIterType;rw[ha];rfl
   rw[e]at st;exact wpAny_pyNext_wide_end (I.ok.hd hc) st n λh' eb=>⟨rfl,I.turned (t':=s.toks) (λb o hb e=>eb b o hb e) f0 f1 f3 f4 f5⟩
 self:=λ_ i s Q E st h=>by
  cases ha:(x.cps.all λx=>decide (x<128)) with
  |true =>
   have e:strIterType x="str_ascii_iterator":=by unfold strIterType;rw[ha];rfl
   rw[e]at st;exact wpAny_pyIter_striter_ascii st h
  |false =>
   have e:strIterType x="str_iterator":=by unfold strIterType;rw[ha];rfl
   rw[e]at st;exact wpAny_pyIter_striter_wide st h
def iStrT(tl:TE):TI:=λσ H P=>tl σ H λx H1=>∃y,x=.str y/\P (Nf y) H1
section
variable {X:Cx}{tg l e:Expr}{tl:TE}{E:L2.St->XK}{ca:Str->Value}{m:AB->Option Rs}
theorem zle(hl:PE X l tl):PI X tg l (iStrT tl):=by
 intro pins s σ H R I h;refine AS (hl pins s σ H _ I h) λv s1 ⟨x,H1,I1,r1,q1⟩=>?_
 obtain⟨y,rfl,q⟩:=q1;obtain⟨t,rfl⟩:=(show ∃t,v=Value.str y t from r1);refine wpAny_pyIter_strU ?_;refine⟨s1.heap.objs.size,[s1.heap.objs.size],_,_,H1,rfl,I1.kept (t':=s1.toks) λb o e=>ya8 _ e,zey y t _,⟨_,yao _ rfl,rfl,rfl⟩,λb hb=>?_,q⟩
 have e:b=s1.heap.objs.size:=by simpa using hb
 subst e;exact I1.fpOk (yaf _) (I1.hok.fresh (yaf _))
def CP(x:Str):List T:=x.cps.toList.map λc=>.str ⟨#[c]⟩
theorem zjh{K:kA}{F:Hp}{x:Str}:GC K (Nf x) F (CP x):=by
 intro i F' H' s1 s2;refine⟨λt ht=>?_,λe=>?_⟩
 .unfold CP at ht;rw[yaj]at ht;obtain⟨c,e1,rfl⟩:=ya4.mp ht;have hi:i<x.cps.size:=by simpa using (yac.mp e1).1
  refine⟨hi,λy H'' z=>?_⟩
  obtain⟨rfl,c',hc,rfl⟩:=z;rw[Array.getElem?_toList,hc]at e1;cases e1;exact⟨F',Ext.refl s2,.str _⟩
 .show x.cps.size<=i;rw[e];simp[CP]
def B7(m:AB->Option Rs):AB->Option RsL:=λτ=>match m τ with
 |some (.v (.str x) _)=>some (.v (CP x) false)
 |_=>JJ m τ
theorem zky(ha:PE X e (tM X.K E ca m)):PI X tg e (tI X.K E ca (B7 m)):=by
 refine PI.weak (PI.or (U2 ha) (zle ha)) λσ H P h=>?_
 obtain⟨F,τ,R,S,q⟩:=h
 by_cases hs:∃x b,m τ=some (.v (.str x) b)
 .obtain⟨x,b,hm⟩:=hs;have e:B7 m τ=some (.v (CP x) false):=by unfold B7;rw[hm]
  rw[e]at q;refine .inr ⟨F,τ,R,S,?_⟩;rw[hm];intro F1 H1 y B e1 g1;exact⟨x,FG g1,q F1 H1 _ (e1.mono λ_ z=>z.elim) zjh⟩
 .have e:B7 m τ=JJ m τ:=by
   unfold B7;split
   .rename_i x b hm;exact absurd ⟨x,b,hm⟩ hs
   .rfl
  rw[e]at q;exact .inl ⟨F,τ,R,S,q⟩
end
open Classical in
def met(val:Nat->Key):Nat->List Key
 |0=>[]
 |i+1=>if val i∈met val i then met val i else met val i++[val i]
open Classical in
theorem W7(val:Nat->Key):∀i,(met val i).length<=i
 |0=>yaf 0
 |i+1=>by
  have:=W7 val i;unfold met;split
  .omega
  .rw[yag,ybn]
   omega
section
variable {prog:Program}{w:World}{A:Around}{E:Value->Shared->Prop}
open Classical in
theorem Wi{knd:PySem.KeyKind prog w Key}{R:Result->Shared->Prop}{I:Addr}{fp wr:List Addr}{G:Array GenState->Array GenState->Prop}{n:Nat}{P:Nat->Value->Prop}{St:Nat->Shared->Prop}(W:WalksS prog w A.in1 I fp wr G n P St)(S:Addr)(hS:S∉fp)(val:Nat->Key)
  (hP:∀i v,P i v->knd.is (val i) v=true/\v.scannable=true) (hn:n+1<scanBound):∀(k i:Nat) (s:Shared),n - i=k->i<=n->St i s->Heap.SetOf knd s.heap S (λk'=>decide (k'∈met val i)) (met val i).length ->
   (∀s':Shared,Moved (S::wr) G s s'->Heap.SetOf knd s'.heap S (λk'=>decide (k'∈met val n)) (met val n).length->R (Except.ok (Flow.ret Value.none)) s') ->
   codeAny (model prog w) A (Code.builtin "set.update.loop" { pos:=[Value.ref S,Value.ref I] }) R s
 |0,i,s,hk,hi,st,hset,h=>by
  have e:i=n:=by omega
  subst e;refine yez F.entry_set_update_loop ?_;rw[Around.under_plainId ydg];unfold Builtin.«set.update.loop»;refine yeg (W.done s _ _ st λs' mv=>?_)
  refine yej ?_;refine h s' (mv.mono λb hb=>ya0 _ hb) ?_
  obtain⟨o,es,ep,t,h1,h2⟩:=hset;exact⟨o,es,ep,t,mv.heap S o (λz=>hS (W.sub S z)) h1,h2⟩
 |k+1,i,s,hk,hi,st,hset,h=>by
  have hi':i<n:=by omega
  refine yez F.entry_set_update_loop ?_;rw[Around.under_plainId ydg];unfold Builtin.«set.update.loop»;refine yeg (W.item i s _ _ hi' st λv s' pv st' mv=>?_)
  obtain⟨hk1,hk2⟩:=hP i v pv
  have hset':Heap.SetOf knd s'.heap S (λk'=>decide (k'∈met val i)) (met val i).length:=by
   obtain⟨o,es,ep,t,h1,h2⟩:=hset;exact⟨o,es,ep,t,mv.heap S o (λz=>hS (W.sub S z)) h1,h2⟩
  refine yeg (yeh ?_);unfold setAdd;refine yeh (yeg (knd.pyHash hk1 ?_));have hl:=W7 val i;refine wpAny_setAddHashed_of (s:={ s' with toks:=s'.toks+1 }) hk1 hk2 hset' (by omega) λh' sb hset2=>?_
  refine yej ⟨plainId_quiet ydg _,?_⟩;have st2:=W.frame (i+1) s' h' (s'.toks+1) st' (ybw _) λb hb o e=>(sb.2 b (λz=>hS (z▸hb))).trans e
  have mv2:Moved (S::wr) G s { s' with heap:=h',toks:=s'.toks+1 }:=(mv.mono λb hb=>ya0 _ hb).then_heap (ybw _) λb o hb e=>(sb.2 b (λz=>hb (by rw[z];exact ya3 ..))).trans e
  refine Wi W S hS val hP hn k (i+1) _ (by omega) (by omega) st2 ?_ λs'' mv3 hs3=>h s'' (mv2.trans W.gtrans mv3) hs3
  have hS:(λk'=>(decide (k'∈met val i) || decide (k'=val i)))=λk'=>decide (k'∈met val (i+1)):=funext λk'=>by
   conv=>rhs;unfold met
   by_cases hm:val i∈met val i
   .rw[if_pos hm]
    by_cases e:k'=val i
    .rw[e,yer hm];rfl
    .rw[yec e,ycy]
   .rw[if_neg hm,ybm];simp only[ybq,yf1,yat,ya7]
  have hN:(if decide (val i∈met val i)=true then (met val i).length else (met val i).length+1)=(met val (i+1)).length:=by
   conv=>rhs;unfold met
   by_cases hm:val i∈met val i
   .rw[if_pos hm,if_pos (yer hm)]
   .rw[if_neg hm,if_neg (λz=>hm (yf5 z)),yag,ybn]
  obtain⟨o,es,ep,t,h1,h2,h3,h4,h5,h6,h7,h8⟩:=hset2;refine⟨o,es,ep,t,h1,h2,h3,h4,λk'=>?_,h6,h7,h8.trans hN⟩
  rw[<- h5 k'];have e:=congrFun hS k';show decide (k'∈met val (i+1))=true ↔ _;rw[<- e]
end
open Classical in
theorem zbj{prog:Program}{w:World}{A:Around}{E:Value->Shared->Prop}{s:Shared}{l:Addr}{items:Array Value}{knd:PySem.KeyKind prog w Key}{val:Nat->Key}{Q:Value->Shared->Prop}(hh:A.handled=none)(hl:s.heap.IsList l items)
  (hP:∀(i:Nat) (v:Value),items[i]?=some v->knd.is (val i) v=true/\v.scannable=true) (hb:items.size+1<scanBound)
  (h:∀(h':Heap) (tk:Nat),Heap.SetOf knd h' s.heap.objs.size (λk'=>decide (k'∈met val items.size)) (met val items.size).length->(∀(b:Nat) (o:Obj),b<s.heap.objs.size->s.heap.get? b=some o->h'.get? b=some o)->Q (.ref s.heap.objs.size) { s with heap:=h',toks:=tk }) :
  wpAny (model prog w) A (call (Value.type "set") [Value.ref l]) Q E s:=by
 obtain⟨c,tl,hmro⟩:=ydd.mro;have hmade:=ydd.made;have hsub:=ydd.sub;refine yew (codeAny_of_tree ?_);refine yej ⟨Code.quiet_builtin _ (by decide +kernel),yez F.entry_type_call ?_⟩
 have hu:=Around.under_plain (A:=A) (weight_type_call_type "set" [Value.ref l] []) rfl;have h1:=ydd.notType;have h2:=ydd.canCreate;have hct:=F.typeCall_set_1 (Value.ref l);show wpAny (model prog w) (A.under (Code.builtin "type.__call__" { pos:=[Value.type "set",Value.ref l] })) _ _ _ s;rw[hu];unfold Builtin.«type.__call__»;refine yf7 (by rw[h1];rfl) (yf7 (by rw[h2];rfl) ?_)
 refine yeg (yf0 hct (yeg (yf0 hmro (yf7 rfl (yeg (yf0 hmade (yeg (yej (yeg (yeh (yew (yes (code_set_new_1 (E:=λ_ _=>False) (Value.ref l) (Q₁:=λv s'=>∃led:Bool,v=.ref s.heap.objs.size/\s'={ s with heap:=s.heap.push { cls:=.type "set",data:=.set #[] 0 (SetTable.fresh 0 0 led) } }) λled=>⟨led,rfl,rfl⟩) λr s₁ hr=>?_))))))))))))
 cases r with
 |error e=>exact False.elim hr
 |ok fl =>
  cases fl with
  |next=>exact False.elim hr
  |brk=>exact False.elim hr
  |cont=>exact False.elim hr
  |ret v =>
   obtain⟨led,rfl,rfl⟩:=(show ∃led:Bool,v=.ref s.heap.objs.size/\s₁={ s with heap:=s.heap.push { cls:=.type "set",data:=.set #[] 0 (SetTable.fresh 0 0 led) } } from hr)
   have ho:(s.heap.push { cls:=.type "set",data:=.set #[] 0 (SetTable.fresh 0 0 led) }).get? s.heap.objs.size=some { cls:=.type "set",data:=.set #[] 0 (SetTable.fresh 0 0 led) }:=yao _ rfl;have hT:Shared.TypeIs { s with heap:=s.heap.push { cls:=.type "set",data:=.set #[] 0 (SetTable.fresh 0 0 led) } } (.ref s.heap.objs.size) "set":=⟨_,ho,rfl⟩
   have hin:=ydd.init;refine yeg (yf8 hT hsub (yf7 rfl (yeg (yeh ?_))));unfold callSpecial?;refine yeg (wpAny_specialOf hT hin.lookup (yeh (yeg (yf0 (hin.bind _) (yeg (yew (yes (R:=wants (λv s'=>v=.none/\∃tk h',s'={ s with heap:=h',toks:=tk }/\Heap.SetOf knd h' s.heap.objs.size (λk'=>decide (k'∈met val items.size)) (met val items.size).length/\∀(b:Nat) (o:Obj),b<s.heap.objs.size->s.heap.get? b=some o->h'.get? b=some o) λ_ _=>False) (yey hin.plain F.entry_set_init (check_set_init_1 hT ?_)) λr s₂ hr₂=>?_)))))))
   .unfold Builtin.«set.__init__» noKeywords;refine yeg (wpAny_ite_true rfl (yej ?_));unfold typeNameOfCut shownTypeOf;refine yeg (yeg (yeg (wpAny_typeOf hT (yf7 (by decide +kernel) (yej ?_)))))
    refine yf0 (rfl:typeNameCut 200 (Value.type "set")=pure _) ?_;refine yeg (yf0 (rfl:checkCount _ 0 1 1=pure ()) ?_);refine yeg (yej ?_);unfold setUsed setState;refine yeg (yeg (yeg (wpAny_load ho (yf7 rfl (yej (yej (yf7 rfl ?_)))))));obtain⟨ol,hol,hcl,nl,hdl⟩:=id hl;have hol2:(s.heap.push { cls:=.type "set",data:=.set #[] 0 (SetTable.fresh 0 0 led) }).get? l=some ol:=ya8 _ hol;have hTl:Shared.TypeIs { s with heap:=s.heap.push { cls:=.type "set",data:=.set #[] 0 (SetTable.fresh 0 0 led) } } (.ref l) "list":=⟨_,hol2,hcl⟩
    unfold Builtin.Frozenset.updateFrom Builtin.Frozenset.isAnySet;refine yeg (yeg (yeg (yf8 hTl F.sub_list_set ?_)));have hl2:(s.heap.push { cls:=.type "set",data:=.set #[] 0 (SetTable.fresh 0 0 led) }).IsList l items:=⟨ol,hol2,hcl,nl,hdl⟩;refine yf8 hTl F.sub_list_frozenset (yf7 rfl (yeg (wpAny_typeOf hTl (yf7 (by decide +kernel) (yeg (yek hl2 ?_))))))
    have lt:l<s.heap.objs.size:=yah hol;have hsz:(s.heap.push { cls:=.type "set",data:=.set #[] 0 (SetTable.fresh 0 0 led) }).objs.size=s.heap.objs.size+1:=yc4 _ _;generalize hhp:s.heap.push { cls:=.type "set",data:=.set #[] 0 (SetTable.fresh 0 0 led) }=hp at *
    have hS:s.heap.objs.size∉[hp.objs.size,l]:=by
     rw[hsz];intro z
     rcases yad.mp z with e|e
     .exact absurd e (yau (yc5 _))
     .exact absurd (ya7.mp e) (Nat.ne_of_gt lt)
    refine yeg (wpAny_runValue ?_);refine Wi (knd:=knd) (A:=A.in1.in1) (Walks.list (A:=A.in1.in1.in1) hh hp.objs.size l (by rw[hsz];exact yau (ycc lt)) items).toS s.heap.objs.size hS val (λi v e=>hP i v e) hb items.size 0 _ (by omega) (ycf _) ⟨?_,?_⟩ ?_ λs' mv hs'=>?_
    .exact⟨_,yao _ rfl,rfl,rfl⟩
    .exact⟨ol,ya8 _ hol2,hcl,nl,hdl⟩
    .letI:BEq Key:=⟨λa b=>decide (a=b)⟩
     haveI:LawfulBEq Key:={ eq_of_beq:=λh=>yf5 h,rfl:=yer rfl }
     have e0:=(setObjOf_fresh (prog:=prog) (w:=w) (knd:=knd) led).setOf (h:=hp.push { cls:=.type "list_iterator",data:=.fields #[.ref l,.int 0 0] }) (a:=s.heap.objs.size) (ya8 _ ho) (by decide)
     obtain⟨o,es,ep,t,g1,g2,g3,g4,g5,g6,g7,g8⟩:=e0;refine⟨o,es,ep,t,g1,g2,g3,g4,λk'=>?_,g6,g7,g8⟩
     rw[<- g5 k'];simp[met]
    .refine yej (yej ?_)
     have b2:∀(b:Nat) (o:Obj),b<s.heap.objs.size->s.heap.get? b=some o->s'.heap.get? b=some o:=λb o hb e=>by
      refine mv.heap b o (λz=>?_) (ya8 _ (by rw[<- hhp];exact ya8 _ e))
      rcases yad.mp z with e|e
      .exact absurd e (yau hb)
      .have e:=ya7.mp e;rw[hsz]at e;exact absurd e (yau (ycc hb))
     have m1:=mv.gens;have m2:=mv.drawn;have m3:=mv.os;obtain⟨hh',g',d',t',os'⟩:=s';refine⟨rfl,t',hh',?_,hs',b2⟩;simp only at m1 m2 m3;rw[m1,m2,m3]
   .cases r with
    |error e=>exact False.elim hr₂
    |ok fl =>
     cases fl with
     |next=>exact False.elim hr₂
     |brk=>exact False.elim hr₂
     |cont=>exact False.elim hr₂
     |ret v =>
      obtain⟨rfl,tk,h',rfl,hs,hk⟩:=(show v=.none/\∃tk h',s₂={ s with heap:=h',toks:=tk }/\Heap.SetOf knd h' s.heap.objs.size (λk'=>decide (k'∈met val items.size)) (met val items.size).length/\∀(b:Nat) (o:Obj),b<s.heap.objs.size->s.heap.get? b=some o->h'.get? b=some o from hr₂)
      refine yej (yf7 rfl (yej ?_));exact h h' tk hs hk
def S9(P:Program)(w:World)(a:Addr)(ks:List Key):HO:=.ext λh=>Heap.SetOf (Cy P w) h a (λk=>@decide (k∈ks) (Classical.propDecidable _)) ks.length
section
variable {X:Cx}
theorem zej(hc:X.calm=true):B0 X (.type "set") (λxs H Q=>∃(p:Addr) (ys:List Str),xs=[.ref p]/\Ac X.K H p (ys.map V.str)/\ys.length<1000/\∀a,H a=none->Q (.ref a) (upd H a (S9 X.prog X.w a (met (λi=>Sum.inr (ys.getD i Str.empty)) ys.length)))):=by
 intro pins s σ H xs us Q I r h;obtain⟨p,ys,rfl,hq,hz,q⟩:=h;obtain⟨u,rfl,rx⟩:=DP r;cases rx;obtain⟨its,r',pl,_⟩:=I.list hq;have hlen:=r'.length;rw[ya1]at hlen;have hsz:its.toArray.size=ys.length:=by rw[yaq];exact hlen.symm
 refine zbj (knd:=Cy X.prog X.w) (val:=λi=>Sum.inr (ys.getD i Str.empty)) (I.ok.hd hc) pl.isList (λi v e=>?_) (by rw[hsz];exact yam (Nat.succ_lt_succ hz) (by decide)) λh' tk hs kp=>?_
 .have e':its[i]?=some v:=by simpa using e
  have hi:i<ys.length:=by rw[hlen];exact(yac.mp e').1
  have hx:(ys.map V.str)[i]?=some (.str ys[i]):=by rw[yaj,ya5 hi];rfl
  obtain⟨u,e2,ru⟩:=r'.get hx;rw[e']at e2;cases e2;obtain⟨t,rfl⟩:=(show ∃t,v=Value.str ys[i] t from ru);refine⟨?_,rfl⟩;show Gc (Sum.inr (ys.getD i Str.empty)) (Value.str ys[i] t)=true;rw[yaw,ya5 hi];show(ys[i] == ys[i])=true;exact yf3 _
 .rw[hsz]at hs;refine⟨.ref s.heap.objs.size,_,I.laid (a:=s.heap.objs.size) (o:=S9 X.prog X.w s.heap.objs.size (met (λi=>Sum.inr (ys.getD i Str.empty)) ys.length)) (t':=tk) (λb o e=>kp b o (yah e) e) (yaf _) ⟨?_,?_,?_⟩,rfl,q _ (I.hok.fresh (yaf _))⟩
  .exact hs
  .obtain⟨o,es,ep,t,g1,_⟩:=hs;exact⟨o,g1⟩
  .intro h1 h2 p1 k;obtain⟨o,es,ep,t,g1,g2⟩:=p1;exact⟨o,es,ep,t,k o g1,g2⟩
theorem zel:B0 X (.builtin "len") (λxs H Q=>∃a ks,xs=[.ref a]/\H a=some (S9 X.prog X.w a ks)/\Q (.int ks.length) H):=by
 intro pins s σ H xs us Q I r h;obtain⟨a,ks,rfl,ha,q⟩:=h;obtain⟨u,rfl,rx⟩:=DP r;cases rx;obtain⟨⟨o,es,ep,t,g1,g2,g3,g4,g5,g6,g7,g8⟩,_⟩:=(show _/\_ from I.hok a _ ha)
 have hb:((es.size:Nat):Int)<2 ^ 63:=by
  have:scanBound<=2 ^ 40:=by decide
  have g6':es.size<scanBound:=g6
  omega
 refine call_len_set g1 g2 g3 g7 hb ⟨.int (es.size:Int),H,I.tok _,⟨_,rfl⟩,?_⟩;rw[show es.size=ks.length from g8];exact q
end
def Ep:List T->Option (List Str)
 |[]=>some []
 |.str x::r=>(match Ep r with
  |some l=>some (x::l)
  |none=>none)
 |_::_=>none
theorem Td{K:kA}{F:Hp}:∀{l:List T} {ys:List Str} {xs:List V},Ep l=some ys->Ag K F l xs->xs=ys.map V.str
 |[],ys,xs,h,r=>by
  cases h;exact r.inv0
 |t::l,ys,xs,h,r=>by
  obtain⟨x,xs',rfl,r1,r2⟩:=r.inv;unfold Ep at h;split at h
  .rename_i e;cases e
  .rename_i y r e;cases e;split at h
   .rename_i l' hl;cases h;rw[r1.str_inv,Td hl r2]
    rfl
   .cases h
  .cases h
def IP(ys:List Str):Nat:=(met (λi=>Sum.inr (ys.getD i Str.empty)) ys.length).length
def IM:T->Option T
 |.nd _ .lst l=>(match Ep l with
  |some ys=>if ys.length<1000 then some (.int (IP ys)) else none
  |none=>none)
 |_=>none
section
variable {X:Cx}{E:L2.St->XK}{ca:Str->Value}{m:AB->Option Rs}{e:Expr}{pos p p2 p3:Pos}
theorem r_unq(hc:X.calm=true)(hg:Gl X "len")(hm:X.mg "len"=none)(hg2:Gl X "set")(hm2:X.mg "set"=none)(ha:PE X e (tM X.K E ca m))(he:starEach [e] X.env=[(false,eval e X.env)]) :
  PE X (.Call (.Name "len" p) [.Call (.Name "set" p2) [e] [] p3] [] pos) (tM X.K E ca (BB (g1 IM) (AD m AE))):=by
 have hset:=VA (pos:=p3) (p:=p2) (zej hc) hg2 hm2 (show bootBuiltins "set"=some (.type "set") from rfl) (Cj ha DU he) (by decide) (by decide) he rfl
 refine PE.weak (KA (zel (X:=X)) hg hm PySem.boot_len (Cj hset DU rfl) (by decide) (by decide) rfl rfl) λσ H Q h=>?_
 refine(FX (GH h)).mono λx H1 h1=>?_
 obtain⟨F,ts,v,fh,rs,e,q⟩:=GG h1;unfold g1 at e;split at e
 .obtain⟨x1,xs1,e1,r1,rs1⟩:=rs.inv;cases e1;unfold IM at e;split at e
  .split at e
   .rename_i o l ys hy;split at e
    .rename_i hz;cases e;obtain⟨pp,zs,rfl,_,n,kd⟩:=Dl r1;have hF:F pp=some (.lst zs):=n;refine⟨pp,ys,rfl,Ac.of (by rw[<- Td hy kd];exact fh _ _ hF),hz,λa ha=>⟨a,_,rfl,Bq,?_⟩⟩
     exact q F _ _ R0 ((Ext.newO fh ha).mono λ_ z=>z.elim) (Rp.int _)
    .cases e
   .cases e
  .cases e
 .cases e
end
def EL:T->T->Option T
 |.int i,.int j=>some (.bl (decide (i<=j)))
 |.str x,.str y=>some (.bl (!(@decide (y.cps.toList<x.cps.toList) (Classical.propDecidable _))))
 |_,_=>none
section
variable {X:Cx}{E:L2.St->XK}{ca:Str->Value}{m mk:AB->Option Rs}{o k:Expr}{pos apos cpos:Pos}
theorem ziw:Ad X (compareOp .LtE) (B5 X.K EL):=by
 intro pins s σ H x y v u Q I rx ry h;obtain⟨F,t1,t2,r,fh,r1,r2,e,q⟩:=h;unfold EL at e;split at e
 .cases e;rw[r1.int_inv]at rx;rw[r2.int_inv]at ry;exact VH pins s σ H _ _ v u Q I rx ry ⟨_,_,rfl,rfl,q.bl fh⟩
 .rename_i a b;cases e;rw[r1.str_inv]at rx;rw[r2.str_inv]at ry;obtain⟨t,rfl⟩:=(show ∃t,v=Value.str a t from rx);obtain⟨t',rfl⟩:=(show ∃t,u=Value.str b t from ry);refine PySem.P.le_str ⟨.bl _,H,I,rfl,?_⟩;have q1:=q.bl fh;rw[show(!decide (b.cps.toList<a.cps.toList))=!(@decide (b.cps.toList<a.cps.toList) (Classical.propDecidable _)) from congrArg _ (by rw[ybm,yf1,@decide_eq_true_eq _ (Classical.propDecidable _)])]
  exact q1
 .cases e
end
section
variable {X:Cx}{E:L2.St->XK}{ca:Str->Value}{m mk:AB->Option Rs}{o k:Expr}{pos apos cpos:Pos}
end
def LR:T->Option T
 |.nd _ .lst l=>some (.tup l)
 |_=>none
theorem zen{X:Cx}:B0 X (.type "tuple") (Cw X.K (g1 LR)):=by
 intro pins s σ H xs us Q I r h;obtain⟨F,ts,v,fh,rs,e,q⟩:=h;unfold g1 at e;split at e
 .obtain⟨x1,xs1,rfl,r1,rs1⟩:=rs.inv;cases rs1.inv0;unfold LR at e;split at e
  .cases e;obtain⟨p,ys,rfl,rfl,n1,k1⟩:=Dl r1;have hF:F p=some (.lst ys):=n1;exact zbi pins s σ H _ us Q I r ⟨p,ys,rfl,.inl ⟨Ac.of (fh _ _ hF),λl hl=>q.tuple fh k1 hl⟩⟩
  .cases e
 .cases e
noncomputable def GK(i:Nat)(cs:List (Str×Addr))(u h:AB->Option Out):AB->Option Out:=λτ=>match u τ with
 |some (.xc c τ')=>(match cs.lookup c with
  |some C=>if i<τ'.length then (match h (τ'.set i (some (.obj (.exn C) []))) with
   |some (.nx τ2)=>some (.nx (τ2.set i none))
   |some (.rt t)=>some (.rt t)
   |_=>none) else none
  |none=>none)
 |r=>r
section
variable {X:Cx}{E:L2.St->XK}{ca:Str->Value}{mu:Bool}{i:Nat}{x n:Str}{np pos hpos:Pos}{body suite:List Stmt}{b₀:Stmt}{u h:AB->Option Out}{cs:List (Str×Addr)}
theorem StR.put{K:kA}{F H:Hp}{σ:L2.St}{τ:AB}{R:Nat->Rg}{i:Nat}{t:T}{v:V}(S:StR K F H σ τ R)(hi:i<τ.length)(r:Rp K F H t v R0):StR K F H (σ.set i (some v)) (τ.set i (some t)) (λj=>if j=i then R0 else R j):=by
 refine⟨S.fh,by simpa using S.len,λj t' e=>?_,λj a z=>?_,λj k a hjk z1 z2=>?_⟩
 .by_cases hj:j=i
  .subst hj;rw[yas hi]at e;cases e;exact⟨v,yas (by rw[S.len];exact hi),by simpa using r⟩
  .rw[yan (yb1 hj)]at e;obtain⟨y,e1,r1⟩:=S.rep j t' e;exact⟨y,by rw[yan (yb1 hj)];exact e1,by simpa[hj] using r1⟩
 .by_cases hj:j=i
  .simp only[hj,yeo]at z;exact z.elim
  .simp only[hj,yep]at z;obtain⟨t',e⟩:=S.out j a z;exact⟨t',by rw[yan (yb1 hj)];exact e⟩
 .by_cases hj:j=i
  .simp only[hj,yeo]at z1;exact z1.elim
  .by_cases hk:k=i
   .simp only[hk,yeo]at z2;exact z2.elim
   .simp only[hj,yep]at z1;simp only[hk,yep]at z2;exact S.dis j k a hjk z1 z2
theorem StR.gone{K:kA}{F H:Hp}{σ:L2.St}{τ:AB}{R:Nat->Rg}{i:Nat}(S:StR K F H σ τ R):StR K F H (σ.set i none) (τ.set i none) (λj=>if j=i then R0 else R j):=by
 refine⟨S.fh,by simpa using S.len,λj t' e=>?_,λj a z=>?_,λj k a hjk z1 z2=>?_⟩
 .by_cases hj:j=i
  .subst hj;rw[List.getElem?_set]at e;simp only[yeo]at e;split at e<;>cases e
  .rw[yan (yb1 hj)]at e;obtain⟨y,e1,r1⟩:=S.rep j t' e;exact⟨y,by rw[yan (yb1 hj)];exact e1,by simpa[hj] using r1⟩
 .by_cases hj:j=i
  .simp only[hj,yeo]at z;exact z.elim
  .simp only[hj,yep]at z;obtain⟨t',e⟩:=S.out j a z;exact⟨t',by rw[yan (yb1 hj)];exact e⟩
 .by_cases hj:j=i
  .simp only[hj,yeo]at z1;exact z1.elim
  .by_cases hk:k=i
   .simp only[hk,yeo]at z2;exact z2.elim
   .simp only[hj,yep]at z1;simp only[hk,yep]at z2;exact S.dis j k a hjk z1 z2
theorem TH{R:Nat->Rg}{i:Nat}{a:Addr}(h:tot (λj=>if j=i then R0 else R j) a):tot R a:=by
 obtain⟨j,z⟩:=h
 by_cases hj:j=i
 .simp only[hj,yeo]at z;exact z.elim
 .simp only[hj,yep]at z;exact⟨j,z⟩
theorem s_try(T:ECls X.K X.mg x)(hcs:∀c C,cs.lookup c=some C->ca c=.ref C/\PySem.W.subIn X.K (.ref C) (.ref T.C)=some true)(hst:X.stack=X.env::X.outer)(hf:X.env.frame=some X.env.locals)(hN:X.N.Nodup)(hi:X.N[i]?=some n)(hloc:X.env.scope.names.lookup n=some .local)
  (hb:∀(E':L2.St->XK) pins xe,BH (Ft X pins xe) E'->BJ (Ft X pins xe) body (tS X.K E' ca mu u)) (hh:∀a,LB a i (DJ X a) (b₀::suite) (tS X.K Ej ca mu h)) (hg:Gl X x) (hdb:(x == ("__debug__":Str))=false) :
  PS X (.Try body [.ExceptHandler (some (.Name x np)) (some n) (b₀::suite) hpos] [] [] pos) (tS X.K E ca mu (GK i cs u h)):=by
 intro pins s σ H D I hq;obtain⟨F,τ,R,S,q⟩:=hq;let E':L2.St->XK:=λσ1 cls _ H1=>∃c τ' F' R',u τ=some (.xc c τ')/\cls=ca c/\Stp F H (tot R) F' H1 (tot R')/\StR X.K F' H1 σ1 τ' R'
 refine zl7 (E:=E') (tb:=tS X.K E' ca mu u) (th:=tS X.K Ej ca mu h) T hst hf hN hi hloc (λpins xe hp=>hb E' pins xe hp) hh hg hdb pins s σ H D I ⟨⟨F,τ,R,S,?_⟩,?_⟩
 .unfold GK at q;cases hu:u τ with
  |none=>rw[hu]at q;exact q
  |some o =>
   cases o with
   |nx τ'=>rw[hu]at q;exact q
   |rt t=>rw[hu]at q;exact q
   |bk τ'=>rw[hu]at q;exact q
   |ct τ'=>rw[hu]at q;exact q
   |xc c τ'=>exact λF' H' σ' R' st S'=>⟨c,τ',F',R',hu,rfl,st,S'⟩
 .intro σ1 cls H1 ⟨c,τ',F',R',hu,hcl,st,S'⟩;unfold GK at q;simp only[hu]at q;cases hl:cs.lookup c with
  |none=>simp only[hl]at q
  |some C =>
   simp only[hl]at q;obtain⟨h1,h2⟩:=hcs c C hl
   by_cases hlen:i<τ'.length
   case neg =>
    rw[if_neg hlen]at q;exact q.elim
   rw[if_pos hlen]at q;refine⟨C,hcl.trans h1,h2,λa o ha hX=>?_⟩
   have fa:F' a=none:=G3 S'.fh ha;have e1:Ext F' H1 (upd F' a o) (upd H1 a o) R0:=Ext.new S'.fh ha;have S2:=S'.ext e1;have rx:Rp X.K (upd F' a o) (upd H1 a o) (.obj (.exn C) []) (.ref a) R0:=.obj (k:=.exn C) (xs:=[]) (hX.of λu z=>Bq.trans (Bq.symm.trans z)) rfl λi t x h=>by simp at h
   have S3:=S2.put hlen rx;have st2:Stp F H (tot R) (upd F' a o) (upd H1 a o) (tot λj=>if j=i then R0 else R' j):=(st.trans e1.stp0).mono λb z=>TH z
   refine⟨_,_,_,S3,?_⟩;cases hh:h (τ'.set i (some (.obj (.exn C) []))) with
   |none=>simp only[hh]at q
   |some o =>
    simp only[hh]at q;cases o with
    |nx τ2 =>
     intro F4 H4 σ4 R4 st4 S4;exact q F4 H4 (σ4.set i none) _ ((st2.trans st4).mono λb z=>TH z) S4.gone
    |rt t=>exact λF4 H4 x B st4 r4=>q F4 H4 x B (st2.trans st4) r4
    |bk _=>exact q.elim
    |ct _=>exact q.elim
    |xc _ _=>exact q.elim
end
def DI(tb:List (Addr×Bool)):T->Option T
 |.obj (.exn C) _=>(match tb.lookup C with
  |some b=>some (.bl b)
  |none=>none)
 |_=>none
section
variable {X:Cx}{E:L2.St->XK}{ca:Str->Value}{m:AB->Option Rs}{e:Expr}{pos p p2:Pos}{c:Str}{v:V}{tb:List (Addr×Bool)}
theorem U1(hg:Gl X "isinstance")(hm:X.mg "isinstance"=none)(hv:PE X (.Name c p2) (tC v))(hvv:∃D,v=.ref D\/∃T,v=.ty T)(htb:∀C b,tb.lookup C=some b->ExcK X.K C/\PySem.W.kitOne X.K (.ref C) (Rk v)=some b)(ha:PE X e (tM X.K E ca m))(he:starEach [e,.Name c p2] X.env=(false,eval e X.env)::starEach [.Name c p2] X.env) :
  PE X (.Call (.Name "isinstance" p) [e,.Name c p2] [] pos) (tM X.K E ca (BB (g1 (DI tb)) (AD m AE))):=by
 refine PE.weak (KA (zh5 (X:=X)) hg hm yct (Cj ha (Cj hv DU) he) (by decide) (by decide) he rfl) λσ H Q h=>?_
 refine(FX (GH h)).mono λx H1 h1=>?_
 obtain⟨F,ts,w,fh,rs,e,q⟩:=GG h1;unfold g1 at e;split at e
 .obtain⟨x1,xs1,e1,r1,rs1⟩:=rs.inv;cases e1;unfold DI at e;split at e
  .rename_i C l;split at e
   .rename_i b hb;cases e;obtain⟨k1,k2⟩:=htb C b hb;obtain⟨a,xs,rfl,_,hF,_,_⟩:=r1.obj_inv;have hF':EW F a C:=hF;exact⟨a,C,v,b,rfl,hF'.of (fh a),k1,hvv,k2,q.bl fh⟩
   .cases e
  .cases e
 .cases e
end
section
variable {X:Cx}{E:L2.St->XK}{ca:Str->Value}{mu:Bool}{i j:Nat}{tg it c:Expr}{ret:List Stmt}{mc:AB->Option Rs}{k:T}{ip pos:Pos}
end
section
variable {X:Cx}{E:L2.St->XK}{ca:Str->Value}{mu:Bool}{i j:Nat}{tg it e:Expr}{m:AB->Option Rs}{t:T}{p1 apos cpos pos bpos:Pos}{x:Str}
end
section
variable {X:Cx}{E:L2.St->XK}{ca:Str->Value}{m mk ma:AB->Option Rs}{o k e a:Expr}{pos apos cpos p p2:Pos}
def rSlS:V->Option Int->Option Int->Hp->VK->Prop:=λx lo hi H Q=>∃z:Str,x=.str z/\z.length<=AY/\Q (.str (Txt.slice z lo hi)) H
theorem zkc:S8 X rSlS:=by
 intro pins s σ H x v vl vu lo hi sl Q I rx hs pl pu q;obtain⟨z,rfl,hz,q⟩:=q;obtain⟨t,rfl⟩:=(show ∃t,v=Value.str z t from rx);obtain⟨ob,ho,hc,hd⟩:=hs;rw[Dq]at hz;cases pl with
 |none =>
  cases pu with
  |none=>exact⟨"str",_,yci.lookup,yen _ _ _,yf9 (l:=none) (u:=none) (st:=none) ⟨ob,ho,hc,hd⟩ rfl (yfa ⟨yap (ye8 z _ _) hz,λt' k=>⟨.str _,H,I.tok _,⟨_,rfl⟩,q⟩⟩)⟩
  |int j uj=>exact⟨"str",_,yci.lookup,yen _ _ _,yf9 (l:=none) (u:=some (j,uj)) (st:=none) ⟨ob,ho,hc,hd⟩ rfl (yfa ⟨yap (ye8 z _ _) hz,λt' k=>⟨.str _,H,I.tok _,⟨_,rfl⟩,q⟩⟩)⟩
 |int i ui =>
  cases pu with
  |none=>exact⟨"str",_,yci.lookup,yen _ _ _,yf9 (l:=some (i,ui)) (u:=none) (st:=none) ⟨ob,ho,hc,hd⟩ rfl (yfa ⟨yap (ye8 z _ _) hz,λt' k=>⟨.str _,H,I.tok _,⟨_,rfl⟩,q⟩⟩)⟩
  |int j uj=>exact⟨"str",_,yci.lookup,yen _ _ _,yf9 (l:=some (i,ui)) (u:=some (j,uj)) (st:=none) ⟨ob,ho,hc,hd⟩ rfl (yfa ⟨yap (ye8 z _ _) hz,λt' k=>⟨.str _,H,I.tok _,⟨_,rfl⟩,q⟩⟩)⟩
def Au(ma:AB->Option Rs)(ml mh:Option (AB->Option Rs)):AB->Option Rs:=λτ=>match ma τ with
 |some (.v (.str z) _)=>(match EK ml τ,EK mh τ with
  |some lo,some hi=>if z.length<=AY then some (.v (.str (Txt.slice z lo hi)) false) else none
  |_,_=>none)
 |_=>none
theorem zfs{lo hi:Option Expr}{ml mh:Option (AB->Option Rs)}(ha:PE X a (tM X.K E ca ma))(hl:PO X lo (HF X.K ml))(hh:PO X hi (HF X.K mh)):PE X (.Subscript a (.Slice lo hi none p2) pos) (tM X.K E ca (Au ma ml mh)):=by
 refine PE.weak (Ux zkc ha hl hh) λσ H Q h=>?_
 obtain⟨F,τ,R,S,q⟩:=h;refine⟨F,τ,R,S,?_⟩;unfold Au at q;cases hm:ma τ with
 |none=>rw[hm]at q;exact q.elim
 |some r =>
  rw[hm]at q;cases r with
  |x c=>exact q.elim
  |v t bb =>
   cases t with
   |str z =>
    simp only at q;intro F1 H1 x B e1 g1;have hx:=FG g1;subst hx;have e1':Ext F H F1 H1 R0:=e1.mono λ_ z=>z.elim
    have S1:=S.ext e1';cases h1:EK ml τ with
    |none=>simp only[h1]at q
    |some lo' =>
     refine⟨F1,τ,R,lo',S1,h1,λF2 H2 e2=>?_⟩
     have S2:=S1.ext e2;cases h2:EK mh τ with
     |none=>simp only[h1,h2]at q
     |some hi' =>
      simp only[h1,h2]at q;refine⟨F2,τ,R,hi',S2,h2,λF3 H3 e3=>?_⟩
      by_cases hz:z.length<=AY
      .rw[if_pos hz]at q;exact⟨z,rfl,hz,q F3 H3 _ R0 (e1'.trans0 (e2.trans0 e3)) (.str _)⟩
      .rw[if_neg hz]at q;exact q.elim
   |_=>exact q.elim
def rJoin:V->List V->Hp->VK->Prop:=λx vs H Q=>∃(sep:Str) (l:Addr) (ys:List Str),x=.str sep/\vs=[.ref l]/\H l=some (.lst (ys.map V.str))/\(ys.map (·.length)).sum+ys.length * sep.length<=AY/\Q (.str (Txt.join sep ys)) H
theorem Tc:∀{ys:List Str} {its:List Value},A9 (ys.map V.str) its->StrsAre its ys
 |[],its,r=>by
  cases r;exact .nil
 |y::ys,its,r=>by
  cases r with
  |cons h t =>
   obtain⟨tk,rfl⟩:=h;exact .cons _ _ (Tc t)
theorem zj5:J8 X "str.join" rJoin:=by
 intro pins s σ H x vs v us Q I rx rv h;obtain⟨sep,l,ys,rfl,rfl,hH,hz,q⟩:=h;obtain⟨t,rfl⟩:=(show ∃t,v=Value.str sep t from rx);obtain⟨u,rfl,ru⟩:=rv.one;cases ru;obtain⟨its,r,pl,_⟩:=I.list (Ac.of hH);refine join_list (items:=its.toArray) pl.isList (Tc r) (by rw[Dq]at hz;exact hz) λt' k=>⟨.str _,H,I.tok _,⟨_,rfl⟩,q⟩
def G9(m mk:AB->Option Rs):AB->Option Rs:=λτ=>match m τ with
 |some (.v (.str sep) _)=>(match mk τ with
  |some (.v (.nd _ .lst l) _)=>(match Ep l with
   |some ys=>if (ys.map (·.length)).sum+ys.length * sep.length<=AY then some (.v (.str (Txt.join sep ys)) false) else none
   |none=>none)
  |_=>none)
 |_=>none
theorem zmc{K:kA}{F H:Hp}{o:Bool}{l:List T}{x:V}{A:Rg}(s:AZ F H)(h:Rp K F H (.nd o .lst l) x A):∃p xs,x=.ref p/\H p=some (.lst xs)/\l.length=xs.length/\∀(i:Nat) (t:T) (x:V),l[i]?=some t->xs[i]?=some x->∃B,Rp K F H t x B:=by
 cases h with
 |shr h e c=>exact⟨_,_,rfl,s _ _ h,e,λi t x h1 h2=>⟨_,c i t x h1 h2⟩⟩
 |own hk R f h e c d dp o=>exact⟨_,_,rfl,h,e,λi t x h1 h2=>⟨_,c i t x h1 h2⟩⟩
theorem Ta{K:kA}{F H:Hp}:∀{l:List T} {ys:List Str} {xs:List V},Ep l=some ys->l.length=xs.length->(∀(i:Nat) (t:T) (x:V),l[i]?=some t->xs[i]?=some x->∃B,Rp K F H t x B)->xs=ys.map V.str
 |[],ys,xs,h,e,_=>by
  cases h;cases xs with
  |nil=>rfl
  |cons _ _=>simp at e
 |t::l,ys,[],h,e,_=>by simp at e
 |t::l,ys,x::xs,h,e,f=>by
  unfold Ep at h;split at h
  .cases ‹_::_=[]›
  .rename_i z r hh;cases hh;split at h
   .rename_i l' hl;cases h;obtain⟨B,r0⟩:=f 0 _ x rfl rfl;have ih:xs=l'.map V.str:=Ta hl (by simpa using e) λi t x h1 h2=>f (i+1) t x (by simpa using h1) (by simpa using h2)
    rw[r0.str_inv,ih]
    rfl
   .cases h
  .cases h
theorem zkx(ho:PE X o (tM X.K E ca m))(hk:PE X k (tM X.K E ca mk))(hbase:attributeBase o "join" X.env (eval o X.env)=eval o X.env)(hs:starEach [k] X.env=[(false,eval k X.env)])(hline:(apos.endLine == cpos.line)=true) :
  PE X (.Call (.Attribute o "join" apos) [k] [] cpos) (tM X.K E ca (G9 m mk)):=by
 refine PE.weak (Io ycp PySem.F.slot_str_join PySem.F.type_str_join zj5 ho (Cj hk DU hs) hbase (by rw[hs];rfl) hline hs rfl) λσ H Q h=>?_
 obtain⟨F,τ,R,S,q⟩:=h;refine⟨F,τ,R,S,?_⟩;unfold G9 at q;cases hm:m τ with
 |none=>rw[hm]at q;exact q.elim
 |some r =>
  rw[hm]at q;cases r with
  |x c=>exact q.elim
  |v t b =>
   cases t with
   |str sep =>
    simp only at q;intro F1 H1 x B e1 g1;have hx:=FG g1;subst hx;have e1':Ext F H F1 H1 R0:=e1.mono λ_ z=>z.elim
    refine⟨rfl,F1,τ,R,S.ext e1',?_⟩;cases hk2:mk τ with
    |none=>rw[hk2]at q;exact q.elim
    |some r2 =>
     rw[hk2]at q;cases r2 with
     |x c=>exact q.elim
     |v t2 b2 =>
      cases t2 with
      |nd o2 k2 l =>
       cases k2 with
       |lst =>
        simp only at q;intro F2 H2 z B2 e2 g2
        have hr:∃A,Rp X.K F2 H2 (.nd o2 .lst l) z A:=by
         cases b2 with
         |true=>obtain⟨_,A,_,r⟩:=g2;exact⟨A,r⟩
         |false=>exact⟨_,g2⟩
        obtain⟨A,r⟩:=hr;obtain⟨p,xs,rfl,hH,el,kd⟩:=zmc e2.fh r;cases hy:Ep l with
        |none=>simp only[hy]at q
        |some ys =>
         simp only[hy]at q;have hxs:=Ta hy el kd
         by_cases hz:(ys.map (·.length)).sum+ys.length * sep.length<=AY
         .rw[if_pos hz]at q;exact⟨sep,p,ys,rfl,rfl,by rw[<- hxs];exact hH,hz,q F2 H2 _ R0 ((e1'.trans e2).mono λ_ z=>z.elim) (.str _)⟩
         .rw[if_neg hz]at q;exact q.elim
       |_=>exact q.elim
      |_=>exact q.elim
   |_=>exact q.elim
theorem zfm{K:kA}{F:Hp}(ks:List Str):Ag K F (ks.map T.str) (ks.map V.str):=⟨by simp,λi t x h1 h2=>by
 rw[yaj]at h1 h2;cases h:ks[i]? with
 |none=>rw[h]at h1;cases h1
 |some k =>
  rw[h]at h1 h2;cases h1;cases h2;exact .str k⟩
structure ICls(K:kA)(C:Addr):Prop where
 c:Cls K C
 a:PySem.W.findIn K (.ref C) "__class__"=some (some (.builtin "object.__class__"))
 n:PySem.W.specialIn K (.builtin "object.__class__") "__get__"=some (some (.builtin "getset_descriptor.__get__"))
 k:PySem.W.takesIn K (.builtin "object.__class__")=some true
 m:PySem.W.mroIn K C (.type "object")=some true
def Eb(tb:List (Addr×Bool)):T->Option T
 |.obj (.ins C _) _=>(tb.lookup C).map .bl
 |_=>none
theorem zh7{C D:Addr}{b:Bool}(hC:ICls X.K C)(hk:PySem.W.kitOne X.K (.ref C) (.ref D)=some b):B0 X (.builtin "isinstance") (λxs H Q=>∃a dx fs,xs=[.ref a,.ref D]/\H a=some (.ins C dx fs)/\Q (.bl b) H):=by
 intro pins s σ H xs us Q I r h;obtain⟨a,dx,fs,rfl,e,q⟩:=h;obtain⟨u,w',rfl,rx,ry⟩:=Jc r;cases ry;exact XO I rx (.ins e hC.c hC.a hC.n hC.k hC.m) hk λtk=>⟨.bl b,H,I.tok _,rfl,q⟩
theorem r_isC{D:Addr}{tb:List (Addr×Bool)}{c:Str}(hC:∀C b,tb.lookup C=some b->ICls X.K C/\PySem.W.kitOne X.K (.ref C) (.ref D)=some b)(hg:Gl X "isinstance")(hm:X.mg "isinstance"=none)(hgc:Gl X c)(hmc:X.mg c=some (.ref D))(hd:(c == ("__debug__":Str))=false)(ha:PE X e (tM X.K E ca m))(he:starEach [e,.Name c p2] X.env=(false,eval e X.env)::starEach [.Name c p2] X.env) :
  PE X (.Call (.Name "isinstance" p) [e,.Name c p2] [] pos) (tM X.K E ca (BB (g1 (Eb tb)) (AD m AE))):=by
 have hR:B0 X (.builtin "isinstance") (λxs H Q=>∃C b a dx fs,tb.lookup C=some b/\xs=[.ref a,.ref D]/\H a=some (.ins C dx fs)/\Q (.bl b) H):=λpins s σ H xs us Q I r h=>by
  obtain⟨C,b,a,dx,fs,hl,h⟩:=h;exact zh7 (hC C b hl).1 (hC C b hl).2 pins s σ H xs us Q I r ⟨a,dx,fs,h⟩
 refine PE.weak (KA hR hg hm yct (Cj ha (Cj (Pk (v:=.ref D) hgc hmc rfl hd) DU) he) (by decide) (by decide) he rfl) λσ H Q h=>?_
 refine(FX (GH h)).mono λx H1 h1=>?_
 obtain⟨F,ts,w,fh,rs,e,q⟩:=GG h1;unfold g1 at e;split at e
 .obtain⟨x1,xs1,e1,r1,rs1⟩:=rs.inv;cases e1;unfold Eb at e;split at e
  .obtain⟨b,hb,rfl⟩:=ya4.mp e;obtain⟨a,xs,rfl,_,⟨dx,hF⟩,_,_⟩:=r1.obj_inv;exact⟨_,b,a,dx,_,hb,rfl,fh _ _ hF,q.bl fh⟩
  .cases e
 .cases e
end
end Pu
namespace Zx
open PySem PySem.Spec PyProof.Rows L2 Zw
section
variable {A:Around}{E:Value->Shared->Prop}{M:Model}
end
section
variable {X:Cx}{i1 i2:Nat}{x1 x2 n1 n2:Str}{np1 np2 pos hpos1 hpos2:Pos}{body suite1 suite2:List Stmt}{b1 b2:Stmt}{tb th1 th2:TS}{E:L2.St->XK}
end
end Zx
namespace Pu
open PySem PySem.Spec PyProof.Rows L2 Zw Zx
section
variable {X:Cx}{E:L2.St->XK}{ca:Str->Value}{mu:Bool}{i1 i2:Nat}{x1 x2 n1 n2:Str}{np1 np2 pos hpos1 hpos2:Pos}{body suite1 suite2:List Stmt}{b1 b2:Stmt}{u h1 h2:AB->Option Out}{cs1 cs2:List (Str×Addr)}
end
section
variable {X:Cx}{E:L2.St->XK}{ca:Str->Value}{m:AB->Option Rs}{e:Expr}{pos p p2 p3 p4:Pos}{c1 c2:Str}{t1 t2:List (Addr×Bool)}{kt:Nat}
end
section
variable {X:Cx}{E:L2.St->XK}{ca:Str->Value}{m mk ma:AB->Option Rs}{o k e a:Expr}{pos apos cpos p p2:Pos}
def rSpl:V->List V->Hp->VK->Prop:=λx vs H Q=>∃x1 y:Str,x=.str x1/\vs=[.str y]/\(y.length == 0)=false/\x1.length+2<=AY/\∀p,H p=none->Q (.ref p) (upd H p (.lst ((Txt.split x1 y).map V.str)))
theorem Sw:∀{ys:List Str} {its:List Value},StrsAre its ys->A9 (ys.map V.str) its
 |_,_,.nil=>.nil
 |_,_,.cons y t h=>.cons ⟨_,rfl⟩ (Sw h)
theorem zge:J8 X "str.split" rSpl:=by
 intro pins s σ H x vs v us Q I rx rv h;obtain⟨x1,y,rfl,rfl,hy,hz,q⟩:=h;obtain⟨t,rfl⟩:=(show ∃t,v=Value.str x1 t from rx);obtain⟨u,rfl,ru⟩:=rv.one;obtain⟨u1,rfl⟩:=(show ∃t,u=Value.str y t from ru);rw[Dq]at hz;have hsl:=PyProof.Rows.split_le x1 y
 have Al:∀(l:List (Str×Tok)) (k:Nat),l.map (·.1)=Txt.split x1 y->EP X pins σ Q (.ref s.heap.objs.size) { s with heap:=s.heap.push { cls:=.type "list",data:=.seq (strValues l).toArray },toks:=k }:=λl k e =>
  ⟨.ref _,_,I.lnew (Sw (e▸strsAre_of_values l)) (by rw[ya1];omega),rfl,q _ I.fresh⟩
 have hn:(Builtin.Str.partsBetween x1 (Builtin.Str.occurrences x1 y 0 x1.length (x1.length+1)) y.length).length<=sizeLine:=by
  have e1:=StrLaws.occ_length_le x1 y 0 x1.length (x1.length+1);rw[length_partsBetween];omega
 cases h1:(decide (x1.length<y.length) || decide (Builtin.Str.strKind x1<Builtin.Str.strKind y))
 .cases hf:(Builtin.Str.occurrences x1 y 0 x1.length (x1.length+1)).isEmpty
  .refine yeq ycq (yen _ _ _) ydh (yde _ _) (meets_str_split_sep x1 y t u1 h1 hy hf (by omega) hn) ?_
   show wants _ _ _ { s with toks:=_,heap:=s.heap.push { cls:=.type "list",data:=.seq (strsFrom s.toks (Builtin.Str.partsBetween x1 (Builtin.Str.occurrences x1 y 0 x1.length (x1.length+1)) y.length)).toArray } }
   rw[strsFrom_eq];exact Al (numbered s.toks _) _ ((numbered_texts _ _).trans ((if_neg (yfb h1)).trans (if_neg (yfb hf))).symm)
  .exact yeq ycq (yen _ _ _) ydh (yde _ _) (meets_str_split_not_found x1 y t u1 h1 hy hf) (Al [(x1,t)] s.toks ((if_neg (yfb h1)).trans (if_pos hf)).symm)
 .exact yeq ycq (yen _ _ _) ydh (yde _ _) (meets_str_split_cannot_occur x1 y t u1 h1) (Al [(x1,t)] s.toks (if_pos h1).symm)
def Bn(m mk:AB->Option Rs):AB->Option Rs:=λτ=>match m τ with
 |some (.v (.str x) _)=>(match mk τ with
  |some (.v (.str y) _)=>if (y.length == 0)=false/\x.length+2<=AY then some (.v (.own ((Txt.split x y).map T.str)) false) else none
  |_=>none)
 |_=>none
theorem zi4(ho:PE X o (tM X.K E ca m))(hk:PE X k (tM X.K E ca mk))(hbase:attributeBase o "split" X.env (eval o X.env)=eval o X.env)(hs:starEach [k] X.env=[(false,eval k X.env)])(hline:(apos.endLine == cpos.line)=true) :
  PE X (.Call (.Attribute o "split" apos) [k] [] cpos) (tM X.K E ca (Bn m mk)):=by
 refine PE.weak (Io ycp ycq PySem.F.type_str_split zge ho (Cj hk DU hs) hbase (by rw[hs];rfl) hline hs rfl) λσ H Q h=>?_
 obtain⟨F,τ,R,S,q⟩:=h;refine⟨F,τ,R,S,?_⟩;unfold Bn at q;cases hm:m τ with
 |none=>rw[hm]at q;exact q.elim
 |some r =>
  rw[hm]at q;cases r with
  |x c=>exact q.elim
  |v t b =>
   cases t with
   |str x =>
    simp only at q;intro F1 H1 x' B e1 g1;have hx:=FG g1;subst hx;have e1':Ext F H F1 H1 R0:=e1.mono λ_ z=>z.elim
    refine⟨rfl,F1,τ,R,S.ext e1',?_⟩;cases hk2:mk τ with
    |none=>rw[hk2]at q;exact q.elim
    |some r2 =>
     rw[hk2]at q;cases r2 with
     |x c=>exact q.elim
     |v t2 b2 =>
      cases t2 with
      |str y =>
       simp only at q;intro F2 H2 z B2 e2 g2;have hz:=FG g2;subst hz;have e2':Ext F1 H1 F2 H2 R0:=e2.mono λ_ z=>z.elim
       by_cases hc:(y.length == 0)=false/\x.length+2<=AY
       .rw[if_pos hc]at q;refine⟨x,y,rfl,rfl,hc.1,hc.2,λp hp=>?_⟩
        have gg:Cp X.K F2 H2 (.own ((Txt.split x y).map T.str)) Q:=λF' H' z C e g=>q F' H' z C ((e1'.trans0 e2').trans0 e) g
        exact gg.list e2.fh (zfm _) hp
       .rw[if_neg hc]at q;exact q.elim
      |_=>exact q.elim
   |_=>exact q.elim
end
def Sh(x:Str):It :=
 ⟨λi _=>i<x.cps.size,λi H y H'=>∃p c,y=.ref p/\H p=none/\H'=upd H p (.tup [.int i,.str ⟨#[c]⟩])/\x.cps[i]?=some c,λi _=>i=x.cps.size⟩
theorem Y5{P:Program}{w:World}{A:Around}(hh:A.handled=none)(it:Addr)(x:Str)(t:Tok):Draws P w A it [it] x.cps.size (λi v=>∃c u,x.cps[i]?=some c/\v=.str ⟨#[c]⟩ u) (λi h=>h.IsStrIter it (strIterType x) x t i):=by
 cases ha:(x.cps.all λx=>decide (x<128)) with
 |true =>
  have e:strIterType x="str_ascii_iterator":=by unfold strIterType;rw[ha];rfl
  rw[e];exact Draws.strAscii hh it x t
 |false =>
  have e:strIterType x="str_iterator":=by unfold strIterType;rw[ha];rfl
  rw[e];exact Draws.strWide hh it x t
theorem zcr{P:Program}{w:World}{K:kA}{elts:List Expr}{kk:Nat}{tpos:Pos}(x:Str)(t:Tok)(e it:Addr)(hei:e≠it) :
  Turn P w K (.Tuple elts kk tpos) (Sh x) [e,it] e (λi h=>(∃old,IsEnum h e it i old)/\h.IsStrIter it (strIterType x) x t i) where
 mem:=by simp
 obj:=λi h st b hb=>by
  obtain⟨⟨old,he⟩,o,hi,hc,hd⟩:=st
  rcases yad.mp hb with hb|hb
  .subst hb
   exact⟨_,he,λv z=>by
    have z':Data.fields _=Data.cell v:=z;cases z'⟩
  .have q:b=it:=by simpa using hb
   subst q;exact⟨o,hi,λv z=>by rw[hd]at z;cases z⟩
 keep:=λi h h' st k=>by
  obtain⟨⟨old,he⟩,o,hi,r⟩:=st;exact⟨⟨old,k e (by simp) _ he⟩,o,k it (by simp) o hi,r⟩
 item:=by
  intro X hP hw hK hc i pins s σ H E I hf st hg;subst hP hw hK;obtain⟨⟨old,he⟩,hit⟩:=st;have hi:i<x.cps.size:=hg;have elt:e<s.heap.objs.size:=yah he;have ilt:it<s.heap.objs.size:=by obtain⟨o,q,_⟩:=hit;exact yah q
  have hn:H s.heap.objs.size=none:=I.hok.fresh (yaf _);refine wpAny_pyNext_enum_itemD (Y5 (A:=X.A.in1) (I.ok.hd hc) it x t) he hit hi hei (by simpa using hei) λu h' tk hu ho hit' hT hsz hk=>?_
  obtain⟨c,u',hcx,rfl⟩:=hu
  have I1:Inv X pins σ (upd H s.heap.objs.size (.tup [.int i,.str ⟨#[c]⟩])) { s with heap:=h',toks:=tk+1 }:=by
   refine TF (ch:=[e,it]) I (λb o hb q=>hk b o (λz=>hb (by simp[z])) (λz=>hb (by simp[z])) q) hf (yaf _) ?_
   exact⟨by simp only[ya6,yc9];rw[yel];decide,[.int i tk,.str ⟨#[c]⟩ u'],.cons ⟨_,rfl⟩ (.cons ⟨_,rfl⟩ .nil),_,hT,rfl,0,rfl⟩
  have f1:∀b∈[e,it],CB X pins (upd H s.heap.objs.size (.tup [.int i,.str ⟨#[c]⟩])) b:=λb hb=>YL (hf b hb) (by
   rcases yad.mp hb with hb|hb
   .exact yau (hb▸elt)
   .have q:b=it:=by simpa using hb
    exact yau (q▸ilt))
  refine⟨.ref s.heap.objs.size,rfl,wpAny_letOwnedTupleGo_enum ho λh2 he2 hs2=>?_⟩
  refine⟨.ref s.heap.objs.size,_,HE (t':=tk+1) (ch:=[e]) I1 (λb o hb q=>hs2.extBut b o (λz=>hb (by simp[z])) q) (λb hb=>f1 b (by simp at hb;simp[hb])),rfl,⟨_,c,rfl,hn,rfl,hcx⟩,⟨⟨_,by simpa using he2⟩,?_⟩,λb hb=>(f1 b hb).1⟩
  obtain⟨o,h1,h2⟩:=hit';exact⟨o,hs2.extBut it o (yb1 hei) h1,h2⟩
 done:=by
  intro X hP hw hK hc i pins s σ H E I hf st hg;subst hP hw hK;obtain⟨⟨old,he⟩,hit⟩:=st;have hi:i=x.cps.size:=hg;subst hi;exact wpAny_pyNext_enum_endD (Y5 (A:=X.A.in1) (I.ok.hd hc) it x t) he hit λh' eb=>⟨rfl,HE (t':=s.toks) (ch:=[it]) I (λb o hb q=>eb b o (λz=>hb (by simp[z])) q) (λb hb=>hf b (by simp at hb;simp[hb]))⟩
 self:=λ_ _ _ _ _ st h=>yf2 st.1.choose_spec h
section
variable {X:Cx}{E:L2.St->XK}{ca:Str->Value}{ms:AB->Option RsL}{a:Expr}{elts:List Expr}{kk:Nat}{p pos tpos:Pos}
def zmx(ta:TA):TI:=λσ H R=>ta σ H λvs H1=>∃y,vs=[.str y]/\R (Sh y) H1
theorem zg1{ta:TA}(hg:Gl X "enumerate")(hm:X.mg "enumerate"=none)(ha:PA X [a] ta)(hs:starEach [a] X.env=[(false,eval a X.env)]):PI X (.Tuple elts kk tpos) (.Call (.Name "enumerate" p) [a] [] pos) (zmx ta):=by
 intro pins s σ H R I h;refine Call_ (JC I hg hm boot_enumerate (yc6 (AS (ha pos pins s σ H _ I h) λus s1 ⟨vs,H1,I1,r1,q1⟩=>?_) hs rfl))
 obtain⟨y,rfl,q⟩:=q1;obtain⟨u,rfl,ru⟩:=DP r1;obtain⟨t,rfl⟩:=(show ∃t,u=Value.str y t from ru);refine call_enumerate_str λh' he hit hsz hk=>?_
 have I2:Inv X pins σ H1 { s1 with heap:=h',toks:=s1.toks }:=I1.kept hk
 refine yf2 he ⟨s1.heap.objs.size+1,[s1.heap.objs.size+1,s1.heap.objs.size],_,_,H1,rfl,I2,zcr y t _ _ (by simp),⟨⟨_,he⟩,hit⟩,λb hb=>?_,q⟩
 have hb':s1.heap.objs.size<=b:=by
  rcases yad.mp hb with hb|hb
  .rw[hb];exact ybw _
  .have e:b=s1.heap.objs.size:=by simpa using hb
   rw[e];exact yaf _
 exact I1.fpOk hb' (I1.hok.fresh hb')
theorem ze9{K:kA}{F:Hp}{x:Str}:GC K (Sh x) F (DC 0 (CP x)):=by
 intro i F' H' s1 s2;refine⟨λt ht=>?_,λe=>?_⟩
 .rw[RZ]at ht;obtain⟨t',e1,rfl⟩:=ya4.mp ht;unfold CP at e1;rw[yaj]at e1;obtain⟨c,e2,rfl⟩:=ya4.mp e1;have hi:i<x.cps.size:=by simpa using (yac.mp e2).1
  refine⟨hi,λy H'' z=>?_⟩
  obtain⟨p,c',rfl,hp,rfl,hc⟩:=z;rw[Array.getElem?_toList,hc]at e2;cases e2;refine⟨_,Ext.new (o:=.tup [.int i,.str ⟨#[c]⟩]) s2 hp,Ag.of_node (k:=.tup) (xs:=[.int i,.str ⟨#[c]⟩]) Bq ?_⟩;have e0:((0+i:Nat):Int)=(i:Int):=by simp
  rw[e0];exact .cons (H:=H') (.int _) (.cons (H:=H') (.str _) .nil)
 .show i=x.cps.size;rw[e,RY];simp[CP]
def Gg(ms:AB->Option RsL):AB->Option RsL:=λτ=>match ms τ with
 |some (.v [.str x] false)=>some (.v (DC 0 (CP x)) false)
 |_=>Fm ms τ
theorem r_enX(hg:Gl X "enumerate")(hm:X.mg "enumerate"=none)(ha:PA X [a] (CD X.K E ca ms))(hs:starEach [a] X.env=[(false,eval a X.env)]):PI X (.Tuple elts kk tpos) (.Call (.Name "enumerate" p) [a] [] pos) (tI X.K E ca (Gg ms)):=by
 refine PI.weak (PI.or (U4 hg hm ha hs) (zg1 hg hm ha hs)) λσ H P h=>?_
 obtain⟨F,τ,R,S,q⟩:=h
 by_cases hx:∃x,ms τ=some (.v [.str x] false)
 .obtain⟨x,hm⟩:=hx;have e:Gg ms τ=some (.v (DC 0 (CP x)) false):=by unfold Gg;rw[hm]
  rw[e]at q;refine .inr ⟨F,τ,R,S,?_⟩;rw[hm];intro F1 H1 xs e1 rs;obtain⟨x1,xs1,rfl,r1,rs1⟩:=rs.inv;cases rs1.inv0;rw[r1.str_inv];exact⟨x,rfl,q F1 H1 _ e1 ze9⟩
 .have e:Gg ms τ=Fm ms τ:=by
   unfold Gg;split
   .rename_i x hm;exact absurd ⟨x,hm⟩ hx
   .rfl
  rw[e]at q;exact .inl ⟨F,τ,R,S,q⟩
end
section
variable {X:Cx}{E:L2.St->XK}{ca:Str->Value}{m mk:AB->Option Rs}{o k e:Expr}{pos pos' apos cpos:Pos}
theorem zm7:J8 X "str.startswith" (λx vs H Q=>∃x1 y:Str,x=.str x1/\vs=[.str y]/\Q (.bl (Txt.startswith x1 y)) H):=by
 intro pins s σ H x vs v us Q I rx rv h;obtain⟨x1,y,rfl,rfl,q⟩:=h;obtain⟨t,rfl⟩:=(show ∃t,v=Value.str x1 t from rx);obtain⟨u,rfl,ru⟩:=rv.one;obtain⟨u1,rfl⟩:=(show ∃t,u=Value.str y t from ru);exact SC.startswith ⟨.bl _,H,I,rfl,q⟩
noncomputable def Hc(m mk:AB->Option Rs):AB->Option Rs:=λτ=>match m τ with
 |some (.v (.str x) _)=>(match mk τ with
  |some (.v (.str y) _)=>some (.v (.bl (Txt.startswith x y)) false)
  |_=>none)
 |_=>none
theorem r_stw(ho:PE X o (tM X.K E ca m))(hk:PE X k (tM X.K E ca mk))(hbase:attributeBase o "startswith" X.env (eval o X.env)=eval o X.env)(hs:starEach [k] X.env=[(false,eval k X.env)])(hline:(apos.endLine == cpos.line)=true) :
  PE X (.Call (.Attribute o "startswith" apos) [k] [] cpos) (tM X.K E ca (Hc m mk)):=by
 refine PE.weak (Io ycp PySem.F.slot_str_startswith PySem.F.type_str_startswith zm7 ho (Cj hk DU hs) hbase (by rw[hs];rfl) hline hs rfl) λσ H Q h=>?_
 obtain⟨F,τ,R,S,q⟩:=h;refine⟨F,τ,R,S,?_⟩;unfold Hc at q;cases hm:m τ with
 |none=>rw[hm]at q;exact q.elim
 |some r =>
  rw[hm]at q;cases r with
  |x c=>exact q.elim
  |v t b =>
   cases t with
   |str x =>
    simp only at q;intro F1 H1 x' B e1 g1;have hx:=FG g1;subst hx;have e1':Ext F H F1 H1 R0:=e1.mono λ_ z=>z.elim
    refine⟨rfl,F1,τ,R,S.ext e1',?_⟩;cases hk2:mk τ with
    |none=>rw[hk2]at q;exact q.elim
    |some r2 =>
     rw[hk2]at q;cases r2 with
     |x c=>exact q.elim
     |v t2 b2 =>
      cases t2 with
      |str y =>
       simp only at q;intro F2 H2 z B2 e2 g2;have hz:=FG g2;subst hz;have e2':Ext F1 H1 F2 H2 R0:=e2.mono λ_ z=>z.elim
       exact⟨x,y,rfl,rfl,q F2 H2 _ R0 (e1'.trans0 e2') (.bl _)⟩
      |_=>exact q.elim
   |_=>exact q.elim
theorem zm8:J8 X "str.endswith" (λx vs H Q=>∃x1 y:Str,x=.str x1/\vs=[.str y]/\Q (.bl (Txt.endswith x1 y)) H):=by
 intro pins s σ H x vs v us Q I rx rv h;obtain⟨x1,y,rfl,rfl,q⟩:=h;obtain⟨t,rfl⟩:=(show ∃t,v=Value.str x1 t from rx);obtain⟨u,rfl,ru⟩:=rv.one;obtain⟨u1,rfl⟩:=(show ∃t,u=Value.str y t from ru);exact SC.endswith ⟨.bl _,H,I,rfl,q⟩
noncomputable def Dp(m mk:AB->Option Rs):AB->Option Rs:=λτ=>match m τ with
 |some (.v (.str x) _)=>(match mk τ with
  |some (.v (.str y) _)=>some (.v (.bl (Txt.endswith x y)) false)
  |_=>none)
 |_=>none
theorem r_enw(ho:PE X o (tM X.K E ca m))(hk:PE X k (tM X.K E ca mk))(hbase:attributeBase o "endswith" X.env (eval o X.env)=eval o X.env)(hs:starEach [k] X.env=[(false,eval k X.env)])(hline:(apos.endLine == cpos.line)=true) :
  PE X (.Call (.Attribute o "endswith" apos) [k] [] cpos) (tM X.K E ca (Dp m mk)):=by
 refine PE.weak (Io ycp PySem.F.slot_str_endswith PySem.F.type_str_endswith zm8 ho (Cj hk DU hs) hbase (by rw[hs];rfl) hline hs rfl) λσ H Q h=>?_
 obtain⟨F,τ,R,S,q⟩:=h;refine⟨F,τ,R,S,?_⟩;unfold Dp at q;cases hm:m τ with
 |none=>rw[hm]at q;exact q.elim
 |some r =>
  rw[hm]at q;cases r with
  |x c=>exact q.elim
  |v t b =>
   cases t with
   |str x =>
    simp only at q;intro F1 H1 x' B e1 g1;have hx:=FG g1;subst hx;have e1':Ext F H F1 H1 R0:=e1.mono λ_ z=>z.elim
    refine⟨rfl,F1,τ,R,S.ext e1',?_⟩;cases hk2:mk τ with
    |none=>rw[hk2]at q;exact q.elim
    |some r2 =>
     rw[hk2]at q;cases r2 with
     |x c=>exact q.elim
     |v t2 b2 =>
      cases t2 with
      |str y =>
       simp only at q;intro F2 H2 z B2 e2 g2;have hz:=FG g2;subst hz;have e2':Ext F1 H1 F2 H2 R0:=e2.mono λ_ z=>z.elim
       exact⟨x,y,rfl,rfl,q F2 H2 _ R0 (e1'.trans0 e2') (.bl _)⟩
      |_=>exact q.elim
   |_=>exact q.elim
noncomputable def Jq(i:Nat)(m:AB->Option Rs):AB->Option Out:=λτ=>match τ[i]? with
 |some (some (.int a))=>(match m τ with
  |some (.v (.int b) _)=>some (.nx (τ.set i (some (.int (a+b)))))
  |_=>none)
 |_=>none
theorem s_aug{mu:Bool}{i:Nat}{x:Str}(hN:X.N.Nodup)(hi:X.N[i]?=some x)(hx:FV X.env.scope x)(he:PE X e (tM X.K E ca m))(hf:X.fn x=true\/X.env.scope.names.lookup x=some .local) :
  PS X (.AugAssign (.Name x pos') .Add e pos) (tS X.K E ca mu (Jq i m)):=by
 refine PS.weak (zlb hN hi hx he zmu hf) λD σ H h=>?_
 obtain⟨F,τ,R,S,q⟩:=h;unfold Jq at q;cases ht:τ[i]? with
 |none=>rw[ht]at q;exact q.elim
 |some ot =>
  rw[ht]at q;cases ot with
  |none=>exact q.elim
  |some t =>
   cases t with
   |int a =>
    simp only at q;obtain⟨y,ey,ry⟩:=S.rep i _ ht;have hy:=ry.int_inv;subst hy;refine⟨_,ey,F,τ,R,S,?_⟩;cases hm:m τ with
    |none=>rw[hm]at q;exact q.elim
    |some r =>
     rw[hm]at q;cases r with
     |x c=>exact q.elim
     |v t b =>
      cases t with
      |int z =>
       simp only at q;intro F1 H1 y B e1 g1;have hy:=zjm g1;subst hy;have e1':Ext F H F1 H1 R0:=e1.mono λ_ z=>z.elim
       refine⟨a,z,rfl,rfl,?_⟩;refine q F1 H1 _ _ (e1'.stp0.mono λb ⟨j,w⟩=>⟨j,?_⟩) ((S.ext e1').set (.int (a+z)) (λ_ _ _ _ z=>z.elim) (yac.mp ht).1)
       by_cases hj:j=i
       .simp only[hj,yeo]at w;exact w.elim
       .simpa[hj] using w
      |_=>exact q.elim
   |_=>exact q.elim
end
end Pu
noncomputable section
namespace Pu
open PySem PySem.Spec PyProof.Rows L2 Zw Zx
structure Fn where
 lv:Nat
 ps:List Str
 g:List T->Option Ru
structure Gx where
 co:List (Str×T)
 cl:List (Str×Addr×List Str)
 mt:List (Str×Addr×List Str×Fn)
 nw:List (Str×Fn×List (Nat×List T))
 nr:Bool
 tx:Bool
 df:Bool
 sf:Option (Addr×List Str)
 xs:List (Str×List (Str×Addr))
 sb:List (Str×List (Addr×Bool))
 sv:List (Str×List (Addr×Bool))
 no:Bool
 fo:List Str
 ci:List (Str×List (Addr×Bool))
 x2:List (Str×Str×List (Str×Addr))
 gt:List Str
 wd:List (Str×Fn)
abbrev BW:Gx:=⟨[],[],[],[],false,true,true,none,[],[],[],true,[],[],[],[],[]⟩
set_option genInjectivity false in
structure Gm where
 N:List Str
 nm:List (Str×NameKind)
 ce:List Str
 lv:Nat
 fns:List (Str×Fn)
 bl:List Str
 ex:List Str
 ow:List Str
 pk:List Str
 mu:Bool
 mus:List (Str×Fn)
 mv:List Str
 dc:List Str
 ox:Gx
noncomputable def CH(x:Str):Bool:=!(x == ("__debug__":Str)) && !(x == ("__classdict__":Str)) && !(x == ("__name__":Str))
def LM(nm:List (Str×NameKind))(x:Str):Bool:=nm.lookup x == some .local || nm.lookup x == some .cell || nm.lookup x == some .free
def Bj(nm:List (Str×NameKind))(x:Str):Bool:=nm.lookup x == some .globalImplicit
noncomputable def CJ(N:List Str)(x:Str):Option Nat:=N.findIdx? (· == x)
def Gm.var(Γ:Gm)(x:Str):Option Nat:=if CH x && LM Γ.nm x then CJ Γ.N x else none
def Gm.loc(Γ:Gm)(x:Str):Bool:=CH x && (Γ.nm.lookup x == some .local || Γ.ce.contains x)
def CV:Expr->Bool
 |.Starred ..=>false
 |_=>true
def Pl:Operator->Option (T->T->Option T)
 |.Add=>some AH
 |.Mult=>some DG
 |.Mod=>some Bd
 |.FloorDiv=>some Ee
 |.Pow=>some GW
 |_=>none
def ND:CmpOp->Option (T->T->Option T)
 |.Eq=>some BC
 |.NotEq=>some CI
 |.Lt=>some (Bp λi j=>decide (i<j))
 |.LtE=>some (Bp λi j=>decide (i<=j))
 |.Gt=>some (Bp λi j=>decide (j<i))
 |.GtE=>some (Bp λi j=>decide (j<=i))
 |.Is=>some (Hh false)
 |.IsNot=>some (Hh true)
 |.In=>some Cm
 |.NotIn=>some HY
def NO(f:Str):Option (List T->Option T) :=
 if f="len" then some (g1 BP) else if f="list" then some (g1 Ga) else if f="abs" then some (g1 J2) else
 if f="tuple" then some (g1 LR) else
 if f="int" then some (g1 JH) else
 if f="str" then some (g1 CN) else
 if f="min" then some (g2 MV) else
 if f="all" then some (g1 Eh) else
 if f="any" then some (g1 NS) else none
noncomputable def LP(c:Str):Option String:=if c="int" then some "int" else if c="bool" then some "bool" else if c="str" then some "str" else if c="list" then some "list" else if c="tuple" then some "tuple" else none
def EH:Expr->Bool
 |.IfExp ..=>false
 |.NamedExpr ..=>false
 |_=>true
noncomputable def Bm:Expr->Option (Str×Pos)
 |.Name x p=>some (x,p)
 |_=>none
theorem CY{t:Expr}{x:Str}{p:Pos}(h:Bm t=some (x,p)):t=.Name x p:=by
 unfold Bm at h;split at h
 .cases h;rfl
 .cases h
def Nt:List Expr->List Str
 |[]=>[]
 |e::es=>(match Bm e with
  |some (x,_)=>x::Nt es
  |none=>Nt es)
def C6:Expr->List Str
 |.Name x _=>[x]
 |.Tuple es _ _=>Nt es
 |_=>[]
def Q5:Expr->Bool
 |.Tuple ..=>true
 |_=>false
def Ge:Expr->Bool
 |.Slice ..=>true
 |_=>false
def Ca(nm:List (Str×NameKind)):List Str:=nm.filterMap λ(y,k)=>if k == .free then some y else none
def Rw(nm:List (Str×NameKind)):List Str:=nm.filterMap λ(y,k)=>if k == .cell then some y else none
noncomputable def Js(inner outer:List (Str×NameKind)):List (Str×NameKind):=inner.map λ(n,k)=>if (k == .free && outer.lookup n == some .cell) then (n,.cell) else (n,k)
def Ki(N:List Str):List Str->Option (List Nat)
 |[]=>some []
 |y::r=>(match CJ N y with
  |some i=>(match Ki N r with
   |some l=>some (i::l)
   |none=>none)
  |none=>none)
def Kl(Γ:Gm)(scope:Scope)(N':List Str):Bool :=
 (scope.kind == .function) && scope.names.all (λx=>!(x.2 == .local) || scope.names.lookup x.1 == some .local) &&
 scope.names.all (λx=>!(x.2 == .free) || (scope.names.lookup x.1 == some .free && (Γ.nm.lookup x.1 == some .cell || Γ.nm.lookup x.1 == some .free) && !(scope.names.contains (x.1,NameKind.cell)))) &&
 decide N'.Nodup && (Rw scope.names).all (λy=>(Js scope.names Γ.nm).lookup y == some .cell)
def Gm.blk(Γ:Gm)(scope:Scope)(N':List Str):Gm:={ Γ with N:=N',nm:=Js scope.names Γ.nm,ce:=(Rw scope.names).filter λy=>scope.names.lookup y == some .cell,ow:=[],ox:={ Γ.ox with df:=false,nr:=true } }
def NB(Γ:Gm):List Expr->Option (List T->AB->Option AB)
 |[]=>some DD
 |e::es=>(match Bm e with
  |some (x,_)=>if Γ.loc x then (match CJ Γ.N x,NB Γ es with
   |some i,some b=>some (BX (AG i) b)
   |_,_=>none) else none
  |none=>none)
def dG(Γ:Gm):Expr->Option (T->AB->Option AB)
 |.Name x _=>if Γ.loc x then (CJ Γ.N x).map AG else none
 |.Tuple es _ _=>(NB Γ es).map (Cn es.length)
 |_=>none
def Jy:Expr->Bool
 |.Call ..=>false
 |_=>true
theorem Km{o:Expr}{f:Str}{env:Env}(h:Jy o=true):attributeBase o f env (eval o env)=eval o env:=by
 cases o<;>first|rfl|cases h
def JQ(f:Str)(m:AB->Option Rs):List (Str×Addr×List Str)->Option (AB->Option Rs)
 |[]=>none
 |(_,C,fs)::r=>(match fs.findIdx? (· == f) with
  |some j=>(match JQ f m r with
   |some m2=>some (Ax (Dn C fs j m) m2)
   |none=>some (Dn C fs j m))
  |none=>JQ f m r)
def JY:CmpOp->Option (T->T->Option T)
 |.LtE=>some EL
 |op=>ND op
def setOf(f:Str)(e:Expr)(es:List Expr):Option (Expr×Pos×Pos):=if f="len" then (match es with
 |[]=>(match e with
  |.Call g as ks c=>(match Bm g,as,ks with
   |some (x,p),[a],[]=>if x="set" then some (a,p,c) else none
   |_,_,_=>none)
  |_=>none)
 |_=>none) else none
theorem zf5{f:Str}{e a:Expr}{es:List Expr}{p c:Pos}(h:setOf f e es=some (a,p,c)):f="len"/\es=[]/\e=.Call (.Name "set" p) [a] [] c:=by
 unfold setOf at h;split at h
 .rename_i hf;split at h
  .split at h
   .split at h
    .rename_i hn;split at h
     .rename_i hx;cases h;rw[CY hn,hx];exact⟨hf,rfl,rfl⟩
     .cases h
    .cases h
   .cases h
  .cases h
 .cases h
def JG(Γ:Gm)(m:AB->Option Rs):AB->Option RsL:=if Γ.ox.tx then B7 m else JJ m
def Y4(Γ:Gm)(ms:AB->Option RsL):AB->Option RsL:=if Γ.ox.tx then Gg ms else Fm ms
def OE(Γ:Gm)(ma:AB->Option Rs)(ml mh:Option (AB->Option Rs)):AB->Option Rs:=if Γ.ox.tx then Ax (Ay ma ml mh) (Au ma ml mh) else Ay ma ml mh
def XJ(_:Gm)(_:Expr)(ma mk:AB->Option Rs):AB->Option Rs:=AM ma mk
mutual
def dE:Nat->Gm->Expr->Option (AB->Option Rs)
  |0,_,_=>none
  |n+1,Γ,e=>match e with
    |.Constant (.int i) _ _=>some (mC (.int i))
    |.Constant (.bool b) _ _=>some (mC (.bl b))
    |.Constant .none _ _=>some (mC .non)
    |.Constant (.str x) _ _=>some (mC (.str x))
    |.Name x _=>(match Γ.var x with
      |some i=>some (AA i)
      |none=>if CH x && Bj Γ.nm x then (Γ.ox.co.lookup x).map mC else none)
    |.Attribute o f _=>if Jy o then (match dE n Γ o with
      |some m=>JQ f m Γ.ox.cl
      |none=>none) else none
    |.Call (.Attribute o f ap) es [] c=>if !(Jy o && ap.endLine == c.line && decide (es.length<30)) then none else
      (match dE n Γ o,dA n Γ es with
      |some m,some ms =>
        if f="endswith" then (match es with
          |[k]=>(dE n Γ k).map (Dp m)
          |_=>none)
        else
        if f="startswith" then (match es with
          |[k]=>(dE n Γ k).map (Hc m)
          |_=>none)
        else
        if f="split" then (match es with
          |[k]=>(dE n Γ k).map (Bn m)
          |_=>none)
        else
        if f="join" then (match es with
          |[k]=>(dE n Γ k).map (G9 m)
          |_=>none)
        else
        none
      |_,_=>none)
    |.Compare a [op,op'] [b,c] _=>(match JY op,JY op',dE n Γ a,dE n Γ b,dE n Γ c with
      |some g,some g',some ma,some mb,some mc=>if lastMarks [op,op'] [b,c] then none else some (E8 g g' ma mb mc)
      |_,_,_,_,_=>none)
    |.BinOp a op b _=>(match Pl op,dE n Γ a,dE n Γ b with
      |some g,some ma,some mb=>some (BB (g2 g) (AD ma (AD mb AE)))
      |_,_,_=>none)
    |.UnaryOp .USub a _=>(match dE n Γ a with
      |some ma=>some (BB (g1 Ez) (AD ma AE))
      |none=>none)
    |.UnaryOp .Not a _=>if EH a then (dE n Γ a).map BF else none
    |.BoolOp op vs _=>dB n Γ op vs
    |.Compare a [op] [b] _=>(match ND op,dE n Γ a,dE n Γ b with
      |some g,some ma,some mb=>if behindInMarks op b then none else some (BB (g2 g) (AD ma (AD mb AE)))
      |_,_,_=>none)
    |.IfExp c a b _=>if EH c then (match dE n Γ c,dE n Γ a,dE n Γ b with
      |some mc,some ma,some mb=>some (Dm mc ma mb)
      |_,_,_=>none) else none
    |.List es _=>(dO n Γ es).map AK
    |.Tuple es _ _=>(dA n Γ es).map AO
    |.Subscript a k _=>(match k with
      |.Slice lo hi none _=>(match dE n Γ a,dP n Γ lo,dP n Γ hi with
        |some ma,some ml,some mh=>some (OE Γ ma ml mh)
        |_,_,_=>none)
      |_=>if Ge k then none else (match dE n Γ a,dE n Γ k with
        |some ma,some mk=>some (XJ Γ a ma mk)
        |_,_=>none))
    |.Call (.Name f _) (e::es) [] _ =>
      if CH f && Bj Γ.nm f then
        (if Γ.bl.contains f then
          (if f="isinstance" then (match es with
            |[.Name c _]=>if Bj Γ.nm c && Γ.bl.contains c && CH c && CV e then (match LP c,dE n Γ e with
              |some t,some m=>some (BB (g1 (CK t)) (AD m AE))
              |_,_=>none)
              else if Bj Γ.nm c && CH c && CV e then (match Γ.ox.ci.lookup c,dE n Γ e with
              |some C,some m=>some (BB (g1 (Eb C)) (AD m AE))
              |_,_=>none)
              else none
            |_=>none)
          else (
            match setOf f e es with
            |some (a,_,_)=>if Bj Γ.nm "set" && Γ.bl.contains "set" && CV a then (dE n Γ a).map λm=>BB (g1 IM) (AD m AE) else none
            |none =>
            (match NO f,dA n Γ (e::es) with
              |some g,some ms=>some (BB g ms)
              |_,_=>none)))
        else
         match Γ.ox.nw.lookup f with
         |some (F,ds)=>(match ds.lookup (e::es).length,dA n Γ (e::es) with
           |some dts,some ms=>some (E7 F.g dts ms)
           |_,_=>none)
         |none =>
         (match Γ.fns.lookup f, dA n Γ (e :: es) with
          |some F,some ms=>some (AR F.g ms)
          |_,_=>none))
      else none
    |.ListComp elt [⟨tg,iter,ifs,0⟩] scope _=>dC n Γ elt tg iter ifs scope
    |_=>none
def dA:Nat->Gm->List Expr->Option (AB->Option RsL)
 |0,_,_=>none
 |n+1,Γ,es=>match es with
  |[]=>some AE
  |e::es=>if CV e then (match dE n Γ e,dA n Γ es with
   |some m,some ms=>some (AD m ms)
   |_,_=>none) else none
def dO:Nat->Gm->List Expr->Option (AB->Option RsL)
 |0,_,_=>none
 |n+1,Γ,es=>match es with
  |[]=>some AE
  |e::es=>if CV e then (match dE n Γ e,dO n Γ es with
   |some m,some ms=>some (AF m ms)
   |_,_=>none) else none
def dB:Nat->Gm->BoolOp->List Expr->Option (AB->Option Rs)
 |0,_,_,_=>none
 |n+1,Γ,op,vs=>match vs with
  |[]=>none
  |[a]=>if EH a then dE n Γ a else none
  |a::r=>if EH a then (match op,dE n Γ a,dB n Γ op r with
   |.And,some ma,some mb=>some (Bo ma mb)
   |.Or,some ma,some mb=>some (Bi ma mb)
   |_,_,_=>none) else none
def dP:Nat->Gm->Option Expr->Option (Option (AB->Option Rs))
 |0,_,_=>none
 |n+1,Γ,o=>match o with
  |none=>some none
  |some e=>(dE n Γ e).map some
def dC:Nat->Gm->Expr->Expr->Expr->List Expr->Scope->Option (AB->Option Rs)
 |0,_,_,_,_,_,_=>none
 |n+1,Γ,elt,tg,iter,ifs,scope =>
  if Kl Γ scope (C6 tg++Ca scope.names) then (match Ki Γ.N (Ca scope.names),dI n Γ tg iter,dG (Γ.blk scope (C6 tg++Ca scope.names)) tg,dE n (Γ.blk scope (C6 tg++Ca scope.names)) elt with
   |some caps,some mi,some b,some me=>(match ifs with
    |[]=>some (BO (C6 tg).length caps mi b (mC (.bl true)) me)
    |[c]=>if EH c then (match dE n (Γ.blk scope (C6 tg++Ca scope.names)) c with
     |some mt=>some (BO (C6 tg).length caps mi b mt me)
     |none=>none) else none
    |_=>none)
   |_,_,_,_=>none) else none
def dI:Nat->Gm->Expr->Expr->Option (AB->Option RsL)
 |0,_,_,_=>none
 |n+1,Γ,tg,e=>match e with
  |.Call (.Name f _) [a] [] _ =>
   if f="range" then (if Bj Γ.nm f && Γ.bl.contains f && CV a then (dA n Γ [a]).map DX else none)
   else if f="enumerate" then (if Bj Γ.nm f && Γ.bl.contains f && CV a && Q5 tg then (dA n Γ [a]).map (Y4 Γ) else none)
   else (dE n Γ e).map (JG Γ)
  |.Call (.Name f _) [a,b] [] _ =>
   if f="range" then none
   else (dE n Γ e).map (JG Γ)
  |.Set ..=>none
  |_=>(dE n Γ e).map (JG Γ)
end
def BE(n:Nat)(Γ:Gm)(e:Expr):Option (AB->Option Rs):=match e with
    |.Constant (.int i) _ _=>some (mC (.int i))
    |.Constant (.bool b) _ _=>some (mC (.bl b))
    |.Constant .none _ _=>some (mC .non)
    |.Constant (.str x) _ _=>some (mC (.str x))
    |.Name x _=>(match Γ.var x with
      |some i=>some (AA i)
      |none=>if CH x && Bj Γ.nm x then (Γ.ox.co.lookup x).map mC else none)
    |.Attribute o f _=>if Jy o then (match dE n Γ o with
      |some m=>JQ f m Γ.ox.cl
      |none=>none) else none
    |.Call (.Attribute o f ap) es [] c=>if !(Jy o && ap.endLine == c.line && decide (es.length<30)) then none else
      (match dE n Γ o,dA n Γ es with
      |some m,some ms =>
        if f="endswith" then (match es with
          |[k]=>(dE n Γ k).map (Dp m)
          |_=>none)
        else
        if f="startswith" then (match es with
          |[k]=>(dE n Γ k).map (Hc m)
          |_=>none)
        else
        if f="split" then (match es with
          |[k]=>(dE n Γ k).map (Bn m)
          |_=>none)
        else
        if f="join" then (match es with
          |[k]=>(dE n Γ k).map (G9 m)
          |_=>none)
        else
        none
      |_,_=>none)
    |.Compare a [op,op'] [b,c] _=>(match JY op,JY op',dE n Γ a,dE n Γ b,dE n Γ c with
      |some g,some g',some ma,some mb,some mc=>if lastMarks [op,op'] [b,c] then none else some (E8 g g' ma mb mc)
      |_,_,_,_,_=>none)
    |.BinOp a op b _=>(match Pl op,dE n Γ a,dE n Γ b with
      |some g,some ma,some mb=>some (BB (g2 g) (AD ma (AD mb AE)))
      |_,_,_=>none)
    |.UnaryOp .USub a _=>(match dE n Γ a with
      |some ma=>some (BB (g1 Ez) (AD ma AE))
      |none=>none)
    |.UnaryOp .Not a _=>if EH a then (dE n Γ a).map BF else none
    |.BoolOp op vs _=>dB n Γ op vs
    |.Compare a [op] [b] _=>(match ND op,dE n Γ a,dE n Γ b with
      |some g,some ma,some mb=>if behindInMarks op b then none else some (BB (g2 g) (AD ma (AD mb AE)))
      |_,_,_=>none)
    |.IfExp c a b _=>if EH c then (match dE n Γ c,dE n Γ a,dE n Γ b with
      |some mc,some ma,some mb=>some (Dm mc ma mb)
      |_,_,_=>none) else none
    |.List es _=>(dO n Γ es).map AK
    |.Tuple es _ _=>(dA n Γ es).map AO
    |.Subscript a k _=>(match k with
      |.Slice lo hi none _=>(match dE n Γ a,dP n Γ lo,dP n Γ hi with
        |some ma,some ml,some mh=>some (OE Γ ma ml mh)
        |_,_,_=>none)
      |_=>if Ge k then none else (match dE n Γ a,dE n Γ k with
        |some ma,some mk=>some (XJ Γ a ma mk)
        |_,_=>none))
    |.Call (.Name f _) (e::es) [] _ =>
      if CH f && Bj Γ.nm f then
        (if Γ.bl.contains f then
          (if f="isinstance" then (match es with
            |[.Name c _]=>if Bj Γ.nm c && Γ.bl.contains c && CH c && CV e then (match LP c,dE n Γ e with
              |some t,some m=>some (BB (g1 (CK t)) (AD m AE))
              |_,_=>none)
              else if Bj Γ.nm c && CH c && CV e then (match Γ.ox.ci.lookup c,dE n Γ e with
              |some C,some m=>some (BB (g1 (Eb C)) (AD m AE))
              |_,_=>none)
              else none
            |_=>none)
          else (
            match setOf f e es with
            |some (a,_,_)=>if Bj Γ.nm "set" && Γ.bl.contains "set" && CV a then (dE n Γ a).map λm=>BB (g1 IM) (AD m AE) else none
            |none =>
            (match NO f,dA n Γ (e::es) with
              |some g,some ms=>some (BB g ms)
              |_,_=>none)))
        else
         match Γ.ox.nw.lookup f with
         |some (F,ds)=>(match ds.lookup (e::es).length,dA n Γ (e::es) with
           |some dts,some ms=>some (E7 F.g dts ms)
           |_,_=>none)
         |none =>
         (match Γ.fns.lookup f, dA n Γ (e :: es) with
          |some F,some ms=>some (AR F.g ms)
          |_,_=>none))
      else none
    |.ListComp elt [⟨tg,iter,ifs,0⟩] scope _=>dC n Γ elt tg iter ifs scope
    |_=>none
theorem BG{n:Nat}{Γ:Gm}{e:Expr}:dE (n+1) Γ e=BE n Γ e:=rfl
end Pu
end
namespace Pu
open PySem PySem.Spec PyProof.Rows L2 Zw Zx
structure GxOk(G:Gx)(lv:Nat)(P:Program)(w:World)(K:kA)(mg:Str->Option Value)(base:Heap)(ca:Str->Value):Prop where
 co:∀x t,G.co.lookup x=some t->∃u v,mg x=some u/\RelV v u/\∀F:Hp,Rp K F F t v R0
 cl:∀c∈G.cl,Cls K c.2.1/\∀f∈c.2.2,BM K c.2.1 f
 mt:∀c∈G.mt,c.2.2.2.lv<=lv/\Nonempty (MetX P w K mg base c.2.1 c.1 c.2.2.2.lv c.2.2.2.ps (Bv K ca c.2.2.2.g))
 nw:∀x F ds,G.nw.lookup x=some (F,ds)->F.lv+1<=lv/\∃(C:Addr) (D:NewX P w K mg base x C F.lv F.ps (DQ K ca C F.g)),∀k dts,ds.lookup k=some dts->∃dvs us,Cq K D.fd F.ps us/\A9 dvs us/\∀H:Hp,Ag K H dts dvs
 sf:∀C fs,G.sf=some (C,fs)->Cls K C/\∀f∈fs,BM K C f
 xs:∀W cs,G.xs.lookup W=some cs->∃T:ECls K mg W,∀c C,cs.lookup c=some C->ca c=.ref C/\PySem.W.subIn K (.ref C) (.ref T.C)=some true
 sb:∀D tb,G.sb.lookup D=some tb->∃A:Addr,mg D=some (.ref A)/\∀C b,tb.lookup C=some b->ExcK K C/\PySem.W.kitOne K (.ref C) (.ref A)=some b
 sv:∀D tb,G.sv.lookup D=some tb->mg D=none/\∃t,bootBuiltins D=some (.type t)/\∀C b,tb.lookup C=some b->ExcK K C/\PySem.W.kitOne K (.ref C) (.type t)=some b
 ci:∀x tb,G.ci.lookup x=some tb->∃D:Addr,mg x=some (.ref D)/\∀C b,tb.lookup C=some b->ICls K C/\PySem.W.kitOne K (.ref C) (.ref D)=some b
 x2:∀W1 W2 cs,(W1,W2,cs)∈G.x2->∃(T1:ECls K mg W1) (T2:ECls K mg W2),∀c C,cs.lookup c=some C->ca c=.ref C/\PySem.W.subIn K (.ref C) (.ref T1.C)=some false/\PySem.W.subIn K (.ref C) (.ref T2.C)=some true
 wd:∀x F,G.wd.lookup x=some F->F.lv<=lv/\∃p,F.ps=[p]/\Nonempty (DefS P w K mg base F.lv x p (Bv K ca F.g))
structure CxOk(Γ:Gm)(X:Cx)(E:L2.St->XK)(ca:Str->Value):Prop where
 N:X.N=Γ.N
 nd:Γ.N.Nodup
 nm:X.env.scope.names=Γ.nm
 kd:X.env.scope.kind=.function
 calm:X.calm=true
 room:Room Γ.lv X.A
 ce:∀x∈Γ.ce,X.fn x=true/\Γ.nm.lookup x=some .cell
 bl:∀b∈Γ.bl,X.mg b=none
 ps:BH X E
 po:Γ.ox.nr=false->PassesOwn (model X.prog X.w) X.A X.env X.xe
 md:Γ.ox.nr=false->Sf X E
 fs:∀f F,Γ.fns.lookup f=some F->F.lv<=Γ.lv/\Nonempty (DefX X.prog X.w X.K X.mg X.base F.lv f F.ps (Bv X.K ca F.g))
 ex:∀c∈Γ.ex,∃T:ECls X.K X.mg c,ca c=.ref T.C
 ms:∀f F,Γ.mus.lookup f=some F->F.lv<=Γ.lv/\Nonempty (DefX X.prog X.w X.K X.mg X.base F.lv f F.ps (Jh X.K ca F.g))
 gx:GxOk Γ.ox Γ.lv X.prog X.w X.K X.mg X.base ca
 tr:Γ.ox.df=true->X.stack=X.env::X.outer/\X.env.frame=some X.env.locals
 fr:Gw X
theorem FE{N:List Str}{x:Str}{i:Nat}(h:CJ N x=some i):N[i]?=some x:=by
 unfold CJ at h;obtain⟨h1,h2,_⟩:=ybg.mp h;rw[ya5 h1];exact congrArg some (eq_of_beq h2)
theorem DT{x:Str}(h:CH x=true):(x == ("__debug__":Str))=false/\(x == ("__classdict__":Str))=false/\x≠"__name__":=by
 unfold CH at h
 simp only[ya2,ycb]at h;exact⟨h.1.1,h.1.2,λz=>by
  have:=h.2;rw[z]at this;simp at this⟩
theorem Np{sc:Scope}{x:Str}(h:LM sc.names x=true):Dc sc x:=by
 unfold LM at h;simp only[ybq,yex]at h
 rcases h with (h|h)|h
 .exact .inl h
 .exact .inr (.inl h)
 .exact .inr (.inr h)
theorem Bl{e:Expr}{es:List Expr}{env:Env}(h:CV e=true):starEach (e::es) env=(false,eval e env)::starEach es env:=by
 cases e<;>first|rfl|cases h
theorem Jg:∀{es:List Expr} {env:Env} {pos:Pos},(∀e∈es,CV e=true)->(backTo pos (starEach es env)).any (·.1)=false
 |[],env,pos,_=>rfl
 |e::es,env,pos,h=>by
  rw[Bl (h e (ya3 ..))];have ih:=Jg (es:=es) (env:=env) (pos:=pos) λx hx=>h x (ya0 _ hx)
  show(false || (backTo pos (starEach es env)).any (·.1))=false
  rw[ih]
  rfl
theorem Fs:∀{n:Nat} {Γ:Gm} {es:List Expr} {ms:AB->Option RsL},dA n Γ es=some ms->∀e∈es,CV e=true
 |0,_,_,_,h=>by cases h
 |n+1,Γ,[],_,_=>λe he=>by cases he
 |n+1,Γ,e::es,ms,h=>by
  unfold dA at h;simp only at h;split at h
  .rename_i hs;split at h
   .rename_i m ms' h1 h2;intro x hx;rcases yad.mp hx with rfl|hx
    .exact hs
    .exact Fs h2 x hx
   .cases h
  .cases h
section
variable {Γ:Gm}{X:Cx}{E:L2.St->XK}{ca:Str->Value}
theorem CxOk.var(C:CxOk Γ X E ca){x:Str}{i:Nat}{pos:Pos}(h:Γ.var x=some i):X.N[i]?=some x/\Dc X.env.scope x/\(x == ("__debug__":Str))=false/\(x == ("__classdict__":Str))=false:=by
 unfold Gm.var at h;split at h
 .rename_i hp;rw[ya2]at hp;obtain⟨p1,p2,p3⟩:=DT hp.1;exact⟨by rw[C.N];exact FE h,Np (by rw[C.nm];exact hp.2),p1,p2⟩
 .cases h
theorem CxOk.gl(C:CxOk Γ X E ca){x:Str}(h:Bj Γ.nm x=true):Gl X x:=by
 unfold Bj at h;show X.env.scope.names.lookup x=some .globalImplicit;rw[C.nm];exact eq_of_beq h
theorem CxOk.loc(C:CxOk Γ X E ca){x:Str}{i:Nat}(h:Γ.loc x=true)(hi:CJ Γ.N x=some i):X.N[i]?=some x/\FV X.env.scope x/\(X.fn x=true\/X.env.scope.names.lookup x=some .local):=by
 unfold Gm.loc at h;simp only[ya2,ybq,yex]at h;refine⟨by rw[C.N];exact FE hi,?_⟩
 rcases h.2 with h|h
 .exact⟨.inl (by rw[C.nm];exact h),.inr (by rw[C.nm];exact h)⟩
 .obtain⟨c1,c2⟩:=C.ce x (yb5.mp h);exact⟨.inr (by rw[C.nm];exact c2),.inl c1⟩
theorem CxOk.nodup(C:CxOk Γ X E ca):X.N.Nodup:=by rw[C.N];exact C.nd
theorem Wm(C:CxOk Γ X E ca){x:Str}{i:Nat}{pos:Pos}(h1:Γ.loc x=true)(h2:CJ Γ.N x=some i):PG X (.Name x pos) (Dg X.K (AG i)):=by
 obtain⟨g1,g2,g3⟩:=C.loc h1 h2;exact g_nm C.nodup g1 g2 g3
theorem Yg(C:CxOk Γ X E ca):∀{es:List Expr} {b:List T->AB->Option AB},NB Γ es=some b->De X es (IV X.K b)/\(assignEach es X.env).length=es.length/\(assignEach es X.env).findIdx? (·.1)=none
 |[],b,h=>by
  cases h;exact⟨g_nil,rfl,rfl⟩
 |e::es,b,h=>by
  unfold NB at h;split at h
  .rename_i x p hn;have hn:=CY hn;subst hn;split at h
   .rename_i hl;split at h
    .rename_i i b' h1 h2;cases h;obtain⟨q1,q2,q3⟩:=Yg C h2;refine⟨zmz (Wm C hl h1) q1 rfl,?_,?_⟩
     .show(assignEach es X.env).length+1=es.length+1;rw[q2]
     .show List.findIdx? (·.1) ((false,assign (.Name x p) X.env)::assignEach es X.env)=none
      rw[List.findIdx?_cons,q3]
      rfl
    .cases h
   .cases h
  .cases h
theorem R9(C:CxOk Γ X E ca){tg:Expr}{b:T->AB->Option AB}(h:dG Γ tg=some b):PG X tg (Dg X.K b):=by
 unfold dG at h;split at h
 .split at h
  .rename_i hl;obtain⟨i,hi,rfl⟩:=ya4.mp h;exact Wm C hl hi
  .cases h
 .obtain⟨bs,hb,rfl⟩:=ya4.mp h;obtain⟨q1,q2,q3⟩:=Yg C hb;exact g_tup C.calm q1 q2 q3
 .cases h
theorem zlz{op:Operator}{g:T->T->Option T}(h:Pl op=some g):Ad X (binaryOp op) (B5 X.K g):=by
 cases op<;>cases h
 .exact VJ
 .exact ziu
 .exact ziv
 .exact zit
 .exact zg6
theorem Rj(C:CxOk Γ X E ca){op:CmpOp}{g:T->T->Option T}(h:ND op=some g):Ad X (compareOp op) (B5 X.K g):=by
 have hu:=C.room.units;cases op<;>cases h
 .exact zlx hu
 .exact VI hu
 .exact ML op_lt
 .exact ML VH
 .exact ML op_gt
 .exact ML op_ge
 .exact zlv
 .exact zdy
 .exact zlw hu
 .exact zdx hu
theorem NF(C:CxOk Γ X E ca){op:CmpOp}{g:T->T->Option T}(h:JY op=some g):Ad X (compareOp op) (B5 X.K g):=by
 unfold JY at h;split at h
 .cases h;exact ziw
 .exact Rj C h
theorem zjp{L:List (Str×Addr×List Str)}(hL:∀c∈L,Cls X.K c.2.1/\∀f∈c.2.2,BM X.K c.2.1 f){f:Str}{m:AB->Option Rs}{o:Expr}{pos:Pos}(ho:PE X o (tM X.K E ca m))(hb:attributeBase o f X.env (eval o X.env)=eval o X.env):∀{m':AB->Option Rs},JQ f m L=some m'->PE X (.Attribute o f pos) (tM X.K E ca m'):=by
 induction L with
 |nil=>intro m' h;cases h
 |cons c r ih =>
  obtain⟨nmc,C0,fs⟩:=c;intro m' h;have ih':=@ih (λc hc=>hL c (ya0 _ hc))
  unfold JQ at h;split at h
  .rename_i j hj;obtain⟨h1,h2⟩:=hL _ (ya3 ..)
   have hf:f∈fs:=by
    obtain⟨q1,q2,_⟩:=ybg.mp hj;rw[<- eq_of_beq q2];exact ydo q1
   have p1:PE X (.Attribute o f pos) (tM X.K E ca (Dn C0 fs j m)):=r_fld h1 (h2 f hf) hj ho hb;split at h
   .rename_i m2 hm2;cases h;exact U9 p1 (ih' hm2)
   .cases h;exact p1
  .exact ih' h
set_option maxHeartbeats 1000001 in
theorem zjt(C:CxOk Γ X E ca){f:Str}{g:List T->Option T}{e:Expr}{es:List Expr}{ms:AB->Option RsL}{p pos:Pos}(h:NO f=some g)(hg:Bj Γ.nm f=true)(hb:f∈Γ.bl)(ha:PA X (e::es) (CD X.K E ca ms))(hs:∀x∈e::es,CV x=true)(hp:CH f=true) :
  PE X (.Call (.Name f p) (e::es) [] pos) (tM X.K E ca (BB g ms)):=by
 have G:=C.gl hg;have B:=C.bl f hb;obtain⟨p1,p2,p3⟩:=DT hp;have s1:=Bl (es:=es) (env:=X.env) (hs e (ya3 ..));have s2:=Jg (env:=X.env) (pos:=pos) λx hx=>hs x (ya0 e hx)
 unfold NO at h;split at h
 .rename_i hf;subst hf;cases h;exact Ii ZC G B PySem.boot_len ha p3 p1 s1 s2
 split at h
 .rename_i hf;subst hf;cases h;exact MF zdg G B PyProof.Rows.boot_list ha p3 p1 s1 s2
 split at h
 .rename_i hf;subst hf;cases h;exact Ii zeu G B PyProof.Rows.boot_abs ha p3 p1 s1 s2
 split at h
 .rename_i hf;subst hf;cases h;exact MF zen G B PyProof.Rows.boot_tuple ha p3 p1 s1 s2
 split at h
 .rename_i hf;subst hf;cases h;exact MF zer G B PyProof.Rows.boot_int ha p3 p1 s1 s2
 split at h
 .rename_i hf;subst hf;cases h;exact MF zeo G B PyProof.Rows.boot_str ha p3 p1 s1 s2
 split at h
 .rename_i hf;subst hf;cases h;exact Ii (zep C.calm) G B PyProof.Rows.boot_min ha p3 p1 s1 s2
 split at h
 .rename_i hf;subst hf;cases h;exact Ii (zet C.calm) G B PyProof.Rows.boot_all ha p3 p1 s1 s2
 split at h
 .rename_i hf;subst hf;cases h;exact Ii (zes C.calm) G B PyProof.Rows.boot_any ha p3 p1 s1 s2
 .cases h
theorem zdk{c:Str}{t:String}(h:LP c=some t):bootBuiltins c=some (.type t):=by
 unfold LP at h;split at h
 .rename_i hf;subst hf;cases h;exact PyProof.Rows.boot_int
 split at h
 .rename_i hf;subst hf;cases h;exact PyProof.Rows.boot_bool
 split at h
 .rename_i hf;subst hf;cases h;exact PyProof.Rows.boot_str
 split at h
 .rename_i hf;subst hf;cases h;exact PyProof.Rows.boot_list
 split at h
 .rename_i hf;subst hf;cases h;exact PyProof.Rows.boot_tuple
 .cases h
theorem Yw{N:List Str}:∀{ys:List Str} {caps:List Nat},Ki N ys=some caps->ys.length=caps.length/\∀(k j:Nat),caps[k]?=some j->∃y,ys[k]?=some y/\N[j]?=some y
 |[],caps,h=>by cases h;exact⟨rfl,λk j e=>by simp at e⟩
 |y::r,caps,h=>by
  unfold Ki at h;split at h
  .rename_i i hi;split at h
   .rename_i l hl;cases h;obtain⟨h1,h2⟩:=Yw hl;refine⟨by simp[h1],λk j e=>?_⟩
    cases k with
    |zero=>simp at e;subst e;exact⟨y,rfl,FE hi⟩
    |succ k=>exact h2 k j (by simpa using e)
   .cases h
  .cases h
theorem zee{nm:List (Str×NameKind)}{y:Str}(h:y∈Ca nm):(y,NameKind.free)∈nm:=by
 unfold Ca at h;obtain⟨⟨z,k⟩,hz,e⟩:=yc7.mp h;simp only at e;split at e
 .rename_i hk;cases e;rw[<- eq_of_beq hk];exact hz
 .cases e
theorem znh(C:CxOk Γ X E ca){scope:Scope}{tg:Expr}{caps:List Nat}(h:Kl Γ scope (C6 tg++Ca scope.names)=true)(hc:Ki Γ.N (Ca scope.names)=some caps):BlkOk X scope (C6 tg++Ca scope.names) (C6 tg).length caps:=by
 unfold Kl at h;simp only[ya2]at h;obtain⟨⟨⟨⟨h1,h2⟩,h3⟩,h4⟩,h5⟩:=h;obtain⟨l1,l2⟩:=Yw hc
 have free:∀y∈scope.names,y.2=.free->scope.names.lookup y.1=some .free/\(Γ.nm.lookup y.1=some .cell\/Γ.nm.lookup y.1=some .free)/\(y.1,NameKind.cell)∉scope.names:=λy hy hf=>by
  have q:=yab.mp h3 y hy;simp only[hf,yf3,ydm,ybp,ya2,yex,ybq,ycb]at q;refine⟨q.1.1,q.1.2,λz=>?_⟩
  have:=yb5.mpr z;rw[this]at q;exact Bool.noConfusion q.2
 refine⟨eq_of_beq h1,λy hy hl=>?_,by simp[l1],λk j e=>?_,λy hy hf=>?_⟩
 .have q:=yab.mp h2 y hy;simp only[hl,yf3,ydm,ybp,yex]at q;exact q
 .obtain⟨y,e1,e2⟩:=l2 k j e;have fm:=zee (List.mem_of_getElem? e1);obtain⟨f1,_,f3⟩:=free _ fm rfl;refine⟨y,by rw[C.N];exact e2,?_,f1,f3⟩
  rw[yb0 (by omega)]
  simpa using e1
 .obtain⟨f1,f2,_⟩:=free y hy hf;refine⟨f1,?_⟩;rw[C.nm];exact f2
theorem zfo{scope:Scope}{env:Env}(hk:env.scope.kind=.function):(relabel scope env).names=Js scope.names env.scope.names:=by
 unfold relabel Js;simp only;refine List.map_congr_left λx hx=>?_
 obtain⟨n,k⟩:=x;have e:(env.scope.kind == ScopeKind.function)=true:=by rw[hk];rfl
 simp only[e,Bool.and_true]
 rfl
theorem SR(C:CxOk Γ X E ca){scope:Scope}{N':List Str}(h:Kl Γ scope N'=true)(cl:List (Str×Addr))(A:Addr)(s₀:Shared)(H₀:Hp)(ex:List Addr)(xb:Value->Shared->Prop){E':L2.St->XK}(hp:BH (Ai X scope cl N' A s₀ H₀ ex xb) E'):CxOk (Γ.blk scope N') (Ai X scope cl N' A s₀ H₀ ex xb) E' ca:=by
 unfold Kl at h;simp only[ya2]at h;obtain⟨⟨⟨⟨h1,h2⟩,h3⟩,h4⟩,h5⟩:=h;refine⟨rfl,yf5 h4,?_,?_,C.calm,C.room,λx hx=>?_,C.bl,hp,λz=>(by cases z),λz=>(by cases z),C.fs,C.ex,C.ms,⟨C.gx.co,C.gx.cl,C.gx.mt,C.gx.nw,C.gx.sf,C.gx.xs,C.gx.sb,C.gx.sv,C.gx.ci,C.gx.x2,C.gx.wd⟩,λz=>(by cases z),C.fr⟩
 .show(relabel scope X.env).names=Js scope.names Γ.nm;rw[zfo C.kd,C.nm]
 .show scope.kind=.function;exact eq_of_beq h1
 .have hx':x∈(Rw scope.names).filter λy=>scope.names.lookup y == some .cell:=hx
  rw[List.mem_filter]at hx';refine⟨yer (eq_of_beq hx'.2),?_⟩;exact eq_of_beq (yab.mp h5 x hx'.1)
end
structure Good(ca:Str->Value)(n:Nat):Prop where
 e:∀{Γ:Gm} {X:Cx} {E:L2.St->XK} {e:Expr} {m:AB->Option Rs},CxOk Γ X E ca->dE n Γ e=some m->PE X e (tM X.K E ca m)
 t:∀{Γ:Gm} {X:Cx} {E:L2.St->XK} {e:Expr} {m:AB->Option Rs},CxOk Γ X E ca->EH e=true->dE n Γ e=some m->PT X e (Ao X.K E ca m)
 a:∀{Γ:Gm} {X:Cx} {E:L2.St->XK} {es:List Expr} {m:AB->Option RsL},CxOk Γ X E ca->dA n Γ es=some m->PA X es (CD X.K E ca m)
 o:∀{Γ:Gm} {X:Cx} {E:L2.St->XK} {es:List Expr} {m:AB->Option RsL},CxOk Γ X E ca->dO n Γ es=some m->PA X es (IU X.K E ca m)
 b:∀{Γ:Gm} {X:Cx} {E:L2.St->XK} {op:BoolOp} {es:List Expr} {m:AB->Option Rs} {pos:Pos},CxOk Γ X E ca->dB n Γ op es=some m->PE X (.BoolOp op es pos) (tM X.K E ca m)/\PW X (.BoolOp op es pos) (Ao X.K E ca m)
 p:∀{Γ:Gm} {X:Cx} {E:L2.St->XK} {o:Option Expr} {m:Option (AB->Option Rs)},CxOk Γ X E ca->dP n Γ o=some m->PO X o (HF X.K m)
 c:∀{Γ:Gm} {X:Cx} {E:L2.St->XK} {elt tg iter:Expr} {ifs:List Expr} {scope:Scope} {m:AB->Option Rs} {pos:Pos},CxOk Γ X E ca->dC n Γ elt tg iter ifs scope=some m->PE X (.ListComp elt [⟨tg,iter,ifs,0⟩] scope pos) (tM X.K E ca m)
 i:∀{Γ:Gm} {X:Cx} {E:L2.St->XK} {tg e:Expr} {m:AB->Option RsL},CxOk Γ X E ca->dI n Γ tg e=some m->PI X tg e (tI X.K E ca m)
def WL:Expr->Bool
 |.Set ..=>false
 |_=>true
theorem Qq{e:Expr}{env:Env}(h:WL e=true)(x:Value):foldedSetIterable e env x=pure x:=by
 cases e<;>first|rfl|cases h
theorem R8:∀{n:Nat} {Γ:Gm} {tg e:Expr} {m:AB->Option RsL},dI n Γ tg e=some m->WL e=true:=by
 intro n Γ tg e m h;cases n with
 |zero=>cases h
 |succ n =>
  cases e with
  |Set es k p=>unfold dI at h;cases h
  |_=>rfl
theorem Us{k:Expr}(h:Ge k=false):Sd k:=λo i=>by
 cases k<;>first|rfl|cases h
theorem zhf{e:Expr}{env:Env}(h:match e with|.UnaryOp ..=>False|.BoolOp ..=>False|.IfExp ..=>False|.Compare ..=>False|_=>True)(whole:Sem Value):isTrue e env whole=(do let v <- whole;standAt e.pos;holding [v] (truthy v)):=by
 cases e<;>first|rfl|exact False.elim h
section
variable {ca:Str->Value}{n:Nat}
theorem Ym(G:Good ca n){Γ:Gm}{X:Cx}{E:L2.St->XK}{elt tg iter:Expr}{ifs:List Expr}{scope:Scope}{m:AB->Option Rs}(C:CxOk Γ X E ca)(h:dC (n+1) Γ elt tg iter ifs scope=some m) :
  ∃caps mi b mt me,m=BO (C6 tg).length caps mi b mt me/\BlkOk X scope (C6 tg++Ca scope.names) (C6 tg).length caps/\PI X tg iter (tI X.K E ca mi) /\
   (∀cl A s₀ H₀ ex xb E',BH (Ai X scope cl (C6 tg++Ca scope.names) A s₀ H₀ ex xb) E'->PG (Ai X scope cl (C6 tg++Ca scope.names) A s₀ H₀ ex xb) tg (Dg X.K b))/\(∀cl A s₀ H₀ ex xb E',BH (Ai X scope cl (C6 tg++Ca scope.names) A s₀ H₀ ex xb) E'->Gv (Ai X scope cl (C6 tg++Ca scope.names) A s₀ H₀ ex xb) ifs (Ao X.K E' ca mt)) /\
   (∀cl A s₀ H₀ ex xb E',BH (Ai X scope cl (C6 tg++Ca scope.names) A s₀ H₀ ex xb) E'->PE (Ai X scope cl (C6 tg++Ca scope.names) A s₀ H₀ ex xb) elt (tM X.K E' ca me))/\∀x,foldedSetIterable iter X.env x=pure x:=by
 unfold dC at h;split at h
 .rename_i hb;split at h
  .rename_i caps mi b me h1 h2 h3 h4;have B:=znh C hb h1;have PB:=λcl A s₀ H₀ ex xb E' hp=>R9 (SR C hb cl A s₀ H₀ ex xb (E':=E') hp) h3
   have PEl:=λcl A s₀ H₀ ex xb E' hp=>G.e (SR C hb cl A s₀ H₀ ex xb (E':=E') hp) h4
   split at h
   .cases h;exact⟨caps,mi,b,_,me,rfl,B,G.i C h2,PB,λcl A s₀ H₀ ex xb E' _=>λpins s σ H Q I q=>zi8 pins s σ H Q I (Nx (K:=X.K) (E:=E') (ca:=ca) q),PEl,Qq (R8 h2)⟩
   .split at h
    .rename_i hok;split at h
     .rename_i mt h5;cases h;exact⟨caps,mi,b,mt,me,rfl,B,G.i C h2,PB,λcl A s₀ H₀ ex xb E' hp=>Uj (G.t (SR C hb cl A s₀ H₀ ex xb (E':=E') hp) hok h5),PEl,Qq (R8 h2)⟩
     .cases h
    .cases h
   .cases h
  .cases h
 .cases h
theorem good0(ca:Str->Value):Good ca 0:=by
 constructor
 .intro Γ X E e m C h;cases h
 .intro Γ X E e m C _ h;cases h
 .intro Γ X E e m C h;cases h
 .intro Γ X E e m C h;cases h
 .intro Γ X E op e m pos C h;cases h
 .intro Γ X E e m C h;cases h
 .intro Γ X E elt tg iter ifs scope m pos C h;cases h
 .intro Γ X E tg e m C h;cases h
theorem Yj(G:Good ca n){Γ:Gm}{X:Cx}{E:L2.St->XK}{a:Expr}{ops:List CmpOp}{bs:List Expr}{pos:Pos}{m:AB->Option Rs}(C:CxOk Γ X E ca)(h:dE (n+1) Γ (.Compare a ops bs pos)=some m) :
  PE X (.Compare a ops bs pos) (tM X.K E ca m)/\PT X (.Compare a ops bs pos) (Ao X.K E ca m):=by
 cases ops with
 |nil=>rw[BG]at h;unfold BE at h;cases h
 |cons op r =>
  cases r with
  |cons op' r =>
   cases r with
   |cons _ _=>rw[BG]at h;unfold BE at h;cases h
   |nil =>
    cases bs with
    |nil=>rw[BG]at h;unfold BE at h;cases h
    |cons b r =>
     cases r with
     |nil=>rw[BG]at h;unfold BE at h;cases h
     |cons c r =>
      cases r with
      |cons _ _=>rw[BG]at h;unfold BE at h;cases h
      |nil =>
       rw[BG]at h;unfold BE at h;simp only at h;split at h
       .rename_i g g' ma mb mc h1 h2 h3 h4 h5;split at h
        .cases h
        .rename_i hm;cases h;have hm':=yar.mpr hm;exact⟨r_chn (NF C h1) (NF C h2) (G.e C h3) (G.e C h4) (G.e C h5) hm',zkw (NF C h1) (NF C h2) (G.e C h3) (G.e C h4) (G.e C h5) hm'⟩
       .cases h
  |nil =>
   cases bs with
   |nil=>rw[BG]at h;unfold BE at h;cases h
   |cons b r =>
    cases r with
    |cons _ _=>rw[BG]at h;unfold BE at h;cases h
    |nil =>
     rw[BG]at h;unfold BE at h;simp only at h;split at h
     .rename_i g ma mb h1 h2 h3;split at h
      .cases h
      .rename_i hm;cases h;have hm':=yar.mpr hm;exact⟨r_cmp (Rj C h1) (G.e C h2) (G.e C h3) hm',UT (Rj C h1) (G.e C h2) (G.e C h3) hm'⟩
     .cases h
theorem Wt{n:Nat}{Γ:Gm}{elt:Expr}{gens:List Comprehension}{scope:Scope}{pos:Pos}{m:AB->Option Rs}(h:dE (n+1) Γ (.ListComp elt gens scope pos)=some m):∃tg iter ifs,gens=[⟨tg,iter,ifs,0⟩]/\dC n Γ elt tg iter ifs scope=some m:=by
 cases gens with
 |nil=>rw[BG]at h;unfold BE at h;cases h
 |cons g r =>
  obtain⟨tg,iter,ifs,a⟩:=g;cases a with
  |negSucc k=>rw[BG]at h;unfold BE at h;cases h
  |ofNat k =>
   cases k with
   |succ k=>rw[BG]at h;unfold BE at h;cases h
   |zero =>
    cases r with
    |cons _ _=>rw[BG]at h;unfold BE at h;cases h
    |nil=>exact⟨tg,iter,ifs,rfl,by rw[BG]at h;unfold BE at h;exact h⟩
end
section
variable {ca:Str->Value}{n:Nat}
theorem zms{Γ:Gm}{X:Cx}{E:L2.St->XK}{tg e:Expr}{m:AB->Option Rs}(h:PE X e (tM X.K E ca m)):PI X tg e (tI X.K E ca (JG Γ m)):=by
 unfold JG;split
 .exact zky h
 .exact U2 h
theorem Yi(G:Good ca n){Γ:Gm}{X:Cx}{E:L2.St->XK}{e:Expr}{m:AB->Option Rs}(C:CxOk Γ X E ca)(h:dE (n+1) Γ e=some m):PE X e (tM X.K E ca m)/\(EH e=true->PT X e (Ao X.K E ca m)):=by
 have val:∀{e:Expr} {m:AB->Option Rs},PE X e (tM X.K E ca m)->(match e with|.UnaryOp ..=>False|.BoolOp ..=>False|.IfExp ..=>False|.Compare ..=>False|_=>True)->PE X e (tM X.K E ca m)/\(EH e=true->PT X e (Ao X.K E ca m)):=λh1 h2=>⟨h1,λ_=>ME h1 (zhf h2)⟩
 cases e with
 |Compare a ops bs pos=>exact⟨(Yj G C h).1,λ_=>(Yj G C h).2⟩
 |Constant c k pos =>
  cases c with
  |int i=>rw[BG]at h;unfold BE at h;cases h;exact val (Ih Uy λ_ _=>.int i) trivial
  |bool b=>rw[BG]at h;unfold BE at h;cases h;exact val (Ih VC λ_ _=>.bl b) trivial
  |none=>rw[BG]at h;unfold BE at h;cases h;exact val (Ih zlk λ_ _=>.non) trivial
  |str x=>rw[BG]at h;unfold BE at h;cases h;exact val (Ih Uw λ_ _=>.str x) trivial
  |_=>rw[BG]at h;unfold BE at h;cases h
 |Name x pos =>
  rw[BG]at h;unfold BE at h;simp only at h;split at h
  .rename_i i hi;cases h;obtain⟨h1,h2,h3,h4⟩:=C.var (pos:=pos) hi;exact val (Ju h1 h2 h3 h4) trivial
  .split at h
   .rename_i hp;rw[ya2]at hp;obtain⟨t,ht,rfl⟩:=ya4.mp h;obtain⟨u,v,k1,k2,k3⟩:=C.gx.co x t ht;exact val (r_con (C.gl hp.2) k1 k2 (DT hp.1).1 k3) trivial
   .cases h
 |Attribute o f pos =>
  rw[BG]at h;unfold BE at h;simp only at h;split at h
  .rename_i hpo;split at h
   .rename_i m1 h1;exact val (zjp C.gx.cl (G.e C h1) (Km hpo) h) trivial
   .cases h
  .cases h
 |BinOp a op b pos =>
  rw[BG]at h;unfold BE at h;simp only at h;split at h
  .rename_i g ma mb h1 h2 h3;cases h;exact val (U8 (zlz h1) (G.e C h2) (G.e C h3)) trivial
  .cases h
 |UnaryOp op a pos =>
  cases op with
  |USub =>
   rw[BG]at h;unfold BE at h;simp only at h;split at h
   .rename_i ma h1;cases h;have hp:=r_un (pos:=pos) zhe (G.e C h1);exact⟨hp,λ_=>ME hp λ_=>rfl⟩
   .cases h
  |Not =>
   rw[BG]at h;unfold BE at h;simp only at h;split at h
   .rename_i hok;obtain⟨ma,h1,rfl⟩:=ya4.mp h;exact⟨r_not (G.e C h1),λ_=>US (G.t C hok h1)⟩
   .cases h
  |_=>rw[BG]at h;unfold BE at h;cases h
 |BoolOp op vs pos =>
  rw[BG]at h;unfold BE at h;simp only at h;obtain⟨h1,h2⟩:=G.b (pos:=pos) C h;exact⟨h1,λ_=>h2.pt⟩
 |IfExp c a b pos =>
  rw[BG]at h;unfold BE at h;simp only at h;split at h
  .rename_i hok;split at h
   .rename_i mc ma mb h1 h2 h3;cases h;exact⟨r_ife (G.t C hok h1) (G.e C h2) (G.e C h3),λz=>by cases z⟩
   .cases h
  .cases h
 |List es pos =>
  rw[BG]at h;unfold BE at h;obtain⟨ms,h1,rfl⟩:=ya4.mp h;exact val (UY (G.o C h1)) trivial
 |Tuple es k pos =>
  rw[BG]at h;unfold BE at h;obtain⟨ms,h1,rfl⟩:=ya4.mp h;exact val (r_tup (G.a C h1)) trivial
 |Subscript a k pos =>
  rw[BG]at h;unfold BE at h;simp only at h;split at h
  .rename_i lo hi p2;split at h
   .rename_i ma ml mh h1 h2 h3;cases h;unfold OE;split
    .exact val (U9 (UU (G.e C h1) (G.p C h2) (G.p C h3)) (zfs (G.e C h1) (G.p C h2) (G.p C h3))) trivial
    exact val (UU (G.e C h1) (G.p C h2) (G.p C h3)) trivial
   .cases h
  .split at h
   .cases h
   .rename_i hs;split at h
    .rename_i ma mk h1 h2;cases h;exact val (U0 (G.e C h1) (G.e C h2) (Us (yar.mpr hs))) trivial
    .cases h
 |ListComp elt gens scope pos =>
  obtain⟨tg,iter,ifs,rfl,h⟩:=Wt h;exact val (G.c C h) trivial
 |Call f args kws pos =>
  cases f with
  |Name f p =>
   cases args with
   |nil=>rw[BG]at h;unfold BE at h;cases h
   |cons e es =>
    cases kws with
    |cons _ _=>rw[BG]at h;unfold BE at h;cases h
    |nil =>
     rw[BG]at h;unfold BE at h;simp only at h;split at h
     .rename_i hp;rw[ya2]at hp;split at h
      .rename_i hb;have hb':f∈Γ.bl:=yb5.mp hb;split at h
       .rename_i hf;subst hf;split at h
        .rename_i c p2;split at h
         .rename_i hc;simp only[ya2]at hc;split at h
          .rename_i t m' h1 h2;cases h;obtain⟨q1,q2,q3⟩:=DT hc.1.2;exact val (r_isT (zdk h1) (C.gl hp.2) (C.bl _ hb') (C.gl hc.1.1.1) (C.bl _ (yb5.mp hc.1.1.2)) q3 q1 (G.e C h2) (Bl hc.2)) trivial
          .cases h
         ·
          split at h
          .rename_i hc2;simp only[ya2]at hc2;split at h
           .rename_i CC m' h1 h2;cases h;obtain⟨_,k1,k2⟩:=C.gx.ci c CC h1;exact val (r_isC k2 (C.gl hp.2) (C.bl _ hb') (C.gl hc2.1.1) k1 (DT hc2.1.2).1 (G.e C h2) (Bl hc2.2)) trivial
           .cases h
          .cases h
        .cases h
       ·
        split at h
        .rename_i a pa pc hst;obtain⟨rfl,rfl,rfl⟩:=zf5 hst;split at h
         .rename_i hc;simp only[ya2]at hc;obtain⟨m1,h1,rfl⟩:=ya4.mp h;exact val (r_unq C.calm (C.gl hp.2) (C.bl _ hb') (C.gl hc.1.1) (C.bl _ (yb5.mp hc.1.2)) (G.e C h1) (Bl (es:=[]) (env:=X.env) hc.2)) trivial
         .cases h
        split at h
        .rename_i g ms h1 h2;cases h;exact val (zjt C h1 hp.2 hb' (G.a C h2) (Fs h2) hp.1) trivial
        .cases h
      ·
       split at h
       .rename_i F ds hnw;split at h
        .rename_i dts ms hds h2;cases h;obtain⟨hl,CC,D,hD⟩:=C.gx.nw f F ds hnw;obtain⟨dvs,us,k1,k2,k3⟩:=hD _ _ hds;obtain⟨q1,q2,q3⟩:=DT hp.1;have hst:=Fs h2;exact val (r_new D k1 k2 k3 C.room C.ps (G.a C h2) hl (C.gl hp.2) q1 (Bl (hst e (ya3 ..))) (Jg λx hx=>hst x (ya0 e hx))) trivial
        .cases h
       split at h
       .rename_i F ms h1 h2;cases h;obtain⟨hl,⟨D⟩⟩:=C.fs f F h1;obtain⟨q1,q2,q3⟩:=DT hp.1;have hst:=Fs h2;exact val (zl1 D C.room C.ps (G.a C h2) hl (C.gl hp.2) q1 (Bl (hst e (ya3 ..))) (Jg λx hx=>hst x (ya0 e hx))) trivial
       .cases h
     .cases h
  |Attribute o m ap =>
   cases kws with
   |cons _ _=>rw[BG]at h;unfold BE at h;cases h
   |nil =>
    rw[BG]at h;unfold BE at h;simp only at h;split at h
    .cases h
    rename_i hpo;rw[ycb,Bool.not_eq_false,ya2,ya2,yf1]at hpo;obtain⟨⟨hpo,hl⟩,hlen⟩:=hpo;split at h
    .rename_i mo ms h1 h2;split at h
     .rename_i hf;subst hf;split at h
      .rename_i k
       .obtain⟨mk,h3,rfl⟩:=ya4.mp h;exact val (r_enw (G.e C h1) (G.e C h3) (Km hpo) (Bl (es:=[]) (env:=X.env) (Fs h2 k (ya3 ..))) hl) trivial
      .cases h
     split at h
     .rename_i hf;subst hf;split at h
      .rename_i k
       .obtain⟨mk,h3,rfl⟩:=ya4.mp h;exact val (r_stw (G.e C h1) (G.e C h3) (Km hpo) (Bl (es:=[]) (env:=X.env) (Fs h2 k (ya3 ..))) hl) trivial
      .cases h
     split at h
     .rename_i hf;subst hf;split at h
      .rename_i k
       .obtain⟨mk,h3,rfl⟩:=ya4.mp h;exact val (zi4 (G.e C h1) (G.e C h3) (Km hpo) (Bl (es:=[]) (env:=X.env) (Fs h2 k (ya3 ..))) hl) trivial
      .cases h
     split at h
     .rename_i hf;subst hf;split at h
      .rename_i k
       .obtain⟨mk,h3,rfl⟩:=ya4.mp h;exact val (zkx (G.e C h1) (G.e C h3) (Km hpo) (Bl (es:=[]) (env:=X.env) (Fs h2 k (ya3 ..))) hl) trivial
      .cases h
     cases h
    .cases h
  |_=>rw[BG]at h;unfold BE at h;cases h
 |_=>rw[BG]at h;unfold BE at h;cases h
theorem goodS(G:Good ca n):Good ca (n+1):=by
 constructor
 .intro Γ X E e m C h;exact(Yi G C h).1
 .intro Γ X E e m C hok h;exact(Yi G C h).2 hok
 .intro Γ X E es m C h;unfold dA at h;cases es with
  |nil=>cases h;exact UX
  |cons e es =>
   simp only at h;split at h
   .rename_i hs;split at h
    .rename_i m1 ms h1 h2;cases h;exact U7 (G.e C h1) (G.a C h2) (Bl hs)
    .cases h
   .cases h
 .intro Γ X E es m C h;unfold dO at h;cases es with
  |nil=>cases h;exact UW
  |cons e es =>
   simp only at h;split at h
   .rename_i hs;split at h
    .rename_i m1 ms h1 h2;cases h;exact U6 (G.e C h1) (G.o C h2) (Bl hs)
    .cases h
   .cases h
 .intro Γ X E op es m pos C h;unfold dB at h;cases es with
  |nil=>cases h
  |cons a r =>
   cases r with
   |nil =>
    simp only at h;split at h
    .rename_i hok;refine⟨r_one (G.e C h),?_⟩;cases op with
     |And=>exact zi3 (G.t C hok h)
     |Or=>exact UR (G.t C hok h)
    .cases h
   |cons b r =>
    simp only at h;split at h
    .rename_i hok;split at h
     .rename_i ma mb h1 h2;cases h;obtain⟨b1,b2⟩:=G.b (pos:=pos) C h2;exact⟨r_and (G.e C h1) b1,zkv (G.t C hok h1) b2⟩
     .rename_i ma mb h1 h2;cases h;obtain⟨b1,b2⟩:=G.b (pos:=pos) C h2;exact⟨r_or (G.e C h1) b1,UQ (G.t C hok h1) b2⟩
     .cases h
    .cases h
 .intro Γ X E o m C h;unfold dP at h;cases o with
  |none=>cases h;exact r_po0
  |some e =>
   simp only at h;obtain⟨m1,h1,rfl⟩:=ya4.mp h;exact r_po1 (G.e C h1)
 .intro Γ X E elt tg iter ifs scope m pos C h;obtain⟨caps,mi,b,mt,me,rfl,B,hi,hg,ht,he,hs⟩:=Ym G C h;exact UZ B (cq:=λX=>X.calm=true) (λ_ _ _ _ _ _ _ _ _=>C.calm) (Uu hi) C.ps C.fr hg ht he hs
 .intro Γ X E tg e m C h
  have gen:∀{m:AB->Option RsL},(dE n Γ e).map (JG Γ)=some m->PI X tg e (tI X.K E ca m):=λh=>by
   obtain⟨m1,h1,rfl⟩:=ya4.mp h;exact zms (G.e C h1)
  unfold dI at h;split at h
  .rename_i f p a pos;split at h
   .rename_i hf;subst hf;split at h
    .rename_i hc;simp only[ya2]at hc;obtain⟨ms,h1,rfl⟩:=ya4.mp h;exact zft (C.gl hc.1.1) (C.bl _ (yb5.mp hc.1.2)) (G.a C h1) (Bl hc.2)
    .cases h
   .split at h
    .rename_i hf;subst hf;split at h
     .rename_i hc;simp only[ya2]at hc;obtain⟨ms,h1,rfl⟩:=ya4.mp h;cases tg with
      |Tuple elts kk tpos =>
       unfold Y4;split
       .exact r_enX (C.gl hc.1.1.1) (C.bl _ (yb5.mp hc.1.1.2)) (G.a C h1) (Bl hc.1.2)
       .exact U4 (C.gl hc.1.1.1) (C.bl _ (yb5.mp hc.1.1.2)) (G.a C h1) (Bl hc.1.2)
      |_=>exact Bool.noConfusion hc.2
     .cases h
    .exact gen h
  .rename_i f p a b pos;split at h
   .rename_i hf;subst hf;cases h
   .exact gen h
  .cases h
  .exact gen h
theorem K4(ca:Str->Value):∀n,Good ca n
 |0=>good0 ca
 |n+1=>goodS (K4 ca n)
end
theorem zbc:entryFor table "proto.unchain"=some Builtin.«proto.unchain»:=entryFor_of_fast (by ext)
section
variable {prog:Program}{w:World}{A:Around}{E:Value->Shared->Prop}{s:Shared}
theorem zgc{it l h:Addr}{i:Nat}{items:Array Value}{oh:Obj}{vs:Array Value}{Q:Option Value->Shared->Prop}(hh:A.handled=some (.ref h))(ho':s.heap.get? h=some oh)(hd':oh.data=.fields vs)(h2:vs[2]?=some .none)(hne:h≠it)
  (hit:s.heap.IsListIter it l i) (hl:s.heap.IsList l items) (hx:items[i]?=none)
  (hQ:∀h',Heap.ExtBut it s.heap h'->Q none { s with heap:=h' }):wpAny (model prog w) A (pyNext (.ref it)) Q E s:=by
 obtain⟨o,ho,hc,hd⟩:=id hit;obtain⟨ol,hol,_,nl,hdl⟩:=hl;unfold pyNext;refine yeg (wpAny_attempt (wpAny_callSpecial?_slot (name:=Str.ofString "__next__") hit.typeIs slot_listiter_next (wpAny_call_entry slot_listiter_next hit.typeIs entry_listiter_next ?_ (args_listiter_next _))));show wpAny _ _ (field (.ref it) 0 >>= _) _ _ s;refine yeg (yev ho hd (x:=.ref l) rfl ?_);show wpAny _ _ (if (Value.ref l == Value.none)=true then _ else _) _ _ s
 rw[if_neg (show ¬ ((Value.ref l == Value.none)=true) from yb9)];show wpAny _ _ (field (.ref it) 1 >>= _) _ _ s;refine yeg (yev ho hd (x:=.int i 0) rfl ?_);show wpAny _ _ (seqItems? (.ref l) >>= _) _ _ s;refine yeg (wpAny_seqItems hol hdl ?_);simp only[ybi,hx];refine yeg (wpAny_rule (yeg (yeu ho hd (by simp) ?_)))
 show wpAny _ _ (newExc (.type "StopIteration") [] >>= _) _ _ _;refine yeg ?_;simp only[newExc,newTuple];refine yeg (yet ?_ (by size_fits))
 refine yeg (m:=firstArgMember _ _) (yf0 (a:=Value.none) (by first|rfl|(simp only[firstArgMember];rfl)) ?_)
 refine yet ?_ (by size_fits)
 simp only[raiseNew];refine yeg (wpAny_handled ?_);rw[show A.in1.handled=some (.ref h) from hh];have lt:=yah ho';generalize e1:s.heap.update it _=h1;have s1:Heap.SameBut it s.heap h1:=e1▸Heap.SameBut.update ..;have q1:h1.get? h=some oh:=(s1.2 h hne).trans ho';have l1:=yah q1;have sz:∀y,(h1.push y).objs.size=h1.objs.size+1:=λy=>Array.size_push ..
 show wpAny _ _ (if (Value.ref h != Value.ref (h1.push _).objs.size)=true then _ else _) _ _ _
 rw[if_pos (bne_iff_ne.mpr λz=>by injection z with z;rw[sz]at z;exact absurd l1 (by rw[z];exact ye4.mpr (ybw _)))]
 have q3:∀y z,((h1.push y).push z).get? h=some oh:=λy z=>ya8 _ (ya8 _ q1)
 refine yeg (yeh (runValue_entry zbc ?_));unfold Builtin.«proto.unchain»;refine yeg (yev (q3 _ _) hd' h2 ?_);rw[if_pos (by decide)]
 refine yej ⟨_,rfl,?_⟩;unfold updateField;refine yeg (yeg (wpAny_load (yao _ rfl) ?_));show wpAny _ _ (if _ then _ else _) _ _ _
 rw[if_pos (by rw[Array.size_append];exact yam (show 2<6 by decide) (ydp 6 _))]
 refine wpAny_update (yao _ rfl) (wpAny_throw ?_);refine yeg (yf8 (T:="StopIteration") (b:=true) ⟨_,ycs _ (yao _ rfl) rfl,rfl⟩ isSubtype_stop ?_);refine yej (hQ _ λb o hb e=>?_)
 have e2:=(s1.2 b hb).trans e;rw[ybf _ _ (λz=>?_)]
 .exact ya8 _ (ya8 _ e2)
 .have l2:=yah e2;rw[<- z,sz]at l2;exact absurd l2 (ye4.mpr (ybw _))
end
def HX(X:Cx):Prop:=∃h C,X.A.handled=some (.ref h)/\EW X.H₀ h C
theorem turnX{P:Program}{w:World}{K:kA}{tg:Expr}(a it:Addr):TurnG HX P w K tg (Nd K a) [it] it (λi h=>h.IsListIter it a i) where
 obj:=λi h st b hb=>by
  have e:b=it:=by simpa using hb
  subst e;obtain⟨o,e,c,d⟩:=st;exact⟨o,e,λv z=>by rw[d]at z;cases z⟩
 keep:=λi h h' st k=>st.at λo e=>k it (by simp) o e
 item:=by
  intro X hP hw hK hc i pins s σ H E I hf st hg;subst hP hw hK;obtain⟨xs,x,hq,hx⟩:=hg;obtain⟨its,rv,p,hz⟩:=I.list hq;obtain⟨u,hu,ru⟩:=rv.get hx;obtain⟨f0,f1,f2,f3,f4,f5⟩:=hf it (by simp)
  refine wpAny_pyNext_list_item st p.isList (x:=u) (by simpa using hu) λh' st' sb=>?_
  have I1:Inv X pins σ H { s with heap:=h' }:=I.turned (t':=s.toks) (λb o hb e=>(sb.2 b hb).trans e) f0 f1 f3 f4 f5
  obtain⟨o,e,c,d⟩:=id st';exact⟨u,rfl,K5 (s:={ s with heap:=h' }) e c d (by decide) ⟨x,H,I1,ru,⟨rfl,λys hy=>by rw[I.list_inj hy hq];exact hx⟩,st',λb hb=>(hf b hb).1⟩⟩
 done:=by
  intro X hP hw hK hc i pins s σ H E I hf st hg;subst hP hw hK;obtain⟨xs,hq,hx⟩:=hg;obtain⟨its,rv,p,hz⟩:=I.list hq;obtain⟨f0,f1,f2,f3,f4,f5⟩:=hf it (by simp)
  obtain⟨h,C,hh,ob,y,_,vs,hd,h2⟩:=hc;have y1:=I.base.frzs _ _ _ y;have hl:=rv.length;exact zgc hh (I.hok h _ y1).1 hd h2 (λz=>by rw[z,f0]at y1;cases y1) st p.isList (by simp;omega) λh' eb=>⟨rfl,I.turned (t':=s.toks) (λb o hb e=>eb b o hb e) f0 f1 f3 f4 f5⟩
 self:=λ_ _ _ _ _ st h=>wpAny_pyIter_listiter st h
section
variable {X:Cx}{tg e:Expr}{E:L2.St->XK}{ca:Str->Value}{m:AB->Option Rs}
theorem zig{l:Expr}{tl:TE}(hl:PE X l tl):PJ HX X tg l (XZ X.K tl):=by
 intro pins s σ H R I h;refine AS (hl pins s σ H _ I h) λv s1 ⟨x,H1,I1,r1,q1⟩=>?_
 obtain⟨a,e,⟨xs,hq⟩,q⟩:=q1;subst e;cases r1;obtain⟨its,rv,p,hz⟩:=I1.list hq;refine yek p.isList ?_;refine⟨s1.heap.objs.size,[s1.heap.objs.size],_,_,H1,rfl,I1.kept (t':=s1.toks) λb o e=>ya8 _ e,turnX a _,⟨_,yao _ rfl,rfl,rfl⟩,λb hb=>?_,q⟩
 have e:b=s1.heap.objs.size:=by simpa using hb
 subst e;exact I1.fpOk (yaf _) (I1.hok.fresh (yaf _))
noncomputable def Gf(m:AB->Option Rs):AB->Option RsL:=λτ=>match m τ with
 |some (.v (.nd _ .lst l) false)=>some (.v (Aw l) false)
 |_=>none
theorem zeb{τ:AB}{r:RsL}(h:Gf m τ=some r):∃o l,m τ=some (.v (.nd o .lst l) false)/\r=.v (Aw l) false:=by
 unfold Gf at h;split at h
 .rename_i hm;exact⟨_,_,hm,(ya9 h).symm⟩
 .cases h
theorem zkz(ha:PE X e (tM X.K E ca m)):PJ HX X tg e (tI X.K E ca (Gf m)):=by
 refine λpins s σ H P I h=>zig ha pins s σ H P I ?_
 obtain⟨F,τ,R,S,q⟩:=h;refine⟨F,τ,R,S,?_⟩;cases hr:Gf m τ with
 |none=>simp only[hr]at q
 |some r =>
  obtain⟨o,l,hm,rfl⟩:=zeb hr;simp only[hr]at q;rw[hm];intro F1 H1 x B e1 g1;obtain⟨F2,e2,_,r2⟩:=DL.frz (b:=false) S e1 g1;have r2':Rp X.K F2 F2 (T.nd o .lst l).share x R0:=r2;rw[T.share]at r2';obtain⟨p,xs,rfl,_,n,kd⟩:=Dl r2';exact⟨p,rfl,⟨xs,Ac.of (e2.fh _ _ n)⟩,q F2 H1 _ e2 (Mh (λF' H' s1 s2=>Ac.of (s2 _ _ (s1 _ _ n))) kd)⟩
end
structure CxS(Γ:Gm)(X:Cx)(ca:Str->Value):Prop where
 N:X.N=Γ.N
 nd:Γ.N.Nodup
 nm:X.env.scope.names=Γ.nm
 rm:Room Γ.lv (HW X.A)
 bl:∀b∈Γ.bl,X.mg b=none
 gx:GxOk Γ.ox Γ.lv X.prog X.w X.K X.mg X.base ca
theorem CxS.var{Γ:Gm}{X:Cx}{ca:Str->Value}(C:CxS Γ X ca){x:Str}{i:Nat}(h:Γ.var x=some i):X.N[i]?=some x/\Dc X.env.scope x/\(x == ("__debug__":Str))=false/\(x == ("__classdict__":Str))=false:=by
 unfold Gm.var at h;split at h
 .rename_i hp;rw[ya2]at hp;obtain⟨p1,p2,p3⟩:=DT hp.1;exact⟨by rw[C.N];exact FE h,Np (by rw[C.nm];exact hp.2),p1,p2⟩
 .cases h
theorem CxS.gl{Γ:Gm}{X:Cx}{ca:Str->Value}(C:CxS Γ X ca){x:Str}(h:Bj Γ.nm x=true):Gl X x:=by
 unfold Bj at h;show X.env.scope.names.lookup x=some .globalImplicit;rw[C.nm];exact eq_of_beq h
def Mj:Expr->Option (Expr×Str×Pos×Pos×Pos)
 |.Call f es ks c=>(match Bm f,es,ks with
  |some (g,p),[a,b],[]=>if g="isinstance" then (match Bm b with
   |some (d,q)=>some (a,d,p,q,c)
   |none=>none) else none
  |_,_,_=>none)
 |_=>none
theorem XR{t a:Expr}{d:Str}{p q c:Pos}(h:Mj t=some (a,d,p,q,c)):t=.Call (.Name "isinstance" p) [a,.Name d q] [] c:=by
 unfold Mj at h;split at h
 .split at h
  .rename_i h1;split at h
   .rename_i hg;split at h
    .rename_i h2;cases h;rw[CY h1,CY h2,hg]
    .cases h
   .cases h
  .cases h
 .cases h
mutual
def dX:Nat->Gm->Expr->Option (AB->Option Rs)
 |0,_,_=>none
 |n+1,Γ,e=>match Mj e with
  |some (a,d,_,_,_)=>if Bj Γ.nm "isinstance" && Γ.bl.contains "isinstance" && Bj Γ.nm d && CH d && CV a then (match dX n Γ a with
    |some m=>(match Γ.ox.sb.lookup d with
     |some tb=>some (BB (g1 (DI tb)) (AD m AE))
     |none=>(match Γ.ox.sv.lookup d with
      |some tb=>some (BB (g1 (DI tb)) (AD m AE))
      |none=>none))
    |none=>none) else none
  |none=>(match e with
   |.Constant (.str x) _ _=>some (mC (.str x))
   |.Name x _=>(Γ.var x).map AA
   |.List es _=>(NA n Γ es).map AK
   |.BinOp a .Add b _=>(match dX n Γ a,dX n Γ b with
    |some ma,some mb=>some (BB (g2 AH) (AD ma (AD mb AE)))
    |_,_=>none)
   |_=>none)
def NA:Nat->Gm->List Expr->Option (AB->Option RsL)
 |0,_,_=>none
 |n+1,Γ,es=>match es with
  |[]=>some AE
  |e::es=>if CV e then (match dX n Γ e,NA n Γ es with
   |some m,some ms=>some (AF m ms)
   |_,_=>none) else none
end
theorem Gq{ca:Str->Value}{E:L2.St->XK}:∀n:Nat,(∀{Γ:Gm} {X:Cx} {e:Expr} {m:AB->Option Rs},CxS Γ X ca->dX n Γ e=some m->PE X e (tM X.K E ca m))/\(∀{Γ:Gm} {X:Cx} {es:List Expr} {m:AB->Option RsL},CxS Γ X ca->NA n Γ es=some m->PA X es (IU X.K E ca m))
 |0=>⟨(λC h=>by cases h),(λC h=>by cases h)⟩
 |n+1=>by
  obtain⟨G1,G2⟩:=Gq (ca:=ca) (E:=E) n;refine⟨λ{Γ X e m} C h=>?_,λ{Γ X es m} C h=>?_⟩
  .unfold dX at h;split at h
   .rename_i a d p q c hi;have hi:=XR hi;subst hi;split at h
    .rename_i hc;simp only[ya2]at hc;obtain⟨⟨⟨⟨c1,c2⟩,c3⟩,c4⟩,c5⟩:=hc;obtain⟨p1,p2,p3⟩:=DT c4;split at h
     .rename_i ma h1;split at h
      .rename_i tb ht;cases h;obtain⟨A,k1,k2⟩:=C.gx.sb d tb ht;exact U1 (C.gl c1) (C.bl _ (yb5.mp c2)) (Pk (v:=.ref A) (C.gl c3) k1 rfl p1) ⟨A,.inl rfl⟩ k2 (G1 C h1) (Bl c5)
      .split at h
       .rename_i tb ht;cases h;obtain⟨k0,t,k1,k2⟩:=C.gx.sv d tb ht;exact U1 (C.gl c1) (C.bl _ (yb5.mp c2)) (VB (v:=.ty t) (C.gl c3) k0 k1 rfl p3 p1) ⟨0,.inr ⟨t,rfl⟩⟩ k2 (G1 C h1) (Bl c5)
       .cases h
     .cases h
    .cases h
   .split at h
    .cases h;exact Ih Uw λ_ _=>.str _
    .obtain⟨i,hi,rfl⟩:=ya4.mp h;obtain⟨h1,h2,h3,h4⟩:=C.var hi;exact Ju h1 h2 h3 h4
    .obtain⟨ms,h1,rfl⟩:=ya4.mp h;exact UY (G2 C h1)
    .split at h
     .rename_i ma mb h1 h2;cases h;exact U8 VJ (G1 C h1) (G1 C h2)
     .cases h
    .cases h
  .unfold NA at h;cases es with
   |nil=>cases h;exact UW
   |cons e es =>
    simp only at h;split at h
    .rename_i hs;split at h
     .rename_i m1 ms h1 h2;cases h;exact U6 (G1 C h1) (G2 C h2) (Bl hs)
     .cases h
    .cases h
def Po:Expr->Bool
 |.ListComp ..=>false
 |.SetComp ..=>false
 |.DictComp ..=>false
 |_=>true
theorem T8{e:Expr}{t:Option Expr}{l:Nat}{env:Env}(h:Po e=true):swapsWith e t l env=pure false:=by
 cases e<;>first|rfl|cases h
noncomputable def HQ:Stmt->Option Expr
 |.Return o _=>o
 |_=>none
theorem Pd{s:Stmt}{e:Expr}(h:HQ s=some e):∃p,s=.Return (some e) p:=by
 cases s with
 |Return o p=>exact⟨p,by rw[show o=some e from h]⟩
 |_=>cases h
def Ko:Stmt->Option (Str×Expr)
 |.Assign ts e _=>(match ts with
  |[]=>none
  |t::r=>if r.isEmpty then (Bm t).map λx=>(x.1,e) else none)
 |_=>none
theorem SX{s:Stmt}{x:Str}{e:Expr}(h:Ko s=some (x,e)):∃q p,s=.Assign [.Name x q] e p:=by
 cases s with
 |Assign ts e' p =>
  cases ts with
  |nil=>cases h
  |cons t r =>
   cases r with
   |cons _ _=>cases h
   |nil =>
    obtain⟨⟨y,q⟩,h1,h2⟩:=ya4.mp (show(Bm t).map (λx=>(x.1,e'))=some (x,e) from h)
    cases h2;exact⟨q,p,by rw[CY h1]⟩
 |_=>cases h
def Rx:Expr->Option (Expr×Expr)
 |.Call f es ks _=>(match es with
  |[]=>none
  |l::r=>if r.isEmpty && ks.isEmpty then some (f,l) else none)
 |_=>none
theorem ZA{e f l:Expr}(h:Rx e=some (f,l)):∃p,e=.Call f [l] [] p:=by
 cases e with
 |Call f' es ks p =>
  cases es with
  |nil=>cases h
  |cons l' r =>
   cases r with
   |cons _ _=>cases h
   |nil =>
    cases ks with
    |cons _ _=>cases h
    |nil=>cases h;exact⟨p,rfl⟩
 |_=>cases h
def Mz:Nat->Gm->List Stmt->Option (AB->Option Out)
 |0,_,_=>none
 |n+1,Γ,ss=>match ss with
  |[]=>some Aq
  |s::r=>(match HQ s with
   |some e=>if r.isEmpty then (dX n Γ e).map A2 else none
   |none=>(Ko s).bind λq=>if Γ.loc q.1 && (Γ.nm.lookup q.1 == some .local) && Po q.2 then (CJ Γ.N q.1).bind λi=>(dX n Γ q.2).bind λm=>(Mz n Γ r).map λms=>AI (AQ m (AG i)) ms else none)
theorem Ye{ca:Str->Value}{E:L2.St->XK}:∀n:Nat,∀{Γ:Gm} {X:Cx} {ss:List Stmt} {m:AB->Option Out},CxS Γ X ca->Mz n Γ ss=some m->BJ X ss (tS X.K E ca false m)
 |0,Γ,X,ss,m,C,h=>by cases h
 |n+1,Γ,X,[],m,C,h=>by
  cases h;exact OT
 |n+1,Γ,X,s::r,m,C,h=>by
  unfold Mz at h;cases h1:HQ s with
  |some e =>
   simp only[h1]at h;obtain⟨p,rfl⟩:=Pd h1;cases r with
   |cons _ _=>cases h
   |nil =>
    obtain⟨m1,h1,rfl⟩:=ya4.mp (show(dX n Γ e).map A2=some m from h);exact Jk (Li ((Gq n).1 C h1))
  |none =>
   simp only[h1]at h;obtain⟨⟨x,e⟩,h2,k1⟩:=yaa.mp h;obtain⟨px,pa,rfl⟩:=SX h2
   clear h h1 h2
   split at k1
   .rename_i hc;simp only[ya2]at hc;obtain⟨i,h3,k2⟩:=yaa.mp k1;obtain⟨m1,h4,k3⟩:=yaa.mp k2;obtain⟨ms,h5,rfl⟩:=ya4.mp k3;have hl:X.env.scope.names.lookup x=some .local:=by rw[C.nm];exact eq_of_beq hc.1.2
    exact Jm (OI (by rw[C.N];exact C.nd) (by rw[C.N];exact FE h3) (.inl hl) ((Gq n).1 C h4) (T8 hc.2) (.inr hl)) (Ye n C h5)
   .cases k1
def dW(Γ:Gm)(en:Str)(ss:List Stmt):Option (AB->Option Out):=match ss with
 |[]=>none
 |s::r=>(Ko s).bind λq=>(Rx q.2).bind λc=>(Bm c.1).bind λg=>(Bm c.2).bind λy=>(CJ Γ.N en).bind λi =>
  if r.isEmpty && decide (y.1=en) && CH y.1 && LM Γ.nm y.1 && Γ.loc q.1 && (Γ.nm.lookup q.1 == some .local) && Bj Γ.nm g.1 && CH g.1 then (CJ Γ.N q.1).bind λj=>(Γ.ox.wd.lookup g.1).map λF=>AQ (AR F.g (AD (AA i) AE)) (AG j) else none
theorem dW_ok{ca:Str->Value}{Γ:Gm}{X:Cx}{a:Addr}{i:Nat}{en:Str}{ss:List Stmt}{m:AB->Option Out}(C:CxS Γ (DJ X a) ca)(hi:CJ Γ.N en=some i)(h:dW Γ en ss=some m):LB a i (DJ X a) ss (tS X.K Ej ca false m):=by
 cases ss with
 |nil=>cases h
 |cons s r =>
  obtain⟨⟨x,e⟩,h1,k1⟩:=yaa.mp (show _=some m from h);obtain⟨⟨f,b⟩,h2,k2⟩:=yaa.mp k1;obtain⟨⟨g,q1⟩,hf,k3⟩:=yaa.mp k2;obtain⟨⟨y,q2⟩,hb,k4⟩:=yaa.mp k3;obtain⟨i',hi',k5⟩:=yaa.mp k4;obtain⟨px,pa,rfl⟩:=SX h1;obtain⟨pc,he⟩:=ZA h2;obtain rfl:e=.Call f [b] [] pc:=he;obtain rfl:f=.Name g q1:=CY hf;obtain rfl:b=.Name y q2:=CY hb;rw[hi]at hi';cases hi'
  clear h h1 k1 k2 k3 k4 h2 hf hb
  split at k5
  .rename_i hc;simp only[ya2,yf1,ycj]at hc;obtain⟨⟨⟨⟨⟨⟨⟨rfl,rfl⟩,c2⟩,c3⟩,c4⟩,c5⟩,c6⟩,c7⟩:=hc;obtain⟨j,hj,k6⟩:=yaa.mp k5;obtain⟨F,hF,rfl⟩:=ya4.mp k6;obtain⟨p1,p2,p3⟩:=DT c2;obtain⟨hlv,p,hp,⟨D⟩⟩:=C.gx.wd g F hF;have hl:(DJ X a).env.scope.names.lookup x=some .local:=by rw[C.nm];exact eq_of_beq c5
   have hv:PE (DJ X a) (.Name y q2) (LV i):=Jz (by rw[C.N];exact FE hi) (Np (by rw[C.nm];exact c3)) p1 p2
   have P1:=Uk (Ph (pos:=pa) (pos':=px) (by rw[C.N];exact C.nd) (by rw[C.N];exact FE hj) (.inl hl) (px_s (pos:=pc) (q:=q1) D C.rm rfl hlv hv (C.gl c6) (DT c7).1) rfl (.inr hl))
   refine λpins s σ H D' I hσ hX q=>P1 pins s σ H D' I ⟨hσ,hX,?_⟩
   have q1:tM X.K Ej ca (AR F.g (AD (AA i) AE)) σ H (λv H1=>JL j v σ H1 D'.nx):=LW (λ_ _ _ _ z=>Ml z) q
   obtain⟨v,e1,e2⟩:=Sv (FX (Yx q1));rw[hσ]at e1;cases e1;exact GG e2
  .cases k5
def R7(n:Nat)(Γ:Gm)(en:Str)(ss:List Stmt):Option (AB->Option Out):=match dW Γ en ss with
 |some m=>some m
 |none=>Mz n Γ ss
theorem zn9{ca:Str->Value}(n:Nat){Γ:Gm}{X:Cx}{a:Addr}{i:Nat}{en:Str}{ss:List Stmt}{m:AB->Option Out}(C:CxS Γ (DJ X a) ca)(hi:CJ Γ.N en=some i)(h:R7 n Γ en ss=some m):LB a i (DJ X a) ss (tS X.K Ej ca false m):=by
 unfold R7 at h;split at h
 .rename_i hw;cases h;exact dW_ok C hi hw
 .exact pss_e (Ye n C h)
noncomputable def pkB:List Str:=["len","isinstance","all","any","abs","min","max","int"]
def isLC:Expr->Bool
 |.ListComp ..=>true
 |_=>false
def BZ:Nat->List Str->Expr->List Str
 |0,_,_=>[]
 |n+1,pk,e =>
  let peek:=λ(x:Expr)=>match x with
   |.Name _ _=>[]
   |x=>BZ n pk x
  match e with
  |.Name x _=>[x]
  |.BinOp a _ b _=>BZ n pk a++BZ n pk b
  |.UnaryOp _ a _=>BZ n pk a
  |.BoolOp _ vs _=>vs.flatMap (BZ n pk)
  |.Compare a _ bs _=>peek a++bs.flatMap peek
  |.IfExp c a b _=>BZ n pk c++BZ n pk a++BZ n pk b
  |.Call (.Name f _) args [] _=>if pkB.contains f || pk.contains f then args.flatMap peek else args.flatMap (BZ n pk)
  |.Call (.Attribute _ _ _) args [] _=>args.flatMap λa=>if isLC a then BZ n pk a else []
  |.Subscript a k _=>(match k with
   |.Slice lo hi _ _=>BZ n pk a++(match lo with|some e=>BZ n pk e|none=>[])++(match hi with|some e=>BZ n pk e|none=>[])
   |_=>peek a++BZ n pk k)
  |.List es _=>es.flatMap (BZ n pk)
  |.Tuple es _ _=>es.flatMap (BZ n pk)
  |.ListComp _ [⟨_,iter,_,_⟩] scope _=>BZ n pk iter++Ca scope.names
  |_=>[]
def useS(pk:List Str):Stmt->List Str
 |.Expr (.Call (.Attribute (.Name _ _) _ _) [e] [] _) _=>BZ 40 pk e
 |.Expr e _=>BZ 40 pk e
 |.Return (some (.Name _ _)) _=>[]
 |.Return (some e) _=>BZ 40 pk e
 |.Assign [.Subscript (.Subscript _ k _) j _] e _=>BZ 40 pk k++BZ 40 pk j++BZ 40 pk e
 |.Assign [.Subscript _ k _] e _=>BZ 40 pk k++BZ 40 pk e
 |.Assign [_] e _=>BZ 40 pk e
 |.If c _ _ _=>BZ 40 pk c
 |.For _ it _ _ _=>BZ 40 pk it
 |.While c _ _ _=>BZ 40 pk c
 |_=>[]
def Fv(Γ:Gm)(e:Expr)(m:AB->Option Rs):AB->Option Rs:=m
section
variable {X:Cx}{E:L2.St->XK}{ca:Str->Value}{Γ:Gm}{m:AB->Option Rs}{e:Expr}{σ:L2.St}{H:Hp}
theorem Nw{Q:VK}(h:tM X.K E ca (Fv Γ e m) σ H Q):tM X.K E ca m σ H Q:=h
theorem zf0{Q:Bool->Hp->Prop}(h:Ao X.K E ca (Fv Γ e m) σ H Q):Ao X.K E ca m σ H Q:=h
theorem zim(h:PE X e (tM X.K E ca m)):PE X e (tM X.K E ca (Fv Γ e m)):=PE.weak h λσ H Q h=>Nw h
theorem zia(h:PT X e (Ao X.K E ca m)):PT X e (Ao X.K E ca (Fv Γ e m)):=λpins s σ H Q I q=>h pins s σ H Q I (zf0 q)
end
def frzs(Γ:Gm)(s:Stmt):List Nat :=
 ((useS Γ.pk s).filter (Γ.ow.contains ·)).eraseDups.filterMap (CJ Γ.N)
def Qn(l:List Nat)(m:AB->Option Out):AB->Option Out:=l.foldr (λi m=>AI (Dj i) m) m
def DW:Expr->Bool
 |.ListComp ..=>true
 |.SetComp ..=>true
 |.DictComp ..=>true
 |_=>false
def HG(Γ:Gm)(x:Str)(px:Pos):Expr->Bool
 |.ListComp _ _ scope p=>Γ.nm.lookup x == some .local && px.line == p.line && !(scope.names.any λ(n,k)=>n == x && (k == .local || k == .cell))
 |_=>false
def L4(Γ:Gm)(x:Str):Bool:=Γ.nm.lookup x == some .cell
def Ic(Γ:Gm)(x:Str)(i:Nat)(m:AB->Option Rs):AB->Option Out:=if Γ.ow.contains x then Ct i m else AQ m (AG i)
def BR(c:Str)(ms:AB->Option RsL):AB->Option Out:=λτ=>match ms τ with
 |some (.v ts _)=>if ts.length<=AY then some (.xc c τ) else none
 |some (.x c)=>some (.xc c τ)
 |none=>none
noncomputable def S6:Expr->Option (Str×Pos×Str×Pos×Expr×Pos)
 |.Call f es ks c=>(match f,es,ks with
  |.Attribute o f a,[e],[]=>(match o with
   |.Name x p=>some (x,p,f,a,e,c)
   |_=>none)
  |_,_,_=>none)
 |_=>none
theorem zha{t:Expr}{x f:Str}{p a c:Pos}{e:Expr}(h:S6 t=some (x,p,f,a,e,c)):t=.Call (.Attribute (.Name x p) f a) [e] [] c:=by
 unfold S6 at h;split at h
 .split at h
  .split at h
   .cases h;rfl
   .cases h
  .cases h
 .cases h
noncomputable def Rl:Expr->Option (Str×Pos×Str×Pos×Pos)
 |.Call f es ks c=>(match f,es,ks with
  |.Attribute o f a,[],[]=>(match o with
   |.Name x p=>some (x,p,f,a,c)
   |_=>none)
  |_,_,_=>none)
 |_=>none
theorem zgz{t:Expr}{x f:Str}{p a c:Pos}(h:Rl t=some (x,p,f,a,c)):t=.Call (.Attribute (.Name x p) f a) [] [] c:=by
 unfold Rl at h;split at h
 .split at h
  .split at h
   .cases h;rfl
   .cases h
  .cases h
 .cases h
def OA:Expr->Option ((Str×Pos)×Expr×Pos)
 |.Subscript a k p=>(match Bm a with
  |some x=>some (x,k,p)
  |none=>none)
 |_=>none
theorem zf2{t k:Expr}{x:Str}{q p:Pos}(h:OA t=some ((x,q),k,p)):t=.Subscript (.Name x q) k p:=by
 unfold OA at h;split at h
 .split at h
  .rename_i h1;cases h;rw[CY h1]
  .cases h
 .cases h
def P7(a b:Option Expr):Option (Str×Pos×Expr×List Expr×Pos):=match a,b with
 |some a,none=>(match a with
  |.Call f es ks c=>(match Bm f,es,ks with
   |some (x,p),e::es,[]=>some (x,p,e,es,c)
   |_,_,_=>none)
  |_=>none)
 |_,_=>none
theorem zfl{a b:Option Expr}{x:Str}{p c:Pos}{e:Expr}{es:List Expr}(h:P7 a b=some (x,p,e,es,c)):a=some (.Call (.Name x p) (e::es) [] c)/\b=none:=by
 unfold P7 at h;split at h
 .split at h
  .split at h
   .rename_i h1;cases h;exact⟨by rw[CY h1],rfl⟩
   .cases h
  .cases h
 .cases h
def Q7:Expr->Bool
 |.Dict ks vs _=>ks.isEmpty && vs.isEmpty
 |_=>false
theorem zji{e:Expr}(h:Q7 e=true):∃p,e=.Dict [] [] p:=by
 unfold Q7 at h;split at h
 .rename_i ks vs p;rw[ya2]at h;exact⟨p,by rw[ycj.mp h.1,ycj.mp h.2]⟩
 .cases h
def SV:Expr->Option ((Str×Pos)×Str×Pos)
 |.Attribute o f p=>(match Bm o with
  |some x=>some (x,f,p)
  |none=>none)
 |_=>none
theorem zjv{t:Expr}{x f:Str}{q p:Pos}(h:SV t=some ((x,q),f,p)):t=.Attribute (.Name x q) f p:=by
 unfold SV at h;split at h
 .split at h
  .rename_i h1;cases h;rw[CY h1]
  .cases h
 .cases h
def Yh(n:Nat)(Γ:Gm)(x f:Str)(e:Expr):Option (AB->Option Out):=match Γ.ox.sf,Γ.var x with
 |some (C,fs),some i=>(match fs.findIdx? (· == f) with
  |some j=>if (fs.take j).contains f || !(decide (j<900)) || DW e then none else if Q7 e then some (CF C fs j i Md) else (dE n Γ e).map (CF C fs j i)
  |none=>none)
 |_,_=>none
def Yl(n:Nat)(Γ:Gm)(x f:Str)(k e:Expr):Option (AB->Option Out):=match Γ.ox.sf,Γ.var x with
 |some (C,fs),some i=>(match fs.findIdx? (· == f) with
  |some j=>if Ge k || DW e then none else (match dE n Γ k,dE n Γ e with
   |some mk,some m=>some (Jp C fs j i mk m)
   |_,_=>none)
  |none=>none)
 |_,_=>none
def Ra(n:Nat)(Γ:Gm)(t e:Expr):Option (AB->Option Out):=match t with
    |.Name x px=>if Γ.loc x then (
     match CJ Γ.N x,dE n Γ e with
      |some i,some m=>if DW e && !(HG Γ x px e) && !(L4 Γ x) then none else some (Ic Γ x i (Fv Γ e m))
      |_,_=>none) else none
    |.Tuple ts kt pt=>(
      if Q5 e || DW e then none else (match dG Γ (.Tuple ts kt pt),dE n Γ e with
        |some b,some m=>some (AQ m b)
        |_,_=>none))
    |.Subscript a j _=>(match OA a with
      |some ((x,_),k,_) =>
        none
      |none=>(match Bm a with
        |some (x,_)=>if Ge j || DW e then none else (match Γ.var x,dE n Γ j,dE n Γ e with
          |some i,some mk,some m=>none
          |_,_,_=>none)
        |none=>(match SV a with
          |some ((x,_),f,_)=>Yl n Γ x f j e
          |none=>none)))
    |.Attribute o f _=>(match Bm o with
      |some (x,_)=>Yh n Γ x f e
      |none=>none)
    |_=>none
mutual
def dS:Nat->Gm->Stmt->Option (AB->Option Out)
  |0,_,_=>none
  |n+1,Γ,s=>match s with
    |.Pass _=>some Aq
    |.Break _=>some PY
    |.Continue _=>some PV
    |.Return o _=>(match o with
      |none=>if Γ.mu then none else some PF
      |some e=>if Γ.mu then none else (dE n Γ e).map A2)
    |.Expr e _=>(match S6 e with
      |some (x,_,f,apos,a,cpos)=>if CV a && (apos.endLine == cpos.line) then (
       match Γ.var x,dE n Γ a with
        |some i,some m=>if f="append" then some (Bx i m) else
          none
        |_,_=>none) else none
      |none=>(match Rl e with
        |some (x,_,f,apos,cpos) =>
          none
        |none=>(
          if DW e then none else (dE n Γ e).map Bw)))
    |.Assign ts e _=>(match ts with
      |[t]=>Ra n Γ t e
      |_=>none)
    |.AugAssign t op e _=>(match t,op with
      |.Name x _,.Add=>if Γ.loc x && !(Γ.ow.contains x) then (match CJ Γ.N x,dE n Γ e with
        |some i,some m=>some (Jq i m)
        |_,_=>none) else none
      |_,_=>none)
    |.If c a b _=>(
      if EH c then (match dE n Γ c,Aj n Γ a,Aj n Γ b with
        |some mc,some u,some w=>some (Ab (Fv Γ c mc) u w)
        |_,_,_=>none) else none)
    |.For tg it body els _=>if Γ.ox.nr then none else (
      (match els with
        |[]=>(match dI n Γ tg it,dG Γ tg,Aj n Γ body with
          |some mi,some b,some u=>some (EA mi b u)
          |_,_,_=>none)
        |_=>none))
    |.While c body els _=>if Γ.ox.nr then none else (match els with
      |[]=>if EH c then (match dE n Γ c,Aj n Γ body with
        |some mc,some u=>some (F7 mc u)
        |_,_=>none) else none
      |_=>none)
    |.Raise a b _ =>
     (match P7 a b with
      |some (c,_,e,es,_)=>if !(Γ.ox.nr) && Γ.ex.contains c && Bj Γ.nm c && CH c then (dA n Γ (e::es)).map (BR c) else none
      |none=>none)
    |.Try body hs els Al _=>(match hs,els,Al with
      |[.ExceptHandler (some t) (some x) (b0::suite) _],[],[]=>(match Bm t with
        |some (W,_)=>if Γ.ox.df && !(Γ.ox.nr) && !(Γ.mu) && (Γ.nm.lookup x == some .local) && Bj Γ.nm W && CH W then (match CJ Γ.N x,Γ.ox.xs.lookup W,Aj n { Γ with ox:={ Γ.ox with nr:=true } } body,R7 n Γ x (b0::suite) with
            |some i,some cs,some u,some h=>some (GK i cs u h)
            |_,_,_,_=>none) else none
        |none=>none)
      |_,_,_=>none)
    |_=>none
def Aj:Nat->Gm->List Stmt->Option (AB->Option Out)
 |0,_,_=>none
 |n+1,Γ,ss=>match ss with
  |[]=>some Aq
  |[s]=>(match dS n Γ s with
   |some m=>some (Qn (frzs Γ s) m)
   |none=>if Γ.ox.no then some Lq else none)
  |s::r=>(match dS n Γ s,Aj n Γ r with
   |some m,some ms=>some (Qn (frzs Γ s) (AI m ms))
   |none,some ms=>if Γ.ox.no then some (AI Lq ms) else none
   |_,none=>none)
end
section
variable {X:Cx}{E:L2.St->XK}{ca:Str->Value}{Γ:Gm}{mu:Bool}
theorem O7{rest:List Stmt}{w:AB->Option Out}(h:BJ X rest (tS X.K E ca mu w)):∀l:List Nat,BJ X rest (tS X.K E ca mu (Qn l w))
 |[]=>h
 |i::r=>s_frz (O7 h r)
theorem L5{e:Expr}{t:Option Expr}{l:Nat}{env:Env}(h:DW e=false):swapsWith e t l env=pure false:=by
 cases e<;>first|rfl|cases h
theorem zc5{env:Env}(h:env.scope.kind=.function):env.blockKind=.function:=by
 unfold Env.blockKind;rw[h]
 rfl
theorem zf1(C:CxOk Γ X E ca){elt:Expr}{gens:List Comprehension}{scope:Scope}{p px:Pos}{x:Str}{l:Nat}(h:HG Γ x px (.ListComp elt gens scope p)=true):swapsWith (.ListComp elt gens scope p) (some (.Name x px)) l X.env=pure true:=by
 have e:swapsWith (.ListComp elt gens scope p) (some (.Name x px)) l X.env=pure (X.env.blockKind == .function && X.env.kindOf x == some .local && px.line == p.line && !(scope.names.any λ(n,k)=>n == x && (k == .local || k == .cell))):=rfl
 rw[e];unfold HG at h
 simp only[ya2]at h;have k:X.env.kindOf x=some .local:=by
  show X.env.scope.names.lookup x=some .local;rw[C.nm];exact eq_of_beq h.1.1
 rw[zc5 C.kd,k,h.1.2,h.2]
 rfl
theorem zhj(C:CxOk Γ X E ca){e:Expr}{px:Pos}{x:Str}{l:Nat}(h:L4 Γ x=true):swapsWith e (some (.Name x px)) l X.env=pure false:=by
 have k:X.env.kindOf x=some .cell:=by
  show X.env.scope.names.lookup x=some .cell;rw[C.nm];exact eq_of_beq h
 have c:(some NameKind.cell == some NameKind.local)=false:=rfl;cases e<;>first|rfl|(unfold swapsWith;simp only[k,c,ycg,ybt])
theorem Tf{t e:Expr}{l:Nat}{env:Env}(h:DW e=false):swapsWithSole [t] e l env=pure false:=L5 h
theorem zhk{o k:Expr}{pos:Pos}{env:Env}(h:Ge k=false)(v:Value):assign (.Subscript o k pos) env v=(do
   let ov <- holding [v] (eval o env);let iv <- holding [v,ov] (eval k env)
   standAt pos
   holding [v,ov,iv] (setItem ov iv v)
   release [v,ov,iv] []):=by
 cases k<;>first|rfl|cases h
theorem s_lcS{n:Nat}{elt:Expr}{gens:List Comprehension}{scope:Scope}{p px pos:Pos}{x:Str}{i:Nat}{m:AB->Option Rs}(C:CxOk Γ X E ca)(h:dE n Γ (.ListComp elt gens scope p)=some m)(hw:HG Γ x px (.ListComp elt gens scope p)=true)(hi:CJ Γ.N x=some i) :
  PS X (.Assign [.Name x px] (.ListComp elt gens scope p) pos) (tS X.K E ca mu (Ic Γ x i (Fv Γ (.ListComp elt gens scope p) m))):=by
 have lx:X.env.scope.names.lookup x=some .local:=by
  unfold HG at hw;simp only[ya2]at hw;rw[C.nm];exact eq_of_beq hw.1.1
 have hN:X.N[i]?=some x:=by rw[C.N];exact FE hi
 have main:PS X (.Assign [.Name x px] (.ListComp elt gens scope p) pos) (λD σ H=>tM X.K E ca m σ H λv H1=>D.nx (σ.set i (some v)) H1):=by
  cases n with
  |zero=>cases h
  |succ n =>
   obtain⟨tg,iter,ifs,rfl,h⟩:=Wt h;cases n with
   |zero=>cases h
   |succ n =>
    obtain⟨caps,mi,b,mt,me,rfl,B,hi',hg,ht,he,hs⟩:=Ym (K4 ca n) C h;exact r_lcS B C.calm hi' C.ps C.fr hg ht he hs C.nodup hN lx (zf1 C hw)
 unfold Ic;split
 .exact PS.weak main λD σ H h=>Nw (TN h)
 .exact PS.weak main λD σ H h=>Nw (LW (g:=JL i) (λ_ _ _ _ z=>Ml z) h)
theorem s_asg{n:Nat}{e:Expr}{px pos:Pos}{x:Str}{i:Nat}{m:AB->Option Rs}(C:CxOk Γ X E ca)(hl:Γ.loc x=true)(hi:CJ Γ.N x=some i)(h:dE n Γ e=some m)(hc:(DW e && !(HG Γ x px e) && !(L4 Γ x))=false) :
  PS X (.Assign [.Name x px] e pos) (tS X.K E ca mu (Ic Γ x i (Fv Γ e m))):=by
 have plain:(∀l,swapsWith e (some (.Name x px)) l X.env=pure false)->PS X (.Assign [.Name x px] e pos) (tS X.K E ca mu (Ic Γ x i (Fv Γ e m))):=λsw=>by
  obtain⟨g1,g2,g3⟩:=C.loc hl hi;have he:=zim (Γ:=Γ) ((K4 ca n).e C h);unfold Ic;split
  .exact zkl C.nodup g1 g2 he (sw _) g3
  .exact OI C.nodup g1 g2 he (sw _) g3
 cases hcomp:DW e with
 |false=>exact plain λl=>L5 hcomp
 |true =>
  rw[hcomp]at hc;cases hn:L4 Γ x with
  |true=>exact plain λl=>zhj C hn
  |false =>
   rw[hn]at hc;have hw:HG Γ x px e=true:=by simpa using hc
   cases e with
   |ListComp elt gens scope p=>exact s_lcS C h hw hi
   |_=>cases hw
theorem s_rse{c:Str}{e:Expr}{es:List Expr}{ms:AB->Option RsL}{p cpos pos:Pos}(C:CxOk Γ X E ca)(hnr:Γ.ox.nr=false)(hc:c∈Γ.ex)(hg:Bj Γ.nm c=true)(hp:CH c=true)(ha:PA X (e::es) (CD X.K E ca ms))(hs:∀x∈e::es,CV x=true) :
  PS X (.Raise (some (.Call (.Name c p) (e::es) [] cpos)) none pos) (tS X.K E ca mu (BR c ms)):=by
 obtain⟨T,hT⟩:=C.ex c hc;obtain⟨p1,p2,p3⟩:=DT hp;refine PS.weak (zfz T C.calm (C.md hnr) ha (C.gl hg) p1 (Bl (hs e (ya3 ..))) (Jg hs)) λD σ H h=>?_
 obtain⟨F,τ,R,S,q⟩:=h;refine⟨F,τ,R,S,?_⟩;unfold BR at q;cases hm:ms τ with
 |none=>simp only[hm]at q
 |some r =>
  simp only[hm]at q;cases r with
  |x c=>exact λF' H' e=>q F' H' σ R e.stp0 (S.ext e)
  |v ts b =>
   intro F' H' xs e1 rs
   by_cases hz:ts.length<=AY
   .simp only[hz,yeo]at q;refine⟨by rw[<- rs.1,<- Dq];exact hz,?_⟩
    have:=q F' H' σ R e1.stp0 (S.ext e1);rw[hT]at this;exact this
   .simp only[hz,yep]at q
structure GoodS(ca:Str->Value)(n:Nat):Prop where
 s:∀{Γ:Gm} {X:Cx} {E:L2.St->XK} {st:Stmt} {m:AB->Option Out},CxOk Γ X E ca->dS n Γ st=some m->PS X st (tS X.K E ca Γ.mu m)
 ss:∀{Γ:Gm} {X:Cx} {E:L2.St->XK} {st:List Stmt} {m:AB->Option Out},CxOk Γ X E ca->Aj n Γ st=some m->BJ X st (tS X.K E ca Γ.mu m)
end
theorem zjs{ca:Str->Value}{n:Nat}{Γ:Gm}{X:Cx}{E:L2.St->XK}{t e:Expr}{pos:Pos}{m:AB->Option Out}(C:CxOk Γ X E ca)(h:Ra n Γ t e=some m):PS X (.Assign [t] e pos) (tS X.K E ca Γ.mu m):=by
 have GE:=K4 ca n;unfold Ra at h;split at h
 .rename_i x px;split at h
  .rename_i hl;split at h
   .rename_i i m1 h1 h2;split at h
    .cases h
    .rename_i hc;cases h;exact s_asg C hl h1 h2 (yar.mpr hc)
   .cases h
  .cases h
 .rename_i ts kt pt;split at h
  .cases h
  .rename_i hc;split at h
   .rename_i b m1 h1 h2;cases h;have hc':(Q5 e || DW e)=false:=yar.mpr hc
    rw[ybe]at hc';refine zki (GE.e C h2) (R9 C h1) ?_ ?_ rfl
    .exact Tf hc'.2
    .have ht:=hc'.1;cases e<;>first|rfl|cases ht
   .cases h
 .rename_i a j p3;split at h
  .rename_i x p1 k p2 hsub;have hsub:=zf2 hsub;subst hsub;cases h
  .split at h
   .rename_i x p1 hnm;have hnm:=CY hnm;subst hnm;split at h
    .cases h
    .rename_i hc;split at h
     .rename_i i mk m1 h1 h2 h3;have hc':(Ge j || DW e)=false:=yar.mpr hc
      rw[ybe]at hc';obtain⟨v1,v2,v3,v4⟩:=C.var (pos:=p1) h1;cases h
     .cases h
   .split at h
    .rename_i x p1 f p2 hat;have hat:=zjv hat;subst hat;unfold Yl at h;split at h
     .rename_i CC fs i hsf hv;split at h
      .rename_i jj hj;split at h
       .cases h
       .rename_i hc;have hc':(Ge j || DW e)=false:=yar.mpr hc
        rw[ybe]at hc';split at h
        .rename_i mk m1 h1 h2;cases h;obtain⟨v1,v2,v3,v4⟩:=C.var (pos:=p1) hv;obtain⟨k1,k2⟩:=C.gx.sf CC fs hsf
         have hf:f∈fs:=by
          obtain⟨q1,q2,_⟩:=ybg.mp hj;rw[<- eq_of_beq q2];exact ydo q1
         refine s_dpf (by have:=C.room.units;omega) k1 (k2 f hf) hj v1 v2 v3 v4 (GE.e C h2) (GE.e C h1) (Tf hc'.2) ?_ (zhk hc'.1)
         cases e<;>rfl
        .cases h
      .cases h
     .cases h
    .cases h
 .rename_i o f p2;split at h
  .rename_i x p1 hn;have hn:=CY hn;subst hn;unfold Yh at h;split at h
   .rename_i CC fs i hsf hv;split at h
    .rename_i jj hj;split at h
     .cases h
     .rename_i hc;have hc':((fs.take jj).contains f || !(decide (jj<900)) || DW e)=false:=yar.mpr hc
      rw[ybe,ybe,Bool.not_eq_false',yf1]at hc';obtain⟨⟨c1,c2⟩,c3⟩:=hc';obtain⟨v1,v2,v3,v4⟩:=C.var (pos:=p1) hv;obtain⟨k1,k2⟩:=C.gx.sf CC fs hsf;obtain⟨q1,q2,_⟩:=ybg.mp hj
      have hf:f∈fs:=by
       rw[<- eq_of_beq q2];exact ydo q1
      have hg:fs[jj]?=some f:=by rw[ya5 q1];exact congrArg some (eq_of_beq q2)
      split at h
      .rename_i h0;obtain⟨p0,rfl⟩:=zji h0;cases h;exact Ts k1 (k2 f hf) hg c1 c2 v1 v2 v3 v4 zl0 rfl
      .obtain⟨m1,h1,rfl⟩:=ya4.mp h;exact Ts k1 (k2 f hf) hg c1 c2 v1 v2 v3 v4 (GE.e C h1) (L5 c3)
    .cases h
   .cases h
  .cases h
 .cases h
theorem dS_ok{ca:Str->Value}{n:Nat}(G:GoodS ca n){Γ:Gm}{X:Cx}{E:L2.St->XK}{st:Stmt}{m:AB->Option Out}(C:CxOk Γ X E ca)(h:dS (n+1) Γ st=some m):PS X st (tS X.K E ca Γ.mu m):=by
 have GE:=K4 ca n;unfold dS at h;split at h
 .cases h;exact zkk
 .cases h;exact zhp
 .cases h;exact zcy
 .split at h
  .split at h
   .rename_i hmu;cases h
   .rename_i hmu;cases h;rw[yar.mpr hmu];exact zkj
  .split at h
   .rename_i hmu;cases h
   .rename_i hmu;rw[yar.mpr hmu];obtain⟨m1,h1,rfl⟩:=ya4.mp h;exact Li (GE.e C h1)
 .split at h
  .rename_i x p f apos e cpos happ;have happ:=zha happ;subst happ;split at h
   .rename_i hc;rw[ya2]at hc;split at h
    .rename_i i m1 h1 h2;obtain⟨v1,v2,v3,v4⟩:=C.var (pos:=p) h1;have s1:=Bl (es:=[]) (env:=X.env) hc.1;split at h
     .rename_i hf;subst hf;cases h;exact s_app v1 v2 v3 v4 (GE.e C h2) s1 hc.2
     .cases h
    .cases h
   .cases h
  .split at h
   .rename_i x p f apos cpos hclr;have hclr:=zgz hclr;subst hclr;cases h
   ·
    split at h
    .cases h
    .rename_i hc;obtain⟨m1,h1,rfl⟩:=ya4.mp h;exact s_exp (GE.e C h1) (L5 (yar.mpr hc))
 .split at h
  .exact zjs C h
  .cases h
 .split at h
  .split at h
   .rename_i hl;rw[ya2]at hl;split at h
    .rename_i i m1 h1 h2;cases h;obtain⟨g1,g2,g3⟩:=C.loc hl.1 h1;exact s_aug C.nodup g1 g2 (GE.e C h2) g3
    .cases h
   .cases h
  .cases h
 .rename_i c a b pos;split at h
  .rename_i hok;split at h
   .rename_i mc u w h1 h2 h3;cases h;exact Tr (zia (GE.t C hok h1)) (G.ss C h2) (G.ss C h3)
   .cases h
  .cases h
 .split at h
  .cases h
  rename_i hnr;split at h
  .split at h
   .rename_i mi b u h1 h2 h3;cases h;exact s_for (C.po (yar.mpr hnr)) C.calm (GE.i C h1) (R9 C h2) (G.ss C h3) (Qq (R8 h1))
   .cases h
  .cases h
 .split at h
  .cases h
  rename_i hnr;split at h
  .split at h
   .rename_i hok;split at h
    .rename_i mc u h1 h2;cases h;exact s_wh (C.po (yar.mpr hnr)) (GE.t C hok h1) (G.ss C h2)
    .cases h
   .cases h
  .cases h
 ·
  split at h
  .rename_i c p e es cpos hr;obtain⟨rfl,rfl⟩:=zfl hr;split at h
   .rename_i hc;simp only[ya2,ycb]at hc;obtain⟨ms,h1,rfl⟩:=ya4.mp h;exact s_rse C hc.1.1.1 (yb5.mp hc.1.1.2) hc.1.2 hc.2 (GE.a C h1) (Fs h1)
   .cases h
  .cases h
 .rename_i body hs els Al pos;split at h
  .rename_i t x b0 suite hpos;split at h
   .rename_i W np hW;have hW:=CY hW;subst hW;split at h
    .rename_i hc;simp only[ya2,ycb]at hc;obtain⟨⟨⟨⟨⟨c1,c2⟩,c3⟩,c4⟩,c5⟩,c6⟩:=hc;split at h
     .rename_i i cs u hh h1 h2 h3 h4;cases h;obtain⟨T,hT⟩:=C.gx.xs W cs h2;obtain⟨t1,t2⟩:=C.tr c1;rw[c3];refine s_try (mu:=false) T hT t1 t2 C.nodup (by rw[C.N];exact FE h1) (by rw[C.nm];exact eq_of_beq c4) (λE' pins xe hp=>?_) (λa=>?_) (C.gl c5) (DT c6).1
      .have C':CxOk { Γ with ox:={ Γ.ox with nr:=true } } (Ft X pins xe) E' ca:=⟨C.N,C.nd,C.nm,C.kd,C.calm,C.room,C.ce,C.bl,hp,λz=>(by cases z),λz=>(by cases z),C.fs,C.ex,C.ms,⟨C.gx.co,C.gx.cl,C.gx.mt,C.gx.nw,C.gx.sf,C.gx.xs,C.gx.sb,C.gx.sv,C.gx.ci,C.gx.x2,C.gx.wd⟩,C.tr,C.fr⟩
       have g:=G.ss C' h3;have e:(({ Γ with ox:={ Γ.ox with nr:=true } }:Gm)).mu=false:=c3
       rw[e]at g;exact g
      .have CS:CxS Γ (DJ X a) ca:=⟨C.N,C.nd,C.nm,⟨rfl,C.room.dp,C.room.un⟩,C.bl,C.gx⟩;exact zn9 n CS h1 h4
     .cases h
    .cases h
   .cases h
  .cases h
 .cases h
theorem Qf(ca:Str->Value):∀n,GoodS ca n
 |0=>⟨(λC h=>by cases h),(λC h=>by cases h)⟩
 |n+1=>by
  have G:=Qf ca n;refine⟨λC h=>dS_ok G C h,λ{Γ X E st m} C h=>?_⟩
  unfold Aj at h;cases st with
  |nil=>cases h;exact OT
  |cons s r =>
   cases r with
   |nil =>
    simp only at h;split at h
    .rename_i m1 h1;cases h;exact O7 (Jk (G.s C h1)) _
    .split at h
     .cases h;exact Jk Tq
     .cases h
   |cons s2 r =>
    simp only at h;split at h
    .rename_i m1 ms h1 h2;cases h;exact O7 (Jm (G.s C h1) (G.ss C h2)) _
    .rename_i ms h1 h2;split at h
     .cases h;exact Jm Tq (G.ss C h2)
     .cases h
    .cases h
noncomputable def P6(n:Nat)(u:AB->Option Out)(ts:List T):Option Ru:=match u (ts.map some++List.replicate (n - ts.length) none) with
 |some (.rt t)=>some (.ok t)
 |some (.nx _)=>some (.ok .non)
 |some (.xc c _)=>some (.exc c)
 |_=>none
def An(k n:Nat)(u:AB->Option Out)(ts:List T):Option Ru:=if ts.length=k then P6 n u ts else none
theorem OB{F H F' H':Hp}{O':Rg}{R:Nat->Rg}(hR:∀i a,¬ R i a)(s:Stp F H (tot R) F' H' O'):Ext F H F' H' O' where
 hh:=λb u e=>s.kp b u (λ⟨i,z⟩=>hR i b z) e
 ff:=s.ff
 fh:=s.fh
 nb:=λb z=>(s.nw b z).elim (λ⟨i,w⟩=>absurd w (hR i b)) id
 nf:=λb u e=>(s.nf b u e).elim .inl λz=>z.elim (λ⟨i,w⟩=>absurd w (hR i b)) .inr
theorem zf3{K:kA}{F H:Hp}{N:List Str}{ts:List T}{vs:List V}(fh:AZ F H)(r:Ag K F ts vs):StR K F H (start N vs) (ts.map some++List.replicate (N.length - ts.length) none) (λ_=>R0):=by
 have hl:=r.1;refine⟨fh,by simp[L2.start,hl],λi t e=>?_,λ_ _ z=>z.elim,λ_ _ _ _ z=>z.elim⟩
 unfold L2.start
 by_cases hi:i<ts.length
 .rw[yay (by simpa using hi),yaj]at e
  obtain⟨t',e1,e2⟩:=ya4.mp e;cases e2;have hv:i<vs.length:=by omega
  refine⟨vs[i],?_,(r.2 i t vs[i] e1 (ya5 hv)).any⟩;rw[yay (by simpa using hv),yaj,ya5 hv]
  rfl
 .rw[yb0 (by simp;omega)]at e
  obtain⟨h1,h2⟩:=yac.mp e;simp at h2
theorem UD{K:kA}{ca:Str->Value}{N ps:List Str}{vs:List V}{H:Hp}{Q:VK}{E:XK}{u:AB->Option Out}(h:Bv K ca (An ps.length N.length u) vs H Q E):tS K (λ_=>E) ca false u { nx:=λ_ H'=>Q .non H',rt:=Q } (start N vs) H:=by
 obtain⟨F',ts,fh,r,q⟩:=h;refine⟨F',_,_,zf3 fh r,?_⟩;unfold An at q
 by_cases hl:ts.length=ps.length
 .simp only[hl,yeo]at q;unfold P6 at q;cases ho:u (ts.map some++List.replicate (N.length - ts.length) none) with
  |none=>simp only[ho]at q
  |some o =>
   simp only[ho]at q;cases o with
   |nx τ=>exact λF1 H1 σ1 R1 s1 S1=>q F1 H1 .non R0 ((OB (λ_ _ z=>z) s1).mono λ_ z=>z.elim) .non
   |rt t=>exact λF1 H1 x B s1 r1=>q F1 H1 x B (OB (λ_ _ z=>z) s1) r1
   |bk τ=>exact q.elim
   |ct τ=>exact q.elim
   |xc c τ=>exact λF1 H1 σ1 R1 s1 S1=>q F1 H1 ((OB (λ_ _ z=>z) s1).mono λ_ z=>z.elim)
 .simp only[hl,yep]at q
theorem YO{P:Program}{w:World}{K:kA}{mg:Str->Option Value}{base:Heap}{ca:Str->Value}{x qual:Str}{st:Stmt}{f:Addr}{fd:FuncData}{N ps:List Str}{k n:Nat}{Γ:Gm}{u:AB->Option Out}(F:FunD K x qual st f fd)(S:FnScope N ps (AL st))
  (hΓ:Γ.N=N) (hnm:Γ.nm=(AL st).names) (hce:∀x∈Γ.ce,Γ.nm.lookup x=some .cell) (hlv:Γ.lv=k) (hbl:∀b∈Γ.bl,mg b=none)
  (hfs:∀f F,Γ.fns.lookup f=some F->F.lv<=k/\Nonempty (DefX P w K mg base F.lv f F.ps (Bv K ca F.g))) (hex:∀c∈Γ.ex,∃T:ECls K mg c,ca c=.ref T.C)
  (hms:∀f F,Γ.mus.lookup f=some F->F.lv<=k/\Nonempty (DefX P w K mg base F.lv f F.ps (Jh K ca F.g))) (hmu:Γ.mu=false) (hgx:GxOk Γ.ox k P w K mg base ca) (hu:Aj n Γ (Ah st)=some u):FnOk P w K mg base (Bk P w) (k+1) f fd ps (Bv K ca (An ps.length N.length u)):=by
 refine VM F S (λvs H Q E h=>?_) λcdv A outer s H vs Q E hr h=>?_
 .obtain⟨F',ts,_,r,q⟩:=h;unfold An at q
  by_cases hl:ts.length=ps.length
  .rw[<- r.1,hl]
  .simp only[hl,yep]at q
 .have C:CxOk Γ (ES (Bk P w) P w K mg base N qual (AL st) f cdv A outer s H E) (λ_=>E) ca:=by
   refine⟨hΓ.symm,by rw[hΓ];exact S.nd,hnm.symm,S.kind,rfl,by rw[hlv];exact hr,λy hy=>⟨rfl,hce y hy⟩,hbl,VD,λ_=>PassesOwn.leaving,λ_=>Wc,λf F e=>by rw[hlv];exact hfs f F e,hex,λf F e=>by rw[hlv];exact hms f F e,by rw[hlv];exact hgx,λ_=>⟨rfl,rfl⟩,⟨_,_,rfl,rfl⟩⟩
  have G:=(Qf ca n).ss C hu;rw[hmu]at G;refine⟨_,G,?_⟩;exact UD h
theorem zdn{K:kA}{F H:Hp}{N:List Str}{t0:T}{ts:List T}{x0:V}{vs:List V}{A:Rg}(fh:AZ F H)(r0:Rp K F H t0 x0 A)(r:Ag K F ts vs):StR K F H (start N (x0::vs)) ((t0::ts).map some++List.replicate (N.length - (t0::ts).length) none) (λi=>if i=0 then A else R0):=by
 have hl:=r.1;refine⟨fh,by simp[L2.start,hl],λi t e=>?_,λi a z=>?_,λi j a hij z1 z2=>?_⟩
 .unfold L2.start
  by_cases hi:i<(t0::ts).length
  .rw[yay (by simpa using hi),yaj]at e
   obtain⟨t',e1,e2⟩:=ya4.mp e;cases e2;cases i with
   |zero =>
    cases e1;exact⟨x0,by simp,r0⟩
   |succ i =>
    have hi':i<ts.length:=by simpa using hi
    have hv:i<vs.length:=by omega
    refine⟨vs[i],?_,(r.2 i t vs[i] (by simpa using e1) (ya5 hv)).any⟩
    rw[yay (by simpa using hv),yaj,yck,ya5 hv]
    rfl
  .rw[yb0 (by simp at hi ⊢;omega)]at e
   obtain⟨h1,h2⟩:=yac.mp e;simp at h2
 .by_cases hi:i=0
  .subst hi;exact⟨t0,rfl⟩
  .simp only[hi,yep]at z;exact z.elim
 .by_cases hi:i=0
  .have hj:¬ j=0:=λz=>hij (hi.trans z.symm)
   simp only[hj,yep]at z2;exact z2
  .simp only[hi,yep]at z1;exact z1
theorem zhg{A:Rg}:tot (λi=>if i=0 then A else R0)=A:=funext λa=>propext ⟨λ⟨i,z⟩=>by
 by_cases hi:i=0
 .simp only[hi,yeo]at z;exact z
 .simp only[hi,yep]at z;exact z.elim,λz=>⟨0,by simpa using z⟩⟩
theorem AX{α:Type}{P:α->Prop}:∀x∈([]:List α),P x:=λ_ h=>by cases h
theorem all_cons{α:Type}{P:α->Prop}{a:α}{l:List α}(h:P a)(r:∀x∈l,P x):∀x∈a::l,P x:=λx hx=>by
 obtain rfl|hx:=yad.mp hx
 .exact h
 .exact r x hx
theorem LN{P:List Value->Prop}(h:P []):∀us:List Value,us.length=0->P us:=λus e=>by
 cases us with
 |nil=>exact h
 |cons a r=>cases e
theorem El{P:List Value->Prop}{k:Nat}(h:∀a us,us.length=k->P (a::us)):∀us:List Value,us.length=k+1->P us:=λus e=>by
 cases us with
 |nil=>cases e
 |cons a r=>exact h a r (Nat.succ.inj e)
theorem Be{P:List Value->Prop}(h:∀a,P [a]):∀us:List Value,us.length=1->P us:=El λa=>LN (h a)
theorem Em{P:List Value->Prop}(h:∀a b,P [a,b]):∀us:List Value,us.length=2->P us:=El λa=>El λb=>LN (h a b)
theorem Jd{P:List Value->Prop}(h:∀a b c,P [a,b,c]):∀us:List Value,us.length=3->P us:=El λa=>El λb=>El λc=>LN (h a b c)
theorem LO{P:List Value->Prop}(h:∀a b c d,P [a,b,c,d]):∀us:List Value,us.length=4->P us:=El λa=>El λb=>El λc=>El λd=>LN (h a b c d)
section
variable {P:Program}{w:World}{K:kA}{mg:Str->Option Value}{base:Heap}{ca:Str->Value}{k:Nat}
theorem Av:∀f F,([]:List (Str×Fn)).lookup f=some F->F.lv<=k/\Nonempty (DefX P w K mg base F.lv f F.ps (Bv K ca F.g)):=λ_ _ h=>by cases h
theorem Ae{x:Str}{F0:Fn}{l:List (Str×Fn)}(hk:F0.lv<=k)(D:DefX P w K mg base F0.lv x F0.ps (Bv K ca F0.g))(r:∀f F,l.lookup f=some F->F.lv<=k/\Nonempty (DefX P w K mg base F.lv f F.ps (Bv K ca F.g))) :
  ∀f F,((x,F0)::l).lookup f=some F->F.lv<=k/\Nonempty (DefX P w K mg base F.lv f F.ps (Bv K ca F.g)):=λf F h=>by
 rw[yb2]at h;cases hf:f == x with
 |true =>
  rw[hf]at h;cases h;rw[eq_of_beq hf];exact⟨hk,⟨D⟩⟩
 |false=>rw[hf]at h;exact r f F h
theorem H0:∀f F,([]:List (Str×Fn)).lookup f=some F->F.lv<=k/\Nonempty (DefX P w K mg base F.lv f F.ps (Jh K ca F.g)):=λ_ _ h=>by cases h
def Lc(K:kA):Sp:=λvs H Q _=>∃(a:Addr) (ns:List Int),vs=[.ref a]/\Ac K H a (ns.map V.int)/\ns.length<=63/\∀H',Q (.bl true) H'
def BA(ns:List Int):T:=.nd false .rl (ns.map T.int)
theorem UH{F:Hp}:∀ns:List Int,Ag K F (ns.map T.int) (ns.map V.int)
 |[]=>.nil
 |n::r=>.cons (H:=F) (.int n) (UH r)
theorem zmj{R:List T->Option Ru}{f:Addr}{fd:FuncData}(F:FnOk P w K mg base (Bk P w) k f fd ["_law_script"] (Bv K ca R))(h:∀ns:List Int,ns.length<=63->R [BA ns]=some (.ok (.bl true))):FnOk P w K mg base IG k f fd ["_law_script"] (Lc K):=by
 refine⟨λvs H Q E hs=>?_,λA outer s H args us vs Q E hr e0 hb hv hs=>?_⟩
 .obtain⟨a,ns,rfl,_⟩:=hs
  rfl
 .obtain⟨a,ns,rfl,hq,h63,q⟩:=hs;refine yes (F.run A outer s H args us _ Q E0 hr e0 hb hv ⟨H,[BA ns],.refl _,.cons (H:=H) (Ag.of_node (k:=.rl) hq (UH ns)) .nil,?_⟩) λr s' hx=>?_
  .rw[h ns h63];intro F' H' z C e r;rw[r.bl_inv];exact q H'
  .cases r with
   |error v =>
    obtain⟨_,_,_,_,_,_,_,_,_,_,_,_,z⟩:=hx;exact z.elim
   |ok fl=>cases fl<;>exact hx
end
structure CxB(Γ:Gm)(X:Cx)(ca:Str->Value):Prop extends CxS Γ X ca where
 fr:Gw X
 hx:∀pins σ H s scope cl N' C ex xb,Inv X pins σ H s->HX (Ai X scope cl N' C s H ex xb)
 ps:BH X Ej
def NC:Expr->Option (Str×Str×Scope)
 |.ListComp e gs sc _=>(match gs with
  |[]=>none
  |g::r=>(match g.ifs with
   |[]=>none
   |c::cs=>(Bm e).bind λa=>(Bm g.target).bind λb=>(Bm g.iter).bind λy=>(Bm c).bind λd=>if (r.isEmpty && cs.isEmpty)=true/\b.1=a.1/\d.1=a.1/\g.is_async=0 then some (a.1,y.1,sc) else none))
 |_=>none
theorem Yu{e:Expr}{o y:Str}{sc:Scope}(h:NC e=some (o,y,sc)):∃p1 p2 p3 p4 pc,e=.ListComp (.Name o p1) [⟨.Name o p2,.Name y p3,[.Name o p4],0⟩] sc pc:=by
 cases e with
 |ListComp e gs sc' pc =>
  cases gs with
  |nil=>cases h
  |cons g r =>
   obtain⟨t,it,ifs,k⟩:=g;cases ifs with
   |nil=>cases h
   |cons c cs =>
    obtain⟨⟨o1,p1⟩,h1,k1⟩:=yaa.mp (show _=some (o,y,sc) from h);obtain⟨⟨o2,p2⟩,h2,k2⟩:=yaa.mp k1;obtain⟨⟨y',p3⟩,h3,k3⟩:=yaa.mp k2;obtain⟨⟨o4,p4⟩,h4,k4⟩:=yaa.mp k3;split at k4
    .rename_i hc;cases k4;obtain⟨e1,e2,e3,e4⟩:=hc;rw[ya2,ycj,ycj]at e1;exact⟨p1,p2,p3,p4,pc,by rw[CY h1,show t=.Name o2 p2 from CY h2,show it=.Name y' p3 from CY h3,CY h4,e1.1,e1.2,show o2=o1 from e2,show o4=o1 from e3,show k=0 from e4]⟩
    .cases k4
 |_=>cases h
def Ri(o:Str)(sc:Scope):Bool:=(sc.kind == .function) && CH o && (sc.names.lookup o == some .local) && sc.names.all (λx=>!(x.2 == .free)) && sc.names.all (λx=>!(x.2 == .local) || sc.names.lookup x.1 == some .local)
theorem r_cnt{Γ:Gm}{X:Cx}{ca:Str->Value}{e:Expr}{o y:Str}{sc:Scope}{i:Nat}(C:CxB Γ X ca)(h:NC e=some (o,y,sc))(ok:Ri o sc=true)(hi:Γ.var y=some i):PE X e (tM X.K Ej ca (BO 1 [] (Gf (AA i)) (AG 0) (AA 0) (AA 0))):=by
 obtain⟨p1,p2,p3,p4,pc,rfl⟩:=Yu h;unfold Ri at ok;simp only[ya2]at ok;obtain⟨⟨⟨⟨k1,k2⟩,k3⟩,k4⟩,k5⟩:=ok;obtain⟨p1',p2',p3'⟩:=DT k2
 have nf:∀z∈sc.names,z.2≠.free:=λz hz w=>by
  have q:=yab.mp k4 z hz;rw[w]at q;cases q
 have lo:∀(env:Env),(relabel sc env).names.lookup o=some .local:=λenv=>by
  rw[MD,eq_of_beq k3]
  rfl
 have B:BlkOk X sc [o] 1 []:=⟨eq_of_beq k1,λz hz hl=>by
  have q:=yab.mp k5 z hz;simp only[hl,yf3,ydm,ybp,yex]at q;exact q,rfl,λk j w=>by simp at w,λz hz w=>absurd w (nf z hz)⟩
 obtain⟨v1,v2,v3,v4⟩:=C.toCxS.var hi;have vn:∀cl A s₀ H₀ ex xb E' (p:Pos),PE (Ai X sc cl [o] A s₀ H₀ ex xb) (.Name o p) (tM X.K E' ca (AA 0)):=λcl A s₀ H₀ ex xb E' p=>Ju (X:=Ai X sc cl [o] A s₀ H₀ ex xb) rfl (.inl (lo _)) p1' p2'
 exact UZ B (cq:=HX) (λpins σ H s cl D ex xb I=>C.hx _ _ _ _ _ _ _ _ _ _ I) (zkz (Ju v1 v2 v3 v4)) C.ps C.fr
  (λcl A s₀ H₀ ex xb E' _=>λpins s σ H v u Q I r h=>Uv (X:=Ai X sc cl [o] A s₀ H₀ ex xb) (show [o].Nodup by simp) rfl (.inl (lo _)) (.inr (lo _)) pins s σ H v u Q I r (Ml h))
  (λcl A s₀ H₀ ex xb E' _=>Uj (ME (vn cl A s₀ H₀ ex xb E' _) λ_=>rfl)) (λcl A s₀ H₀ ex xb E' _=>vn cl A s₀ H₀ ex xb E' _) (λ_=>rfl)
theorem zgy{e:Expr}{r:Str×Str×Scope}(h:NC e=some r):CV e=true:=by
 obtain⟨p1,p2,p3,p4,pc,rfl⟩:=Yu (o:=r.1) (y:=r.2.1) (sc:=r.2.2) h
 rfl
def VF:Expr->Option (Expr×Expr)
 |.BoolOp op vs _=>(match op with
  |.Or=>(match vs with
   |[]=>none
   |a::r=>(match r with
    |[]=>none
    |b::s=>if s.isEmpty then some (a,b) else none))
  |.And=>none)
 |_=>none
theorem zlo{e a b:Expr}(h:VF e=some (a,b)):∃p,e=.BoolOp .Or [a,b] p:=by
 cases e with
 |BoolOp op vs p =>
  cases op with
  |And=>cases h
  |Or =>
   cases vs with
   |nil=>cases h
   |cons a' r =>
    cases r with
    |nil=>cases h
    |cons b' s =>
     cases s with
     |cons _ _=>cases h
     |nil=>cases h;exact⟨p,rfl⟩
 |_=>cases h
def WK:Expr->Option Expr
 |.UnaryOp op a _=>(match op with
  |.Not=>some a
  |_=>none)
 |_=>none
theorem zj0{e a:Expr}(h:WK e=some a):∃p,e=.UnaryOp .Not a p:=by
 cases e with
 |UnaryOp op b p =>
  cases op with
  |Not=>cases h;exact⟨p,rfl⟩
  |_=>cases h
 |_=>cases h
noncomputable def W4:Expr->Option (Expr×Expr)
 |.Compare a ops bs _=>(match ops with
  |[]=>none
  |op::r=>(match op with
   |.NotEq=>(match bs with
    |[]=>none
    |b::s=>if r.isEmpty && s.isEmpty then some (a,b) else none)
   |_=>none))
 |_=>none
theorem zm6{e a b:Expr}(h:W4 e=some (a,b)):∃p,e=.Compare a [.NotEq] [b] p:=by
 cases e with
 |Compare a' ops bs p =>
  cases ops with
  |nil=>cases h
  |cons op r =>
   cases op with
   |NotEq =>
    cases bs with
    |nil=>cases h
    |cons b' s =>
     cases r with
     |cons _ _=>cases h
     |nil =>
      cases s with
      |cons _ _=>cases h
      |nil=>cases h;exact⟨p,rfl⟩
   |_=>cases h
 |_=>cases h
def XU:Expr->Option Int
 |.Constant c _ _=>(match c with
  |.int k=>some k
  |_=>none)
 |_=>none
theorem zjj{e:Expr}{k:Int}(h:XU e=some k):∃p q,e=.Constant (.int k) p q:=by
 cases e with
 |Constant c p q =>
  cases c with
  |int k'=>cases h;exact⟨p,q,rfl⟩
  |_=>cases h
 |_=>cases h
def Yd(n:Nat)(Γ:Gm)(e:Expr):Option (AB->Option Rs) :=
 (VF e).bind λv=>(WK v.1).bind λa=>(W4 v.2).bind λc=>(Rx c.1).bind λf=>(XU c.2).bind λk=>(Bm f.1).bind λg=>(NC f.2).bind λq=>(Mj a).bind λ_=>(dX n Γ a).bind λma =>
  if decide (g.1="len") && Bj Γ.nm g.1 && Γ.bl.contains g.1 && Ri q.1 q.2.2 then (Γ.var q.2.1).map λi=>Bi (BF ma) (BB (g2 CI) (AD (BB (g1 BP) (AD (BO 1 [] (Gf (AA i)) (AG 0) (AA 0) (AA 0)) AE)) (AD (mC (.int k)) AE))) else none
theorem zn7{n:Nat}{Γ:Gm}{X:Cx}{ca:Str->Value}{e:Expr}{m:AB->Option Rs}(C:CxB Γ X ca)(h:Yd n Γ e=some m):PT X e (Ao X.K Ej ca m):=by
 obtain⟨⟨v1,v2⟩,h1,k1⟩:=yaa.mp h;obtain⟨a,h2,k2⟩:=yaa.mp k1;obtain⟨⟨c1,c2⟩,h3,k3⟩:=yaa.mp k2;obtain⟨⟨f,l⟩,h4,k4⟩:=yaa.mp k3;obtain⟨k,h5,k5⟩:=yaa.mp k4;obtain⟨⟨g,pg⟩,h6,k6⟩:=yaa.mp k5;obtain⟨⟨o,y,sc⟩,h2',k7⟩:=yaa.mp k6;obtain⟨⟨ia,id,ip,iq,ic⟩,h3',k8⟩:=yaa.mp k7;obtain⟨ma,h4',k9⟩:=yaa.mp k8;obtain⟨p1,rfl⟩:=zlo h1;obtain⟨p2,e2⟩:=zj0 h2;obtain rfl:v1=.UnaryOp .Not a p2:=e2;obtain⟨p3,e3⟩:=zm6 h3;obtain rfl:v2=.Compare c1 [.NotEq] [c2] p3:=e3;obtain⟨p4,e4⟩:=ZA h4;obtain rfl:c1=.Call f [l] [] p4:=e4;obtain⟨p5,p6,e5⟩:=zjj h5;obtain rfl:c2=.Constant (.int k) p5 p6:=e5;obtain rfl:f=.Name g pg:=CY h6
 clear h h1 h2 h3 h4 h5 h6 k1 k2 k3 k4 k5 k6 k7 k8
 split at k9
 .rename_i hc;simp only[ya2,yf1]at hc;obtain⟨⟨⟨e6,c2⟩,c3⟩,c4⟩:=hc;obtain rfl:g="len":=e6;obtain⟨i,hi,rfl⟩:=ya4.mp k9;have ha:=(Gq (E:=Ej) n).1 C.toCxS h4';have hl:=XR h3';have hs:=zgy h2';refine(UQ (US (ME ha ?_)) (UR (UT (VI C.rm.units) (Ii ZC (C.gl c2) (C.bl _ (yb5.mp c3)) boot_len (U7 (r_cnt C h2' c4 hi) UX (Bl hs)) (by decide) (by decide) (Bl hs) rfl) (Ih Uy λ_ _=>.int _) rfl))).pt
  rw[hl];exact λ_=>rfl
 .cases k9
theorem zgt(c d:Bool):MeetsSeq.EqGives (.bool c) (.bool d) (c == d):=by
 intro prog w A E s Q h;unfold eqBool;show wpAny _ _ (if (Value.bool c == Value.bool d)=true then _ else _) Q E s
 by_cases hab:(Value.bool c == Value.bool d)=true
 .rw[if_pos hab];have e:c=d:=by have:=eq_of_beq hab;injection this
  subst e;exact yeg (wpAny_rule (yej (by simpa using h)))
 .rw[if_neg hab];exact yeg (eq_bool (yee h))
def zi5:V->List V->Hp->VK->Prop:=λx vs H Q=>∃(l:Addr) (ys:List Bool) (y:Bool) (j:Nat),x=.ref l/\vs=[.bl y]/\H l=some (.lst (ys.map V.bl))/\ys.findIdx? (· == y)=some j/\ys.length<1000000/\Q (.int j) H
section
variable {X:Cx}{E:L2.St->XK}{ca:Str->Value}{m mk:AB->Option Rs}{o k:Expr}{pos apos cpos:Pos}
theorem ze2:J8 X "list.index" zi5:=by
 intro pins s σ H x vs v us Q I rx rv h;obtain⟨l,ys,y,j,rfl,rfl,hH,hj,hz,q⟩:=h;cases rx;obtain⟨u,rfl,ru⟩:=rv.one;obtain⟨z,its,n,r,hl,e⟩:=I.lstM hH;cases (show u=Value.bool y from ru);obtain⟨hj1,hj2,hj3⟩:=ybg.mp hj;rw[ya1]at hl
 have at_:∀(i:Nat) (hi:i<its.toArray.size),∃(hi':i<ys.length),its.toArray[i]=Value.bool ys[i]:=λi hi=>by
  have hi0:i<its.length:=by simpa using hi
  have hi':i<ys.length:=by omega
  have hx:(ys.map V.bl)[i]?=some (.bl ys[i]):=by rw[yaj,ya5 hi'];rfl
  obtain⟨u,e2,ru⟩:=r.get hx;have eu:u=Value.bool ys[i]:=ru;subst eu;rw[ya5 hi0]at e2;exact⟨hi',by simpa using e2⟩
 let ev:Value->Bool:=λv=>match v with
  |.bool x=>x == y
  |_=>false
 have evs:∀(x:Bool),ev (.bool x)=(x == y):=λ_=>rfl
 have hjs:j<its.toArray.size:=by rw[yaq];omega
 refine yeq F.slot_list_index ⟨_,e,rfl⟩ F.entry_list_index (F.args_list_index_2 _ _) (MeetsSeq.list_index l its.toArray n (.bool y) ev (λy' hy'=>?_) j hjs (by omega) ?_ λm hm hmj=>?_) ⟨e,.int j,H,I.tok _,⟨_,rfl⟩,q⟩
 .obtain⟨i,hi,rfl⟩:=Array.mem_iff_getElem.mp hy';obtain⟨hi',e1⟩:=at_ i hi;rw[e1,evs];exact zgt _ _
 .obtain⟨hi',e1⟩:=at_ j hjs;rw[e1,evs];exact hj2
 .obtain⟨hi',e1⟩:=at_ m hm;rw[e1,evs,yar];exact hj3 m hmj
noncomputable def J0:List T->Option (List Bool)
 |[]=>some []
 |.bl x::r=>(match J0 r with
  |some l=>some (x::l)
  |none=>none)
 |_::_=>none
theorem ZH{K:kA}{F:Hp}:∀{l:List T} {ys:List Bool} {xs:List V},J0 l=some ys->Ag K F l xs->xs=ys.map V.bl
 |[],ys,xs,h,r=>by
  cases h;exact r.inv0
 |t::l,ys,xs,h,r=>by
  obtain⟨x,xs',rfl,r1,r2⟩:=r.inv;unfold J0 at h;split at h
  .rename_i e;cases e
  .rename_i e;cases e;split at h
   .rename_i hl;cases h;rw[r1.bl_inv,ZH hl r2]
    rfl
   .cases h
  .cases h
def He(m:AB->Option Rs)(b:Bool):AB->Option Rs:=λτ=>match m τ with
 |some (.v (.nd false .lst l) false)=>(match J0 l with
  |some ys=>(match ys.findIdx? (· == b) with
   |some j=>if ys.length<1000000 then some (.v (.int j) false) else none
   |none=>none)
  |none=>none)
 |_=>none
theorem zd6{τ:AB}{b:Bool}{r:Rs}(h:He m b τ=some r):∃l ys j,m τ=some (.v (.nd false .lst l) false)/\J0 l=some ys/\ys.findIdx? (· == b)=some j/\ys.length<1000000/\r=.v (.int j) false:=by
 unfold He at h;split at h
 .rename_i l hm;split at h
  .rename_i ys hy;split at h
   .rename_i j hj;split at h
    .rename_i hz;exact⟨l,ys,j,hm,hy,hj,hz,(ya9 h).symm⟩
    .cases h
   .cases h
  .cases h
 .cases h
theorem zfu{b:Bool}{kc p2}(ho:PE X o (tM X.K E ca m))(hbase:attributeBase o "index" X.env (eval o X.env)=eval o X.env)(hline:(apos.endLine == cpos.line)=true) :
  PE X (.Call (.Attribute o "index" apos) [.Constant (.bool b) kc p2] [] cpos) (tM X.K E ca (He m b)):=by
 refine PE.weak (Io PySem.F.plainAttrs_list PySem.F.slot_list_index PySem.F.type_list_index ze2 ho (Cj (VC (b:=b)) DU rfl) hbase rfl hline rfl rfl) λσ H Q h=>?_
 obtain⟨F,τ,R,S,q⟩:=h;refine⟨F,τ,R,S,?_⟩;cases hr:He m b τ with
 |none=>simp only[hr]at q
 |some r =>
  obtain⟨l,ys,j,hm,hy,hj,hz,rfl⟩:=zd6 hr;simp only[hr]at q;rw[hm];intro F1 H1 x B e1 g1;have g1':Rp X.K F1 H1 (.nd false .lst l) x B:=g1;obtain⟨p,rfl⟩:=g1'.ref_inv;obtain⟨xs,hN,hr2⟩:=Ag.node g1';have hF:F1 p=some (.lst xs):=hN;have hxs:=ZH hy hr2;refine⟨.inl ⟨rfl,xs,Ac.of (e1.fh _ _ hF)⟩,?_⟩;exact⟨p,ys,b,j,rfl,rfl,by rw[<- hxs];exact e1.fh _ _ hF,hj,hz,q F1 H1 _ R0 (e1.mono λ_ z=>z.elim) (.int _)⟩
end
def ZG:Expr->Option Bool
 |.Constant c _ _=>(match c with
  |.bool b=>some b
  |_=>none)
 |_=>none
theorem zh9{e:Expr}{k:Bool}(h:ZG e=some k):∃p q,e=.Constant (.bool k) p q:=by
 cases e with
 |Constant c p q =>
  cases c with
  |bool k'=>cases h;exact⟨p,q,rfl⟩
  |_=>cases h
 |_=>cases h
noncomputable def W9:Expr->Option (Expr×Str×Pos×Expr×Pos)
 |.Call f es ks cp=>(match f with
  |.Attribute o a ap=>(match es with
   |[]=>none
   |c::r=>if r.isEmpty && ks.isEmpty then some (o,a,ap,c,cp) else none)
  |_=>none)
 |_=>none
theorem zj6{e o c:Expr}{a:Str}{ap cp:Pos}(h:W9 e=some (o,a,ap,c,cp)):e=.Call (.Attribute o a ap) [c] [] cp:=by
 cases e with
 |Call f es ks cp' =>
  cases f with
  |Attribute o' a' ap' =>
   cases es with
   |nil=>cases h
   |cons c' r =>
    cases r with
    |cons _ _=>cases h
    |nil =>
     cases ks with
     |cons _ _=>cases h
     |nil=>cases h;rfl
  |_=>cases h
 |_=>cases h
def T9:Expr->Option (Expr×Expr)
 |.Subscript a k _=>some (a,k)
 |_=>none
theorem zhl{e a k:Expr}(h:T9 e=some (a,k)):∃p,e=.Subscript a k p:=by
 cases e with
 |Subscript a' k' p=>cases h;exact⟨p,rfl⟩
 |_=>cases h
def My(n:Nat)(Γ:Gm)(e:Expr):Option (AB->Option Rs) :=
 match (T9 e).bind λs=>(W9 s.2).bind λq=>(ZG q.2.2.2.1).map λb=>(s.1,q,b) with
 |some z=>(Bm z.2.1.1).bind λy=>(dX n Γ z.1).bind λma=>if decide (z.2.1.2.1="index") && (z.2.1.2.2.1.endLine == z.2.1.2.2.2.2.line) then (Γ.var y.1).map λi=>AM ma (He (AA i) z.2.2) else none
 |none=>dX n Γ e
theorem zn8{n:Nat}{Γ:Gm}{X:Cx}{ca:Str->Value}{e:Expr}{m:AB->Option Rs}(C:CxB Γ X ca)(h:My n Γ e=some m):PE X e (tM X.K Ej ca m):=by
 unfold My at h;split at h
 .rename_i z hz;obtain⟨⟨a,s⟩,h1,k1⟩:=yaa.mp hz;obtain⟨⟨o,at',ap,c,cp⟩,h2,k2⟩:=yaa.mp k1;obtain⟨b,h3,rfl⟩:=ya4.mp k2;obtain⟨p1,rfl⟩:=zhl h1;obtain rfl:s=.Call (.Attribute o at' ap) [c] [] cp:=zj6 h2;obtain⟨p2,p3,e3⟩:=zh9 h3;obtain rfl:c=.Constant (.bool b) p2 p3:=e3
  clear h1 h2 h3 k1 k2 hz
  obtain⟨⟨y,py⟩,h4,k3⟩:=yaa.mp h;obtain⟨ma,h5,k4⟩:=yaa.mp k3;obtain rfl:o=.Name y py:=CY h4
  clear h h4 k3
  split at k4
  .rename_i hc;simp only[ya2,yf1]at hc;obtain⟨e6,c2⟩:=hc;obtain rfl:at'="index":=e6;obtain⟨i,hi,rfl⟩:=ya4.mp k4;obtain⟨v1,v2,v3,v4⟩:=C.toCxS.var hi;exact U0 ((Gq n).1 C.toCxS h5) (zfu (Ju v1 v2 v3 v4) rfl c2) (Us rfl)
  .cases k4
 .exact(Gq n).1 C.toCxS h
def XY:Stmt->Option (Expr×Expr)
 |.If c a b _=>(match a with
  |[]=>none
  |s::r=>if r.isEmpty && b.isEmpty then (HQ s).map λe=>(c,e) else none)
 |_=>none
theorem zmw{s:Stmt}{c e:Expr}(h:XY s=some (c,e)):∃q p,s=.If c [.Return (some e) q] [] p:=by
 cases s with
 |If c' a b p =>
  cases a with
  |nil=>cases h
  |cons s r =>
   cases r with
   |cons _ _=>cases h
   |nil =>
    cases b with
    |cons _ _=>cases h
    |nil =>
     obtain⟨e',h1,h2⟩:=ya4.mp (show(HQ s).map (λe=>(c',e))=some (c,e) from h)
     cases h2;obtain⟨q,rfl⟩:=Pd h1;exact⟨q,p,rfl⟩
 |_=>cases h
def JV:Nat->Gm->List Stmt->Option (AB->Option Out)
 |0,_,_=>none
 |n+1,Γ,ss=>match ss with
  |[]=>none
  |s::r=>(match HQ s with
   |some e=>if r.isEmpty then (My n Γ e).map A2 else none
   |none=>(match Ko s with
    |some q=>if Γ.loc q.1 && (Γ.nm.lookup q.1 == some .local) && Po q.2 then (CJ Γ.N q.1).bind λi=>(dX n Γ q.2).bind λm=>(JV n Γ r).map λms=>AI (AQ m (AG i)) ms else none
    |none=>(XY s).bind λq=>(Yd n Γ q.1).bind λmc=>(dX n Γ q.2).bind λme=>(JV n Γ r).map λms=>AI (Ab mc (A2 me) Aq) ms))
theorem R6{ca:Str->Value}:∀n:Nat,∀{Γ:Gm} {X:Cx} {ss:List Stmt} {m:AB->Option Out},CxB Γ X ca->JV n Γ ss=some m->BJ X ss (tS X.K Ej ca false m)
 |0,Γ,X,ss,m,C,h=>by cases h
 |n+1,Γ,X,[],m,C,h=>by cases h
 |n+1,Γ,X,s::r,m,C,h=>by
  unfold JV at h;cases h1:HQ s with
  |some e =>
   simp only[h1]at h;obtain⟨p,rfl⟩:=Pd h1;cases r with
   |cons _ _=>cases h
   |nil =>
    obtain⟨m1,h1,rfl⟩:=ya4.mp (show(My n Γ e).map A2=some m from h);exact Jk (Li (zn8 C h1))
  |none =>
   cases h2:Ko s with
   |some q =>
    simp only[h1,h2]at h;obtain⟨x,e⟩:=q;obtain⟨px,pa,rfl⟩:=SX h2
    clear h1 h2
    split at h
    .rename_i hc;simp only[ya2]at hc;obtain⟨i,h3,k2⟩:=yaa.mp h;obtain⟨m1,h4,k3⟩:=yaa.mp k2;obtain⟨ms,h5,rfl⟩:=ya4.mp k3;have hl:X.env.scope.names.lookup x=some .local:=by rw[C.nm];exact eq_of_beq hc.1.2
     exact Jm (OI (by rw[C.N];exact C.nd) (by rw[C.N];exact FE h3) (.inl hl) ((Gq n).1 C.toCxS h4) (T8 hc.2) (.inr hl)) (R6 n C h5)
    .cases h
   |none =>
    simp only[h1,h2]at h;obtain⟨⟨c,e⟩,h3,k1⟩:=yaa.mp h;obtain⟨mc,h4,k2⟩:=yaa.mp k1;obtain⟨me,h5,k3⟩:=yaa.mp k2;obtain⟨ms,h6,rfl⟩:=ya4.mp k3;obtain⟨q,p,rfl⟩:=zmw h3;exact Jm (Tr (zn7 C h4) (Jk (Li ((Gq n).1 C.toCxS h5))) OT) (R6 n C h6)
theorem fnB{P:Program}{w:World}{K:kA}{mg:Str->Option Value}{base:Heap}{ca:Str->Value}{x qual p:Str}{st:Stmt}{f:Addr}{fd:FuncData}{N:List Str}{k n:Nat}{Γ:Gm}{u:AB->Option Out}(F:FunD K x qual st f fd)(S:FnScope N [p] (AL st))
  (hΓ:Γ.N=N) (hnm:Γ.nm=(AL st).names) (hlv:Γ.lv=k) (hbl:∀b∈Γ.bl,mg b=none) (hgx:GxOk Γ.ox k P w K mg base ca) (hu:JV n Γ (Ah st)=some u):FnS P w K mg base (k+1) f fd p (Bv K ca (An 1 N.length u)):=by
 refine fnS F S λcdv A outer s H a Q hh hX hr h=>⟨_,R6 n (Γ:=Γ) (ca:=ca) ⟨⟨hΓ.symm,by rw[hΓ];exact S.nd,hnm.symm,by rw[hlv];exact hr,hbl,by rw[hlv];exact hgx⟩,⟨_,_,rfl,rfl⟩,λpins σ H' s' scope cl N' C ex xb I=>?_,λ_ _ _ _ _ _ _ h=>?_⟩ hu,UD (ps:=[p]) h⟩
 .obtain⟨C',hX⟩:=hX;obtain⟨ob,y,r⟩:=hX;exact⟨a,C',hh,ob,I.base.frzs _ _ _ y,r⟩
 .obtain⟨_,_,_,_,_,_,_,_,_,_,_,_,z⟩:=h;exact z.elim
def Cu(C:Addr)(fs:List Str)(k n:Nat)(u:AB->Option Out)(p:Addr)(ts:List T):Option Ru:=if ts.length+1=k then (match u ((T.oob p C fs []::ts).map some++List.replicate (n - (ts.length+1)) none) with
 |some (.nx τ)=>(match Ff τ 0 C fs with
  |some (q,l)=>if q=p then some (.ok (.obj (.ins C fs) (Aw l))) else none
  |none=>none)
 |some (.xc c _)=>some (.exc c)
 |_=>none) else none
open Classical in
def ED(C:Addr)(fs:List Str)(k n:Nat)(u:AB->Option Out)(ts:List T):Option Ru:=if h:∃r,∀p,Cu C fs k n u p ts=some r then some h.choose else none
theorem Et{C:Addr}{fs:List Str}{k n:Nat}{u:AB->Option Out}{ts:List T}{r:Ru}(h:∀p,Cu C fs k n u p ts=some r):ED C fs k n u ts=some r:=by
 have hx:∃r,∀p,Cu C fs k n u p ts=some r:=⟨r,h⟩;unfold ED;rw[dif_pos hx];have e:=(hx.choose_spec 0).symm.trans (h 0);exact e
theorem UE{C:Addr}{fs:List Str}{k n:Nat}{u:AB->Option Out}{ts:List T}{r:Ru}(h:ED C fs k n u ts=some r)(p:Addr):Cu C fs k n u p ts=some r:=by
 unfold ED at h;split at h
 .rename_i hx;cases h;exact hx.choose_spec p
 .cases h
theorem K8{P:Program}{w:World}{K:kA}{mg:Str->Option Value}{base:Heap}{ca:Str->Value}{x qual:Str}{st:Stmt}{f:Addr}{fd:FuncData}{N ps:List Str}{k n:Nat}{Γ:Gm}{u:AB->Option Out}{C:Addr}{fs:List Str}(F:FunD K x qual st f fd)(S:FnScope N ps (AL st))
  (hΓ:Γ.N=N) (hnm:Γ.nm=(AL st).names) (hce:∀x∈Γ.ce,Γ.nm.lookup x=some .cell) (hlv:Γ.lv=k) (hbl:∀b∈Γ.bl,mg b=none)
  (hfs:∀f F,Γ.fns.lookup f=some F->F.lv<=k/\Nonempty (DefX P w K mg base F.lv f F.ps (Bv K ca F.g))) (hex:∀c∈Γ.ex,∃T:ECls K mg c,ca c=.ref T.C)
  (hms:∀f F,Γ.mus.lookup f=some F->F.lv<=k/\Nonempty (DefX P w K mg base F.lv f F.ps (Jh K ca F.g))) (hmu:Γ.mu=false) (hgx:GxOk Γ.ox k P w K mg base ca) (hu:Aj n Γ (Ah st)=some u):FnOk P w K mg base (Bk P w) (k+1) f fd ps (DQ K ca C (ED C fs ps.length N.length u)):=by
 refine VM F S (λvs H Q E h=>?_) λcdv A outer s H vs Q E hr h=>?_
 .obtain⟨F',p,dx,ts,vs',_,rfl,_,_,r,q⟩:=h;cases hg:ED C fs ps.length N.length u ts with
  |none=>rw[hg]at q;exact q.elim
  |some rr =>
   have h0:=UE hg 0;unfold Cu at h0
   by_cases hl:ts.length+1=ps.length
   .rw[ya6,<- r.1,hl]
   .rw[if_neg hl]at h0;cases h0
 .have CC:CxOk Γ (ES (Bk P w) P w K mg base N qual (AL st) f cdv A outer s H E) (λ_=>E) ca:=by
   refine⟨hΓ.symm,by rw[hΓ];exact S.nd,hnm.symm,S.kind,rfl,by rw[hlv];exact hr,λy hy=>⟨rfl,hce y hy⟩,hbl,VD,λ_=>PassesOwn.leaving,λ_=>Wc,λf F e=>by rw[hlv];exact hfs f F e,hex,λf F e=>by rw[hlv];exact hms f F e,by rw[hlv];exact hgx,λ_=>⟨rfl,rfl⟩,⟨_,_,rfl,rfl⟩⟩
  have G:=(Qf ca n).ss CC hu;rw[hmu]at G;refine⟨_,G,?_⟩;obtain⟨F',p,dx,ts,vs',fh,rfl,fp,hp,r,q⟩:=h;have r0:Rp K F' H (.oob p C fs []) (.ref p) (λa=>a=p\/∃j:Nat,R0 a):=.oob (xs:=[]) (λ_=>R0) fp (by rw[List.zip_nil_right];exact hp) rfl (λi t x h=>by simp at h) (λ_ _ _ _ z=>z.elim) (λ_ z=>z) (λ_ _ z=>z.elim)
  have hA:(λa=>a=p\/∃j:Nat,R0 a)=λa=>a=p:=funext λa=>propext ⟨λz=>z.elim id λ⟨_,w⟩=>w.elim,λz=>.inl z⟩
  refine⟨F',_,_,zdn fh r0 r,?_⟩;rw[zhg,hA];cases hg:ED C fs ps.length N.length u ts with
  |none=>rw[hg]at q;exact q.elim
  |some rr =>
   rw[hg]at q;have h0:=UE hg p;unfold Cu at h0
   by_cases hl:ts.length+1=ps.length
   .rw[if_pos hl]at h0;have el:(T.oob p C fs []::ts).length=ts.length+1:=rfl;rw[el];cases ho:u ((T.oob p C fs []::ts).map some++List.replicate (N.length - (ts.length+1)) none) with
    |none=>rw[ho]at h0;cases h0
    |some o =>
     rw[ho]at h0;cases o with
     |nx τ =>
      simp only at h0;intro F1 H1 σ1 R1 s1 S1;cases hoo:Ff τ 0 C fs with
      |none=>rw[hoo]at h0;cases h0
      |some ql =>
       obtain⟨q0,l⟩:=ql;rw[hoo]at h0;simp only at h0
       by_cases hq:q0=p
       .rw[if_pos hq]at h0;subst hq;cases h0;have h00:=Pm hoo;have S2:=S1.frz h00;obtain⟨y,ey,ry⟩:=S1.rep 0 _ h00;obtain⟨dx2,xs2,Rr,rfl,hA2,fp2,hp2,ro,dp⟩:=ry.oob_inv;have n1:∀a,R1 0 a->F1 a=none:=λa z=>(S1.dom z).1
        have r2:=ry.share (H':=H1) (Ec (H:=H1) n1) λa u z q=>by rw[Gi z];exact q
        simp only at q;refine q (frz F1 H1 (R1 0)) H1 ⟨s1.ff.trans (Ec n1),JM S1.fh,s1.kp,λb z=>z.elim,λb u e=>?_⟩ r2
        by_cases hb:R1 0 b
        .exact(s1.nw b ⟨0,hb⟩).elim (λz=>.inr (.inl z)) λz=>.inr (.inr z)
        .rw[Fp hb]at e;exact s1.nf b u e
       .rw[if_neg hq]at h0;cases h0
     |rt t=>cases h0
     |bk τ=>cases h0
     |ct τ=>cases h0
     |xc c τ =>
      cases h0;simp only at q;exact λF1 H1 σ1 R1 s1 S1=>q F1 H1 (s1.mono λ_ z=>z.elim)
   .rw[if_neg hl]at h0;cases h0
theorem BI{κ α:Type} [BEq κ]{P:κ->α->Prop}:∀y b,([]:List (κ×α)).lookup y=some b->P y b:=λ_ _ h=>by cases h
theorem AJ{κ α:Type} [BEq κ] [LawfulBEq κ]{P:κ->α->Prop}{x:κ}{a:α}{l:List (κ×α)}(h:P x a)(r:∀y b,l.lookup y=some b->P y b):∀y b,((x,a)::l).lookup y=some b->P y b:=λy b e=>by
 rw[yb2]at e;cases hf:y == x with
 |true =>
  rw[hf]at e;cases e;rw[eq_of_beq hf];exact h
 |false=>rw[hf]at e;exact r y b e
theorem MA{K:kA}{F:Hp}:∀ys:List Str,Ag K F (ys.map T.str) (ys.map V.str)
 |[]=>.nil
 |y::r=>.cons (H:=F) (.str y) (MA r)
theorem MO{P:Str->Fn->List (Nat×List T)->Prop}:∀x F ds,([]:List (Str×Fn×List (Nat×List T))).lookup x=some (F,ds)->P x F ds:=λ_ _ _ h=>by cases h
theorem KH{P:Str->Fn->List (Nat×List T)->Prop}{l:List (Str×Fn×List (Nat×List T))}{x0:Str}{F0:Fn}{d0:List (Nat×List T)}(h:P x0 F0 d0)(r:∀x F ds,l.lookup x=some (F,ds)->P x F ds):∀x F ds,((x0,F0,d0)::l).lookup x=some (F,ds)->P x F ds:=λx F ds e=>by
 rw[yb2]at e;cases hf:x == x0 with
 |true =>
  rw[hf]at e;cases e;rw[eq_of_beq hf];exact h
 |false =>
  rw[hf]at e;exact r x F ds e
theorem As{G:Gx}{lv:Nat}{P:Program}{w:World}{K:kA}{mg:Str->Option Value}{base:Heap}{ca:Str->Value}
  (co:∀x t,G.co.lookup x=some t->∃u v,mg x=some u/\RelV v u/\∀F:Hp,Rp K F F t v R0:=by exact BI)
  (cl:∀c∈G.cl,Cls K c.2.1/\∀f∈c.2.2,BM K c.2.1 f:=by exact AX)
  (mt:∀c∈G.mt,c.2.2.2.lv<=lv/\Nonempty (MetX P w K mg base c.2.1 c.1 c.2.2.2.lv c.2.2.2.ps (Bv K ca c.2.2.2.g)):=by exact AX)
  (nw:∀x F ds,G.nw.lookup x=some (F,ds)->F.lv+1<=lv/\∃(C:Addr) (D:NewX P w K mg base x C F.lv F.ps (DQ K ca C F.g)),∀k dts,ds.lookup k=some dts->∃dvs us,Cq K D.fd F.ps us/\A9 dvs us/\∀H:Hp,Ag K H dts dvs:=by exact MO)
  (sf:∀C fs,G.sf=some (C,fs)->Cls K C/\∀f∈fs,BM K C f:=by exact(λ_ _ h=>by cases h))
  (xs:∀W cs,G.xs.lookup W=some cs->∃T:ECls K mg W,∀c C,cs.lookup c=some C->ca c=.ref C/\PySem.W.subIn K (.ref C) (.ref T.C)=some true:=by exact BI)
  (sb:∀D tb,G.sb.lookup D=some tb->∃A:Addr,mg D=some (.ref A)/\∀C b,tb.lookup C=some b->ExcK K C/\PySem.W.kitOne K (.ref C) (.ref A)=some b:=by exact BI)
  (sv:∀D tb,G.sv.lookup D=some tb->mg D=none/\∃t,bootBuiltins D=some (.type t)/\∀C b,tb.lookup C=some b->ExcK K C/\PySem.W.kitOne K (.ref C) (.type t)=some b:=by exact BI)
  (ci:∀x tb,G.ci.lookup x=some tb->∃D:Addr,mg x=some (.ref D)/\∀C b,tb.lookup C=some b->ICls K C/\PySem.W.kitOne K (.ref C) (.ref D)=some b:=by exact BI)
  (x2:∀W1 W2 cs,(W1,W2,cs)∈G.x2->∃(T1:ECls K mg W1) (T2:ECls K mg W2),∀c C,cs.lookup c=some C->ca c=.ref C/\PySem.W.subIn K (.ref C) (.ref T1.C)=some false/\PySem.W.subIn K (.ref C) (.ref T2.C)=some true:=by exact(λ_ _ _ h=>by cases h))
  (wd:∀x F,G.wd.lookup x=some F->F.lv<=lv/\∃p,F.ps=[p]/\Nonempty (DefS P w K mg base F.lv x p (Bv K ca F.g)):=by exact BI):GxOk G lv P w K mg base ca:=⟨co,cl,mt,nw,sf,xs,sb,sv,ci,x2,wd⟩
theorem Ap{N ps:List Str}{sc:Scope}(h:(sc.kind=.function/\sc.isCoroutine=false/\sc.isGenerator=false)/\N.Nodup/\N.take ps.length=ps/\(∀x∈ps,sc.names.lookup x=some .local\/sc.names.lookup x=some .cell)/\∀y∈sc.names,y.2≠.free):FnScope N ps sc:=⟨h.1.1,h.1.2.1,h.1.2.2,h.2.1,h.2.2.1,h.2.2.2.1,h.2.2.2.2⟩
structure Qx(P:Program)(w:World)(K:kA)(mg:Str->Option Value)(base:Heap)(ca:Str->Value):Prop where
 m:∀(x:Str) (a:Addr),PySem.W.nsIn K mainGlobals x=some (some (.ref a))->mg x=some (.ref a)
def BD{P:Program}{w:World}{K:kA}{mg:Str->Option Value}{base:Heap}{ca:Str->Value}(q:Qx P w K mg base ca){x:Str}{st:Stmt}{oc:Value}{od an:Option Addr}{osl:Array (Option Value)}{dV kV doc pm cdv ct:Value}{Γ:Gm}{f:Fn}{u:AB->Option Out}{N:List Str}(a:Addr){o:Obj}
  (b:Cq K (PySem.W.fnOf x x (JU st) (Ah st) (AL st) dV kV doc pm an cdv ct) f.ps [])
  (S:FnScope N f.ps (AL st)) (hu:Aj 200 Γ (Ah st)=some u) (hbl:∀b∈Γ.bl,mg b=none) (hfs:∀g F,Γ.fns.lookup g=some F->F.lv<=Γ.lv/\Nonempty (DefX P w K mg base F.lv g F.ps (Bv K ca F.g))) (hgx:GxOk Γ.ox Γ.lv P w K mg base ca) (hce:∀x∈Γ.ce,Γ.nm.lookup x=some .cell:=by exact AX) (hex:∀c∈Γ.ex,∃T:ECls K mg c,ca c=.ref T.C:=by exact AX)
  (hms:∀g F,Γ.mus.lookup g=some F->F.lv<=Γ.lv/\Nonempty (DefX P w K mg base F.lv g F.ps (Jh K ca F.g)):=by exact H0) (ho:o=⟨oc,od,.func (PySem.W.fnOf x x (JU st) (Ah st) (AL st) dV kV doc pm an cdv ct),osl⟩:=by exact rfl) (l:K.lookup a=some o:=by ext) (c:PySem.W.codeIn K cdv x=true:=by ext) (k:PySem.W.keepIn K (.ref a)=true:=by ext) (m:PySem.W.nsIn K mainGlobals x=some (some (.ref a)):=by ext)
  (hΓ:Γ.N=N:=by rfl) (hnm:Γ.nm=(AL st).names:=by rfl) (hlv:Γ.lv+1=f.lv:=by rfl) (hmu:Γ.mu=false:=by rfl) (hg:f.g=An f.ps.length N.length u:=by rfl):DefX P w K mg base f.lv x f.ps (Bv K ca f.g) :=
 ⟨a,_,by rw[hg,<- hlv];exact YO (Gh (l.trans (congrArg some ho)) c k) S hΓ hnm hce rfl hbl hfs hex hms hmu hgx hu,q.m x a m,k,b⟩
theorem ZY{α:Type}{x:α}{l:List α}:Af (x::l) (0:Int)=some x:=by
 have:Af (x::l) ((0:Nat):Int)=some x:=NP rfl;exact this
theorem Kn{α:Type}{x y:α}{l:List α}:Af (x::y::l) (1:Int)=some y:=by
 have:Af (x::y::l) ((1:Nat):Int)=some y:=NP rfl;exact this
theorem ZX{α:Type}{x y z:α}{l:List α}:Af (x::y::z::l) (2:Int)=some z:=by
 have:Af (x::y::z::l) ((2:Nat):Int)=some z:=NP rfl;exact this
section
variable {b:T->AB->Option AB}{body:AB->Option Out}{mc:AB->Option Rs}
theorem Mn{ts:List T}{τ:AB}(I:Nat->AB->Prop)(h0:I 0 τ)(hs:∀i t τ,ts[i]?=some t->I i τ->∃τ1,b t τ=some τ1/\∃τ2,body τ1=some (.nx τ2)/\I (i+1) τ2):∃τ',Bz b body ts τ=some (.nx τ')/\I ts.length τ':=by
 have key:∀(l:List T) (k:Nat) (τ:AB),ts.drop k=l->k<=ts.length->I k τ->∃τ',Bz b body l τ=some (.nx τ')/\I ts.length τ':=by
  intro l
  induction l with
  |nil =>
   intro k τ hd hk hI
   have:k=ts.length:=by
    have:=congrArg List.length hd;simp at this
    omega
   subst this;exact⟨τ,rfl,hI⟩
  |cons t l ih =>
   intro k τ hd hk hI
   have hlt:k<ts.length:=by
    have:=congrArg List.length hd;simp at this
    omega
   rw[yce hlt]at hd;injection hd with h1 h2
   obtain⟨τ1,e1,τ2,e2,hI2⟩:=hs k t τ (by rw[ya5 hlt,h1]) hI
   obtain⟨τ',e3,h3⟩:=ih (k+1) τ2 h2 hlt hI2;exact⟨τ',by unfold Bz;simp only[e1,e2];exact e3,h3⟩
 exact key ts 0 τ rfl (ycf _) h0
theorem zhq{τ:AB}(I:AB->Prop)(μ:AB->Nat)(h0:I τ)(hs:∀τ,I τ->(∃bb,mc τ=some (.v (.bl true) bb)/\∃τ2,body τ=some (.nx τ2)/\I τ2/\μ τ2<μ τ)\/∃bb,mc τ=some (.v (.bl false) bb)) :
  ∃τ',F7 mc body τ=some (.nx τ')/\I τ'/\∃bb,mc τ'=some (.v (.bl false) bb):=by
 have key:∀(n:Nat) (τ:AB),μ τ<n->I τ->∃τ',C4 mc body n τ=some (.nx τ')/\I τ'/\∃bb,mc τ'=some (.v (.bl false) bb):=by
  intro n
  induction n with
  |zero=>intro τ h;exact absurd h (Nat.not_lt_zero _)
  |succ n ih =>
   intro τ hn hI
   rcases hs τ hI with ⟨bb,e1,τ2,e2,hI2,hm⟩|⟨bb,e1⟩
   .obtain⟨τ',e3,h3⟩:=ih τ2 (by omega) hI2
    exact⟨τ',by unfold C4;simp only[e1,e2];exact e3,h3⟩
   .exact⟨τ,by unfold C4;simp only[e1],hI,bb,e1⟩
 obtain⟨τ',e,h⟩:=key (μ τ+1) τ (yc5 _) h0;exact⟨τ',zkn e,h⟩
theorem zgj{me:AB->Option Rs}{ts:List T}{τ:AB}(I:Nat->AB->Prop)(f:Nat->T)(h0:I 0 τ)(hs:∀i t τ,ts[i]?=some t->I i τ->∃τ1,b t τ=some τ1/\me τ1=some (.v (f i) false)/\I (i+1) τ1) :
  Bg b (mC (.bl true)) me ts τ=some ((List.range ts.length).map f):=by
 have key:∀(l:List T) (k:Nat) (τ:AB),ts.drop k=l->k<=ts.length->I k τ->Bg b (mC (.bl true)) me l τ=some ((List.range' k l.length).map f):=by
  intro l
  induction l with
  |nil=>intro k τ _ _ _;rfl
  |cons t l ih =>
   intro k τ hd hk hI
   have hlt:k<ts.length:=by
    have:=congrArg List.length hd;simp at this
    omega
   rw[yce hlt]at hd;injection hd with h1 h2
   obtain⟨τ1,e1,e2,hI2⟩:=hs k t τ (by rw[ya5 hlt,h1]) hI
   have e3:=ih (k+1) τ1 h2 hlt hI2;unfold Bg;simp only[e1,mC,e2,e3];simp[List.range'_succ]
 have:=key ts 0 τ rfl (ycf _) h0;rw[this,<- List.range_eq_range']
end
theorem Pq{i j:Int}(h:EC i=true):H9 i j=true:=by unfold H9;rw[h,ydb,ydb]
theorem P0{i:Int}(h1:-(2 ^ 64)<i)(h2:i<2 ^ 64):EC i=true:=@decide_eq_true _ (Classical.propDecidable _) ⟨h1,h2⟩
theorem HP{i:Int}(h1:-(10 ^ 70)<i)(h2:i<10 ^ 70):EB i=true:=@decide_eq_true _ (Classical.propDecidable _) ⟨h1,h2⟩
theorem fm{i j:Int}(h:0<j):i.fmod j=i % j:=Int.fmod_eq_emod_of_nonneg i (by omega)
theorem CA{i j:Int}:BC (.int i) (.int j)=some (.bl (i == j)):=by
 unfold BC Gj EN JS;simp only[T.data,T.pln,PyData.canLay0,PyData.depth,PyData.eqv];simp
theorem DF{i j:Int}:CI (.int i) (.int j)=some (.bl (!(i == j))):=by
 unfold CI Gj EN JS;simp only[T.data,T.pln,PyData.canLay0,PyData.depth,PyData.eqv];simp
theorem OF:∀ns:List Int,Aw (ns.map T.int)=ns.map T.int
 |[]=>rfl
 |n::r=>by rw[yae,Aw,OF r];rfl
theorem Ld:∀ns:List Int,Aa (ns.map T.int)=true
 |[]=>rfl
 |n::r=>by rw[yae,Aa,Ld r];rfl
theorem D0{α:Type}{l:List α}{k:Int}{x:α}(h0:0<=k)(h:l[k.toNat]?=some x):Af l k=some x:=by
 have:Af l ((k.toNat:Nat):Int)=some x:=NP h
 rwa[ydy h0]at this
end Pu
namespace Zm
end Zm
namespace Db
open PySem
end Db
namespace Pu
open PySem PySem.Spec PyProof.Rows L2 Zw Zx
def mT(n:Nat)(g:Nat->T):List T:=(List.range n).map g
theorem WZ:((0:Nat):Int)=0:=rfl
theorem WY:((1:Nat):Int)=1:=rfl
theorem WX:((2:Nat):Int)=2:=rfl
theorem WW:((3:Nat):Int)=3:=rfl
theorem WV:((4:Nat):Int)=4:=rfl
theorem WU:((5:Nat):Int)=5:=rfl
theorem WT:((6:Nat):Int)=6:=rfl
theorem WS:((7:Nat):Int)=7:=rfl
theorem WR:((8:Nat):Int)=8:=rfl
theorem WQ:((9:Nat):Int)=9:=rfl
theorem KS{k:Nat}(h:k<=100000):(k<=AY)=True:=eq_true (by unfold AY;omega)
theorem Wn{k:Nat}(h:k<100000):(k<AY)=True:=eq_true (by unfold AY;omega)
section
variable {n:Nat}{g h:Nat->T}
theorem FC:(mT n g).length=n:=by simp[mT]
theorem QU{i:Nat}(hi:i<n):(mT n g)[i]?=some (g i):=by simp[mT,hi]
theorem Mb{i:Nat}{t:T}(e:(mT n g)[i]?=some t):i<n/\t=g i:=by
 have hi:i<n:=by
  rcases Nat.lt_or_ge i n with q|q
  .exact q
  .rw[ybu (by rw[FC];exact q)]at e
   cases e
 rw[QU hi]at e;exact⟨hi,by injection e with e;exact e.symm⟩
theorem zma{l:List T}(hl:l.length=n)(h:∀i,i<n->l[i]?=some (g i)):l=mT n g:=by
 refine List.ext_getElem? λi=>?_
 rcases Nat.lt_or_ge i n with q|q
 .rw[h i q,QU q]
 .rw[ybu (by omega),ybu (by rw[FC];exact q)]
theorem zgh(e:∀i,i<n->g i=h i):mT n g=mT n h:=zma FC λi hi=>by rw[QU hi,e i hi]
theorem zmb:mT n g++[g n]=mT (n+1) g:=by
 unfold mT;rw[List.range_succ,yal]
 rfl
theorem zfq(lo:Int):E2 lo n=mT n λi=>.int (lo+(i:Int)):=rfl
theorem Jt:E2 0 n=mT n λi=>.int (i:Int):=by
 rw[zfq];refine zgh λi _=>?_
 rw[Int.zero_add]
variable {b:T->AB->Option AB}{body:AB->Option Out}{me:AB->Option Rs}{τ:AB}
theorem Wv{f:Nat->T}{x:Option T}{cs:AB}(hs:∀i,i<n->me (some (g i)::cs)=some (.v (f i) false)):Bg (AG 0) (mC (.bl true)) me (mT n g) (x::cs)=some (mT n f):=by
 have:=zgj (b:=AG 0) (me:=me) (ts:=mT n g) (τ:=x::cs) (λ_ τ=>∃y,τ=y::cs) f ⟨x,rfl⟩ λi t τ e hI=>by
  obtain⟨hi,rfl⟩:=Mb e;obtain⟨y,rfl⟩:=hI;exact⟨some (g i)::cs,by simp[AG],hs i hi,_,rfl⟩
 rw[this,FC]
 rfl
end
theorem L7:∀ys:List Str,Ep (ys.map T.str)=some ys
 |[]=>rfl
 |y::r=>by
  show(match Ep (r.map T.str) with|some l=>some (y::l)|none=>none)=_
  rw[L7 r]
theorem A8:∀ys:List Str,Aw (ys.map T.str)=ys.map T.str
 |[]=>rfl
 |y::r=>by
  show T.str y::Aw (r.map T.str)=_;rw[A8 r]
  rfl
theorem A7:∀ys:List Str,Aa (ys.map T.str)=true
 |[]=>rfl
 |y::r=>by
  show(true && Aa (r.map T.str))=true;rw[A7 r]
  rfl
def NT(ys:List Str):Prop:=∀y∈ys,PyData.strOk y=true
theorem Uo:∀ys:List Str,Ew (ys.map T.str)=true
 |[]=>rfl
 |y::r=>by
  show(true && Ew (r.map T.str))=true;rw[Uo r]
  rfl
theorem Ww:∀{ys:List Str},NT ys->PyData.canLayAll0 (Bh (ys.map T.str))=true/\PyData.depthAll (Bh (ys.map T.str))=0
 |[],_=>⟨rfl,rfl⟩
 |y::r,h=>by
  obtain⟨h1,h2⟩:=Ww (ys:=r) λx hx=>h x (ya0 _ hx)
  have h3:=h y (ya3 ..);rw[yae,Bh,PyData.canLayAll0,PyData.depthAll,h1,h2,T.data,PyData.canLay0,h3,PyData.depth];exact⟨rfl,rfl⟩
theorem RW{x y:Str}(hx:PyData.strOk x=true)(hy:PyData.strOk y=true):BC (.str x) (.str y)=some (.bl (decide (x=y))):=by
 have e:(x == y)=decide (x=y):=by rw[ybm,yex,yf1]
 unfold BC Gj EN JS;simp only[T.data,T.pln,PyData.canLay0,PyData.depth,PyData.eqv,hx,hy,e];simp
theorem ZZ(x:Str):∀ys:List Str,((Bh (ys.map T.str)).any λy=>PyData.eqv y (.str x))=decide (x∈ys)
 |[]=>by simp[Bh]
 |y::r=>by
  have e:(y == x)=decide (x=y):=by rw[ybm,yex,yf1];exact eq_comm
  rw[yae,Bh,ye1,ZZ x r,T.data,PyData.eqv,e,ybm,ybq,yf1,yf1,yf1,yad]
theorem XX{ys:List Str}{x:Str}{o:Bool}{k:Kd}(h:NT ys)(hx:PyData.strOk x=true):Cm (.str x) (.nd o k (ys.map T.str))=some (.bl (decide (x∈ys))):=by
 have ok:JI (.str x) (ys.map T.str)=true:=by
  obtain⟨h1,h2⟩:=Ww h;unfold JI EN;rw[Uo,h1,h2,T.pln,T.data,PyData.canLay0,hx,PyData.depth]
  rfl
 unfold Cm;simp only;rw[if_pos ok];unfold Qa;rw[T.data,ZZ]
end Pu
namespace Tx
open PySem PySem.NumText
abbrev cs(x:Str):List Nat:=x.cps.toList
theorem cs_app(x y:Str):cs (x++y)=cs x++cs y:=Array.toList_append
theorem cs_ext{x y:Str}(h:cs x=cs y):x=y:=by
 cases x;cases y;exact congrArg Str.mk (Array.toList_inj.mp h)
theorem cs_len(x:Str):x.length=(cs x).length:=rfl
def joinL(c:Nat):List (List Nat)->List Nat
 |[]=>[]
 |[x]=>x
 |x::r=>x++c::joinL c r
theorem cs_join(c:Nat):∀l:List Str,cs (Str.join ⟨#[c]⟩ l)=joinL c (l.map cs)
 |[]=>rfl
 |[x]=>rfl
 |x::y::r=>by
  show cs (x++⟨#[c]⟩++Str.join ⟨#[c]⟩ (y::r))=cs x++c::joinL c ((y::r).map cs);rw[cs_app,cs_app,cs_join c (y::r),yc1]
  rfl
theorem Yo{c:Nat}:∀{a b u v:List Nat},a++c::u=b++c::v->c∉a->c∉b->a=b/\u=v
 |[],[],u,v,h,_,_=>⟨rfl,(yb8 h).2⟩
 |[],y::b,u,v,h,_,hb=>absurd (by rw[(yb8 h).1];exact ya3 ..) hb
 |x::a,[],u,v,h,ha,_=>absurd (by rw[<- (yb8 h).1];exact ya3 ..) ha
 |x::a,y::b,u,v,h,ha,hb=>by
  obtain⟨e1,e2⟩:=yb8 h;obtain⟨e3,e4⟩:=Yo e2 (λz=>ha (ya0 _ z)) (λz=>hb (ya0 _ z))
  exact⟨by rw[e1,e3],e4⟩
theorem joinL_inj{c:Nat}:∀{l m:List (List Nat)},l≠[]->m≠[]->(∀p∈l,c∉p)->(∀p∈m,c∉p)->joinL c l=joinL c m->l=m
 |[],_,h,_,_,_,_=>absurd rfl h
 |_,[],_,h,_,_,_=>absurd rfl h
 |[a],[b],_,_,_,_,e=>by rw[show a=b from e]
 |[a],b::b2::r,_,_,ha,_,e=>absurd (by rw[show a=b++c::joinL c (b2::r) from e];simp) (ha a (ya3 ..))
 |a::a2::r,[b],_,_,_,hb,e=>absurd (by rw[<- show a++c::joinL c (a2::r)=b from e];simp) (hb b (ya3 ..))
 |a::a2::r,b::b2::q,_,_,ha,hb,e=>by
  obtain⟨e1,e2⟩:=Yo (show a++c::joinL c (a2::r)=b++c::joinL c (b2::q) from e) (ha a (ya3 ..)) (hb b (ya3 ..));rw[e1,joinL_inj (yb6 _ _) (yb6 _ _) (λp hp=>ha p (ya0 _ hp)) (λp hp=>hb p (ya0 _ hp)) e2]
theorem map_cs_inj:∀{l m:List Str},l.map cs=m.map cs->l=m
 |[],[],_=>rfl
 |[],_::_,h=>by cases h
 |_::_,[],h=>by cases h
 |a::l,b::m,h=>by
  obtain⟨e1,e2⟩:=yb8 h;rw[cs_ext e1,map_cs_inj e2]
theorem split_is{x:Str}{c:Nat}{l:List Str}(h0:l≠[])(hf:∀p∈l,c∉cs p)(hj:cs x=joinL c (l.map cs)):Txt.split x ⟨#[c]⟩=l:=by
 apply map_cs_inj;have hp:=PyProof.Rows.split_pos x ⟨#[c]⟩;refine joinL_inj (c:=c) ?_ ?_ ?_ ?_ ?_
 .intro z;have:=congrArg List.length z;simp only[ya1,yc9]at this
  omega
 .intro z;exact h0 (ybl.mp z)
 .intro p hp;obtain⟨q,hq,rfl⟩:=yai.mp hp;exact StrLaws.split_free x c q hq
 .intro p hp;obtain⟨q,hq,rfl⟩:=yai.mp hp;exact hf q hq
 .rw[<- cs_join,StrLaws.join_split,hj]
noncomputable def isDg(c:Nat):Bool:=decide (48<=c/\c<=57)
def isNum(l:List Nat):Bool:=decide (1<=l.length/\l.length<=60) && l.all isDg && (decide (l=[48]) || decide (l.head?≠some 48))
def dg(n:Nat):Str:=Str.ofString (toString ((n:Nat):Int))
theorem JT(n:Nat):cs (dg n)=(Nat.toDigits 10 n).map Char.toNat:=PySem.W.KIN.signs_num n
theorem dg_val(n:Nat):digitsVal (cs (dg n))=n:=by rw[JT,PySem.W.KIN.val_back]
theorem zn6(n:Nat):∀c∈cs (dg n),48<=c/\c<=57:=by
 intro c hc;rw[JT]at hc;obtain⟨ch,hch,e⟩:=yai.mp hc;rw[<- e];have h:=Nat.isDigit_of_mem_toDigits (by decide) (by decide) hch
 unfold Char.isDigit at h;simp only[ge_iff_le,ya2,yf1]at h;exact⟨UInt32.le_iff_toNat_le.mp h.1,UInt32.le_iff_toNat_le.mp h.2⟩
theorem dg_ne(n:Nat):cs (dg n)≠[]:=by
 rw[JT];intro z;exact Nat.toDigits_ne_nil (ybl.mp z)
theorem zn5{n k:Nat}(hk:0<k)(h:n<10 ^ k):(cs (dg n)).length<=k:=by
 rw[JT,ya1];exact(Nat.length_toDigits_le_iff (by decide) hk).mpr h
theorem zjq:cs (dg 0)=[48]:=by
 rw[JT,Nat.toDigits_zero]
 rfl
theorem zjr{n:Nat}(h:n≠0):(cs (dg n)).head?≠some 48:=by
 have key:∀n:Nat,n≠0->∃d r,d<10/\d≠0/\Nat.toDigits 10 n=Nat.digitChar d::r:=by
  intro n
  induction n using Nat.strongRecOn with
  |_ n ih =>
   intro h0
   by_cases hn:n<10
   .exact⟨n,[],hn,h0,Nat.toDigits_of_lt_base hn⟩
   .obtain⟨d,r,h1,h2,h3⟩:=ih (n / 10) (by omega) (by omega)
    refine⟨d,r++[Nat.digitChar (n % 10)],h1,h2,?_⟩;rw[Nat.toDigits_of_base_le (by decide) (by omega),h3]
    rfl
 obtain⟨d,r,h1,h2,h3⟩:=key n h;rw[JT,h3];simp only[yae,yd7,ne_eq,ycd];have h4:∀d:Nat,d<10->d≠0->¬ (Nat.digitChar d).toNat=48:=by decide
 exact h4 d h1 h2
theorem dg_num{n:Nat}(h:n<10 ^ 60):isNum (cs (dg n))=true:=by
 have h1:=zn5 (by decide) h
 have h2:0<(cs (dg n)).length:=yd3.mpr (dg_ne n);have h3:(cs (dg n)).all isDg=true:=yab.mpr λc hc=>yer (zn6 n c hc)
 unfold isNum;rw[yer (show 1<=(cs (dg n)).length/\(cs (dg n)).length<=60 from⟨h2,h1⟩),h3]
 by_cases hz:n=0
 .subst hz;rw[yer zjq]
  rfl
 .rw[yer (zjr hz),ych]
  rfl
theorem num_all{l:List Nat}(h:isNum l=true):(1<=l.length/\l.length<=60)/\AllDigits l:=by
 unfold isNum at h;rw[ya2,ya2,yf1]at h;exact⟨h.1.1,λc hc=>yf5 (yab.mp h.1.2 c hc)⟩
theorem num_text{x:Str}(h:isNum (cs x)=true):intText? x=some ((digitsVal (cs x):Nat):Int):=by
 obtain⟨⟨h1,h2⟩,h3⟩:=num_all h;exact intText_digits h3 (λz=>by rw[show x.cps.toList=cs x from rfl]at z;rw[z]at h1;exact absurd h1 (by decide)) (yap (by rw[cs_len];exact h2) (by decide))
theorem not_num_sign{l:List Nat}{c:Nat}(h:c∈l)(hc:isDg c=false):isNum l=false:=by
 unfold isNum;rw[show l.all isDg=false from ?_]
 .rw[ycg,ybt]
 .rw[yar];intro z;rw[yab.mp z c h]at hc;cases hc
theorem not_num_long{l:List Nat}(h:¬ (1<=l.length/\l.length<=60)):isNum l=false:=by
 unfold isNum;rw[yec h]
 rfl
theorem not_num_nought{l:List Nat}(h:l≠[]):isNum (48::l)=false:=by
 have h1:decide (48::l=[48])=false:=yec λz=>h (yb8 z).2
 have h2:decide ((48::l).head?≠some 48)=false:=yec λz=>z rfl
 unfold isNum;rw[h1,h2,ycy,ycg]
theorem YN(a:Array Nat):∀(n:Nat) (A4:Array Nat) (c:Nat),c∈((List.replicate n a).foldl (·++·) A4).toList->c∈A4.toList\/c∈a.toList
 |0,A4,c,h=>.inl h
 |n+1,A4,c,h=>by
  rw[ybj,List.foldl_cons]at h
  rcases YN a n (A4++a) c h with h|h
  .rw[Array.toList_append]at h;exact yat.mp h
  .exact .inr h
theorem mul_mem{x:Str}{k:Int}{c:Nat}(h:c∈cs (Txt.mul x k)):c∈cs x:=by
 unfold Txt.mul at h;split at h
 .cases h
 .split at h
  .exact h
  .rcases YN _ _ _ _ h with h|h
   .cases h
   .exact h
theorem mul_len(x:Str)(k:Nat):(Txt.mul x (k:Int)).length=x.length * k:=by
 have e:=PyProof.Rows.len_mul x (k:Int);rw[if_neg (by simp)]at e
 exact Int.ofNat.inj (by simpa using e)
section
variable {x y:Str}{c:Nat}(hA:∀k,(cs x)[k]?=some c->StrLaws.At x y x.length k)
include hA
end
def joinL2(c d:Nat):List (List Nat)->List Nat
 |[]=>[]
 |[x]=>x
 |x::r=>x++c::d::joinL2 c d r
theorem cs_join2(c d:Nat):∀l:List Str,cs (Str.join ⟨#[c,d]⟩ l)=joinL2 c d (l.map cs)
 |[]=>rfl
 |[x]=>rfl
 |x::y::r=>by
  show cs (x++⟨#[c,d]⟩++Str.join ⟨#[c,d]⟩ (y::r))=cs x++c::d::joinL2 c d ((y::r).map cs);rw[cs_app,cs_app,cs_join2 c d (y::r),yc1]
  rfl
theorem Rh(l:List Nat):cs ⟨l.toArray⟩=l:=rfl
theorem sl_to{x:Str}{a:Nat}(h:a<=(cs x).length):cs (Txt.slice x none (some (a:Int)))=(cs x).take a:=by
 have e:Txt.slice x none (some (a:Int))=StrLaws.sliceText x none (some (a:Int)):=rfl;rw[e,StrLaws.sliceText_to ⟨yc8 a,Int.ofNat_le.mpr h⟩,Rh,ybc,Int.sub_zero,ybi]
theorem sl_mid{x:Str}{a b:Nat}(hab:a<=b)(h:b<=(cs x).length):cs (Txt.slice x (some (a:Int)) (some (b:Int)))=((cs x).drop a).take (b - a):=by
 have e:Txt.slice x (some (a:Int)) (some (b:Int))=StrLaws.sliceText x (some (a:Int)) (some (b:Int)):=rfl;rw[e,StrLaws.sliceText_nat x hab h,Rh]
theorem sl_from{x:Str}{a:Nat}(h:a<=(cs x).length):cs (Txt.slice x (some (a:Int)) none)=(cs x).drop a:=by
 have e:Txt.slice x (some (a:Int)) none=StrLaws.sliceText x (some (a:Int)) none:=rfl;rw[e,StrLaws.sliceText_from ⟨yc8 a,Int.ofNat_le.mpr h⟩,Rh,ybi];refine ybh ?_;rw[ycv]
 omega
theorem stw_one{x:Str}{c:Nat}:Txt.startswith x ⟨#[c]⟩=decide ((cs x).head?=some c):=by
 unfold Txt.startswith;rw[ye9,ybc,Nat.zero_add];show(decide (1<=(cs x).length) && ((cs x).take 1 == [c]))=_;cases cs x with
 |nil=>rfl
 |cons a r =>
  rw[ybm];simp
theorem joinL_flat(c:Nat)(a:List Nat)(r:List (List Nat)):joinL c (a::r)=a++(r.map (c::·)).flatten:=by
 induction r generalizing a with
 |nil=>exact(yb4 a).symm
 |cons b r ih =>
  show a++c::joinL c (b::r)=_;rw[ih b,yae,yc0]
  rfl
end Tx
namespace Tk
open PySem PySem.NumText
abbrev W:=List Nat
noncomputable def mk(w:W):Str:=⟨w.toArray⟩
inductive Vd where
 |read|text|bad|many
 deriving DecidableEq
noncomputable def CM(c:Nat):Bool:=decide (c=60\/c=62\/c=61)
def Cb:W->Option (W×Nat×W)
 |[]=>none
 |c::r=>if CM c then some ([],c,r) else (match Cb r with
  |some (a,d,u)=>some (c::a,d,u)
  |none=>none)
abbrev BS:=W×W×Nat
def GX(c:Nat)(r:W):W×W:=if c≠61/\r.head?=some 61 then ([c,61],r.tail) else ([c],r)
def Ck(w:W):Option BS:=match Cb w with
 |none=>none
 |some (a,c,r)=>if Tx.isNum (GX c r).2 then some (a,(GX c r).1,digitsVal (GX c r).2) else none
def Bs:List W->Option (List BS)
 |[]=>some []
 |w::r=>(match Ck w with
  |none=>none
  |some k=>(match Bs r with
   |none=>none
   |some l=>some (k::l)))
def EI(w:W):Option W:=match w.reverse with
 |48::58::r=>some r.reverse
 |_=>none
def Er(w:W):Bool:=decide (w.getLast?=some 33\/w.getLast?=some 63)
abbrev IF:=List BS×List W×W
def Gk(s:IF)(w:W):Option IF:=if s.2.2≠[] then none else match EI w with
 |some x=>some (s.1,s.2.1++[x],s.2.2)
 |none=>if Er w then some (s.1,s.2.1,w) else if s.2.1≠[] then none else match Ck w with
  |some k=>some (s.1++[k],s.2.1,s.2.2)
  |none=>none
def Ed{α β:Type}(f:α->β->Option α):α->List β->Option α
 |s,[]=>some s
 |s,b::r=>(match f s b with
  |some s'=>Ed f s' r
  |none=>none)
abbrev DM:=W×W×IF
def Gn(ws:List W):Option DM:=match ws with
 |_::a::b::r=>(match Ed Gk ([],[],[]) r with
  |some s=>some (a,b,s)
  |none=>none)
 |_=>none
def HB:W:=[114,111,111,109]
def IL:W:=[100,111,111,114]
def Jb:W:=[119,97,116,99,104,101,115]
abbrev J9:=List (W×List BS)×List DM
def G5(s:J9)(ws:List W):Option J9:=if ws.head?=some HB/\2<=ws.length/\s.2=[] then (match Bs (ws.drop 2) with
  |some l=>some (s.1++[(ws.getD 1 [],l)],s.2)
  |none=>none)
 else if ws.head?=some IL/\3<=ws.length then (match Gn ws with
  |some d=>some (s.1,s.2++[d])
  |none=>none)
 else none
noncomputable def DA(c:Nat):Bool:=decide (97<=c/\c<=122)
def EJ(w:W):Bool:=decide (1<=w.length/\w.length<=8) && w.all DA
def Du(w:W):Bool:=decide (w=[47]) || EJ w
def Eu(w:W):Bool:=decide (1<=w.length/\w.length<=60) && w.all λc=>decide (c=47) || DA c
def GI(w:W):Bool:=decide (w=[]) || (Er w && EJ w.dropLast)
def Df(l:List W):Bool:=decide l.Nodup
def EM(ws wd:List W)(g:List BS):Bool:=g.all λk=>decide (k.1∈ws) && decide (k.2.1∈wd)
def G0(ns ws:List W):Bool:=ns.all Du && (Df ns && ns.all λx=>decide (x∈ws))
def HA(ws:List W):Bool:=decide (ws.length<=7) && (ws.all Du && Df ws)
def GF:List W:=[[60],[60,61],[62],[62,61],[61]]
def GD:List W:=[[60],[60,61]]
def GS(ws:List W)(rs:List (W×List BS)):Bool:=!rs.isEmpty && (rs.all (λr=>Eu r.1 && EM ws GD r.2) && Df (rs.map (·.1)))
def Hr(ws ns:List W)(ds:List DM):Bool:=ds.all λd=>decide (d.1∈ns) && (decide (d.2.1∈ns) && (EM ws GF d.2.2.1 && (G0 d.2.2.2.1 ws && GI d.2.2.2.2)))
def Iw(ws:List W)(rs:List (W×List BS))(ds:List DM):Vd :=
 if HA ws && (GS ws rs && Hr ws (rs.map (·.1)) ds) then (if 64<rs.length\/200<ds.length then .many else .read) else .bad
def Ie:List (List W)->Vd
 |(h::ws)::rest=>if h=Jb then (match Ed G5 ([],[]) rest with
  |some s=>Iw ws s.1 s.2
  |none=>.text) else .text
 |_=>.text
noncomputable def A6(c:Nat):W->List W
 |[]=>[[]]
 |d::r=>if d=c then []::A6 c r else (match A6 c r with
  |[]=>[[d]]
  |p::ps=>(d::p)::ps)
def C9(c d:Nat):W->Bool
 |[]=>false
 |x::r=>decide (x=c/\r.head?=some d) || C9 c d r
def Hj(ps:List W):Bool:=match ps with
 |[a]=>Tx.isNum a
 |[a,b]=>Tx.isNum a && (Tx.isNum b && decide (2<=digitsVal b/\Nat.gcd (digitsVal a) (digitsVal b)<=1))
 |_=>false
def Dx(w:W):Bool:=match A6 32 w with
 |[a,b]=>(decide (b=[45]) || Tx.isNum b) && Hj (A6 47 a)
 |_=>false
def IJ:W:=[110,101,118,101,114]
def II:W:=[110,111,115,111,111,110,101,114]
def IK:W:=[119,105,116,104,105,110]
def Kh(ws:List W):Bool:=if ws.head?=some IJ/\2<=ws.length then (Bs (ws.drop 2)).isSome
 else if ws.head?=some II/\3<=ws.length then (Bs (ws.drop 3)).isSome && Tx.isNum (ws.getD 2 [])
 else if ws.head?=some IK/\ws.length=3 then Tx.isNum (ws.getD 2 []) else false
inductive K where
 |c (n:Nat)|w (k:Nat)|d (k:Nat)
 deriving DecidableEq
abbrev S:=List K
structure Va where
 n:Nat->W
 u:Nat->W
 hn:∀k,EJ (n k)=true
 hi:∀j k,j<4->k<4->n j=n k->j=k
 hu:∀k,Tx.isNum (u k)=true
 h6:2<=digitsVal (u 6)
noncomputable def K.ev(V:Va):K->W
 |.c n=>[n]
 |.w k=>V.n k
 |.d k=>V.u k
def ev(V:Va)(s:S):W:=s.flatMap (K.ev V)
noncomputable def K.isC:K->Bool
 |.c _=>true
 |_=>false
def K.code:K->Nat
 |.c n=>n
 |_=>0
def K.dig:K->Bool
 |.c n=>Tx.isDg n
 |.d _=>true
 |_=>false
def K.lt:K->Bool
 |.c n=>DA n
 |.w _=>true
 |_=>false
def EU(s:S):Bool:=s.all K.isC
def FN(s:S):W:=s.map K.code
def F8(s:S):Option Bool :=
 if s.any (λk=>!k.dig) then some false
 else if EU s then some (Tx.isNum (FN s))
 else match s with
  |[.d _]=>some true
  |.c 48::_::_=>some false
  |_=>none
def PK(s:S):Option Bool :=
 if s.any (λk=>!k.lt) then some false
 else if EU s then some (EJ (FN s))
 else match s with
  |[.w _]=>some true
  |_=>none
def PQ(a b:S):Option Bool :=
 if a=b then some true
 else if EU a && EU b then some false
 else match a,b with
  |[.w i],[.w j]=>if i<4/\j<4 then some false else none
  |[],_=>some false
  |_,[]=>some false
  |_,_=>none
noncomputable def By(a b:Option Bool):Option Bool:=match a with
 |some true=>b
 |some false=>some false
 |none=>none
def VP(a b:Option Bool):Option Bool:=match a with
 |some true=>some true
 |some false=>b
 |none=>none
def F9{α:Type}(p:α->Option Bool):List α->Option Bool
 |[]=>some true
 |a::r=>By (p a) (F9 p r)
def HL(a:S):List S->Option Bool
 |[]=>some false
 |b::r=>VP (PQ a b) (HL a r)
def Jo:List S->Option Bool
 |[]=>some true
 |a::r=>By ((HL a r).map (!·)) (Jo r)
def Lo(s:S):Option Bool:=match s with
 |[.w _]=>some true
 |_=>if EU s then some (Du (FN s)) else none
def PD(s:S):Option Bool:=match s with
 |[.w _]=>some true
 |_=>if EU s then some (Eu (FN s)) else none
def HJ(s:S):Bool:=match s.getLast? with
 |some (.c n)=>decide (n=33\/n=63)
 |_=>false
def Ox(s:S):Option Bool:=if s=[] then some true else if HJ s then PK s.dropLast else some false
noncomputable def Br(c:Nat):S->List S
 |[]=>[[]]
 |k::r=>if k=.c c then []::Br c r else (match Br c r with
  |[]=>[[k]]
  |p::ps=>(k::p)::ps)
noncomputable def Cs(c d:Nat):S->List S
 |[]=>[[]]
 |k::r=>if k=.c c/\r.head?=some (.c d) then []::(match Cs c d r with
   |[]=>[]
   |p::ps=>p.tail::ps)
  else (match Cs c d r with
  |[]=>[[k]]
  |p::ps=>(k::p)::ps)
def Dk:S->Option (S×Nat×S)
 |[]=>none
 |.c n::r=>if CM n then some ([],n,r) else (match Dk r with
  |some (a,d,u)=>some (.c n::a,d,u)
  |none=>none)
 |k::r=>(match Dk r with
  |some (a,d,u)=>some (k::a,d,u)
  |none=>none)
abbrev DK:=S×W×S
def KD(c:Nat)(r:S):W×S:=if c≠61/\r.head?=some (.c 61) then ([c,61],r.tail) else ([c],r)
def Lu(s:S):Option (Option DK):=match Dk s with
 |none=>some none
 |some (a,c,r)=>(match F8 (KD c r).2 with
  |some true=>some (some (a,KD c r))
  |some false=>some none
  |none=>none)
def HM:List S->Option (Option (List DK))
 |[]=>some (some [])
 |w::r=>(match Lu w with
  |none=>none
  |some none=>some none
  |some (some k)=>(match HM r with
   |none=>none
   |some none=>some none
   |some (some l)=>some (some (k::l))))
noncomputable def PH(s:S):Option (Option S):=if s.any (λk=>decide (k=.c 58)) then (match s.reverse with
  |.c 48::.c 58::r=>some (some r.reverse)
  |.c n::_=>if n≠48 then some none else none
  |_=>none) else some none
abbrev Ja:=List DK×List S×S
def Lv(s:Ja)(w:S):Option (Option Ja):=if s.2.2≠[] then some none else match PH w with
 |none=>none
 |some (some x)=>some (some (s.1,s.2.1++[x],s.2.2))
 |some none=>if HJ w then some (some (s.1,s.2.1,w)) else if s.2.1≠[] then some none else (match Lu w with
  |none=>none
  |some (some k)=>some (some (s.1++[k],s.2.1,s.2.2))
  |some none=>some none)
def Hk{α β:Type}(f:α->β->Option (Option α)):α->List β->Option (Option α)
 |s,[]=>some (some s)
 |s,b::r=>(match f s b with
  |some (some s')=>Hk f s' r
  |some none=>some none
  |none=>none)
abbrev Gy:=S×S×Ja
def PU(ws:List S):Option (Option Gy):=match ws with
 |_::a::b::r=>(match Hk Lv ([],[],[]) r with
  |some (some s)=>some (some (a,b,s))
  |some none=>some none
  |none=>none)
 |_=>some none
abbrev LJ:=List (S×List DK)×List Gy
def GP(w:W)(ws:List S):Option Bool:=match ws.head? with
 |some s=>if EU s then some (decide (FN s=w)) else none
 |none=>some false
def Lr(s:LJ)(ws:List S):Option (Option LJ):=match GP HB ws,GP IL ws with
 |some r,some d=>if r=true/\2<=ws.length/\s.2=[] then (match HM (ws.drop 2) with
   |some (some l)=>some (some (s.1++[(ws.getD 1 [],l)],s.2))
   |some none=>some none
   |none=>none)
  else if d=true/\3<=ws.length then (match PU ws with
   |some (some d)=>some (some (s.1,s.2++[d]))
   |some none=>some none
   |none=>none)
  else some none
 |_,_=>none
def PM(ws:List S)(wd:List W)(g:List DK):Option Bool:=F9 (λk=>By (HL k.1 ws) (some (decide (k.2.1∈wd)))) g
def Tw(ns ws:List S):Option Bool:=By (F9 Lo ns) (By (Jo ns) (F9 (λx=>HL x ws) ns))
def Ov(ws:List S):Option Bool:=By (some (decide (ws.length<=7))) (By (F9 Lo ws) (Jo ws))
def Oz(ws:List S)(rs:List (S×List DK)):Option Bool:=By (some (!rs.isEmpty)) (By (F9 (λr=>By (PD r.1) (PM ws GD r.2)) rs) (Jo (rs.map (·.1))))
def PR(ws ns:List S)(ds:List Gy):Option Bool:=F9 (λd=>By (HL d.1 ns) (By (HL d.2.1 ns) (By (PM ws GF d.2.2.1) (By (Tw d.2.2.2.1 ws) (Ox d.2.2.2.2))))) ds
def PL(ws:List S)(rs:List (S×List DK))(ds:List Gy):Option Vd:=match By (Ov ws) (By (Oz ws rs) (PR ws (rs.map (·.1)) ds)) with
 |some true=>some (if 64<rs.length\/200<ds.length then .many else .read)
 |some false=>some .bad
 |none=>none
def PC:List (List S)->Option Vd
 |(h::ws)::rest=>(match GP Jb [h] with
  |some true=>(match Hk Lr ([],[]) rest with
   |some (some s)=>PL ws s.1 s.2
   |some none=>some .text
   |none=>none)
  |some false=>some .text
  |none=>none)
 |_=>some .text
def Tu(s:S):Option Vd:=PC ((Br 10 s).map (Br 32))
def PN(s:S):Option Bool:=match Br 47 s with
 |[a]=>F8 a
 |[a,b]=>if a=[.c 49]/\b=[.d 6] then some true else if EU a && EU b then some (Hj [FN a,FN b]) else if F8 a=some false\/F8 b=some false then some false else none
 |_=>some false
def Ow(s:S):Option Bool:=match Br 32 s with
 |[a,b]=>By (if b=[.c 45] then some true else F8 b) (PN a)
 |_=>some false
def Oy(s:S):Option Bool:=if s=[] then some true else F9 Ow (Cs 59 32 s)
def Mi{α:Type}:Option (Option α)->Option Bool
 |some (some _)=>some true
 |some none=>some false
 |none=>none
def PX(ws:List S):Option Bool:=match GP IJ ws,GP II ws,GP IK ws with
 |some n,some o,some i=>if n=true/\2<=ws.length then Mi (HM (ws.drop 2))
  else if o=true/\3<=ws.length then By (Mi (HM (ws.drop 3))) (F8 (ws.getD 2 []))
  else if i=true/\ws.length=3 then F8 (ws.getD 2 []) else some false
 |_,_,_=>none
def UC(s:S):Option Bool:=PX (Br 32 s)
theorem F6(c:Nat):∀w:W,A6 c w≠[]/\(∀p∈A6 c w,c∉p)/\Tx.joinL c (A6 c w)=w
 |[]=>⟨yb6 _ _,λp hp=>by rw[ya7.mp hp];exact yb3,rfl⟩
 |d::r=>by
  obtain⟨h1,h2,h3⟩:=F6 c r;unfold A6;cases e:A6 c r with
  |nil=>exact absurd e h1
  |cons p ps =>
   rw[e]at h2 h3
   by_cases h:d=c
   .rw[if_pos h];refine⟨yb6 _ _,λq hq=>?_,?_⟩
    .rcases yad.mp hq with rfl|hq
     .exact yb3
     .exact h2 q hq
    .show []++c::Tx.joinL c (p::ps)=d::r;rw[h3,h]
     rfl
   .rw[if_neg h];refine⟨yb6 _ _,λq hq=>?_,?_⟩
    .rcases yad.mp hq with rfl|hq
     .intro z
      rcases yad.mp z with z|z
      .exact h z.symm
      .exact h2 p (ya3 ..) z
     .exact h2 q (ya0 _ hq)
    .rw[Tx.joinL_flat]at h3 ⊢;rw[ydn,h3]
theorem Wb(l:List W):(l.map mk).map Tx.cs=l:=by
 rw[yax];exact List.map_id l
theorem OD(c:Nat)(w:W):Txt.split (mk w) ⟨#[c]⟩=(A6 c w).map mk:=by
 obtain⟨h1,h2,h3⟩:=F6 c w;refine Tx.split_is (λz=>h1 (ybl.mp z)) (λp hp=>?_) ?_
 .obtain⟨q,hq,rfl⟩:=yai.mp hp;exact h2 q hq
 .rw[Wb,h3]
  rfl
theorem Qd{c d:Nat}{y:W}:∀a:W,C9 c d (a++c::d::y)=true
 |[]=>by
  show(decide (c=c/\some d=some d) || _)=true
  rw[yer ⟨rfl,rfl⟩]
  rfl
 |x::a=>by
  show(_ || C9 c d (a++c::d::y))=true
  rw[Qd a,ych]
theorem Yn{c d:Nat}(hcd:c≠d){x y:W}:∀{a b:W},C9 c d a=false->C9 c d b=false->a++c::d::x=b++c::d::y->a=b/\x=y
 |[],[],_,_,e=>⟨rfl,by cases e;rfl⟩
 |[],[f],_,_,e=>absurd (by cases e;rfl) hcd
 |[],f::g::b,_,hb,e=>by
  cases e;exact absurd hb (by show ¬ (decide (c=c/\some d=some d) || _)=false;rw[yer ⟨rfl,rfl⟩];exact Bool.noConfusion)
 |[f],[],_,_,e=>absurd (by cases e;rfl) hcd
 |f::g::a,[],ha,_,e=>by
  cases e;exact absurd ha (by show ¬ (decide (c=c/\some d=some d) || _)=false;rw[yer ⟨rfl,rfl⟩];exact Bool.noConfusion)
 |f::a,g::b,ha,hb,e=>by
  obtain⟨e1,e2⟩:=yb8 e;obtain⟨e3,e4⟩:=Yn hcd (ybe.mp ha).2 (ybe.mp hb).2 e2;exact⟨by rw[e1,e3],e4⟩
theorem XF{c d:Nat}(hcd:c≠d):∀{l m:List W},l≠[]->m≠[]->(∀p∈l,C9 c d p=false)->(∀p∈m,C9 c d p=false)->Tx.joinL2 c d l=Tx.joinL2 c d m->l=m
 |[],_,h,_,_,_,_=>absurd rfl h
 |_,[],_,h,_,_,_=>absurd rfl h
 |[a],[b],_,_,_,_,e=>by rw[show a=b from e]
 |[a],b::b2::r,_,_,ha,_,e=>by
  have h:=ha a (ya3 ..);rw[show a=b++c::d::Tx.joinL2 c d (b2::r) from e,Qd]at h;cases h
 |a::a2::r,[b],_,_,_,hb,e=>by
  have h:=hb b (ya3 ..);rw[<- show a++c::d::Tx.joinL2 c d (a2::r)=b from e,Qd]at h;cases h
 |a::a2::r,b::b2::q,_,_,ha,hb,e=>by
  obtain⟨e1,e2⟩:=Yn hcd (ha a (ya3 ..)) (hb b (ya3 ..)) (show a++c::d::Tx.joinL2 c d (a2::r)=b++c::d::Tx.joinL2 c d (b2::q) from e);rw[e1,XF hcd (yb6 _ _) (yb6 _ _) (λp hp=>ha p (ya0 _ hp)) (λp hp=>hb p (ya0 _ hp)) e2]
theorem Qc{c d:Nat}:∀{w:W},C9 c d w=true->∃j,j+2<=w.length/\(w.drop j).take 2=[c,d]
 |[],h=>by cases h
 |x::r,h=>by
  rcases Bool.or_eq_true_iff.mp h with h|h
  .obtain⟨h1,h2⟩:=yf5 h;cases r with
   |nil=>cases h2
   |cons y r =>
    refine⟨0,by rw[ya6,ya6];omega,?_⟩
    rw[h1,ya9 h2]
    rfl
  .obtain⟨j,h1,h2⟩:=Qc h;exact⟨j+1,by rw[ya6];omega,h2⟩
section
variable {x:Str}{c d:Nat}
theorem Pj{a b:Nat}(hb:b<=x.length)(hn:∀k,a<=k->k<b->¬ StrLaws.At x ⟨#[c,d]⟩ x.length k):C9 c d (Tx.cs (Builtin.Str.strSub x a b))=false:=by
 rw[yar];intro z;obtain⟨j,h1,h2⟩:=Qc z;unfold Tx.cs at h1 h2;rw[StrLaws.strSub_toList]at h1 h2;rw[ycu,ycv]at h1;refine hn (a+j) (ydp _ _) (by omega) ⟨?_,?_⟩
 .show a+j+2<=x.length
  omega
 .rw[ye9];show((x.cps.toList.drop (a+j)).take 2 == [c,d])=true;rw[List.drop_take,List.drop_drop,List.take_take,yco (by omega)]at h2
  rw[h2];exact yf3 _
theorem Ut:∀(cuts:List Nat) (a f:Nat),StrLaws.ChainG x ⟨#[c,d]⟩ x.length a cuts f->(∀k,f<=k->¬ StrLaws.At x ⟨#[c,d]⟩ x.length k)->∀p∈StrLaws.partsFrom x (⟨#[c,d]⟩:Str).length a cuts,C9 c d (Tx.cs p)=false
 |[],a,f,h,hn,p,hp=>by
  rw[ya7.mp hp];exact Pj (yaf _) λk h1 _=>hn k (by rw[show f=a from h];exact h1)
 |e::r,a,f,h,hn,p,hp=>by
  rcases yad.mp hp with e|hp'
  .rw[e];exact Pj (by have:=h.2.1.1;omega) h.2.2.1
  .exact Ut r _ f h.2.2.2 hn p hp'
theorem zd0(hk:Builtin.Str.strKind ⟨#[c,d]⟩=1):∀p∈Txt.split x ⟨#[c,d]⟩,C9 c d (Tx.cs p)=false:=by
 obtain⟨f,hG,hn⟩:=StrLaws.occ_tight x ⟨#[c,d]⟩ (show 1<=2 by decide)
 unfold Txt.split;split
 .rename_i hc;intro p hp;rw[ya7.mp hp,yar];intro z;obtain⟨j,h1,_⟩:=Qc z;rw[ybq,yf1,yf1,hk]at hc;have h2:(Tx.cs x).length=x.length:=rfl;have h3:(⟨#[c,d]⟩:Str).length=2:=rfl
  rcases hc with h|h
  .omega
  .unfold Builtin.Str.strKind at h;split at h
   .omega
   .split at h<;>omega
 .split
  .rename_i he;intro p hp;rw[ya7.mp hp];have e0:Builtin.Str.occurrences x ⟨#[c,d]⟩ 0 x.length (x.length+1)=[]:=ycj.mp he;rw[e0]at hG;have ef:f=0:=hG;rw[<- StrLaws.sub_whole x];exact Pj (yaf _) λk _ _=>hn k (by omega)
  .rw[StrLaws.partsBetween_eq];exact Ut _ 0 f hG hn
end
theorem zdp{w:W}{c d:Nat}{l:List W}(hcd:c≠d)(hk:Builtin.Str.strKind ⟨#[c,d]⟩=1)(h0:l≠[])(hf:∀p∈l,C9 c d p=false)(hj:Tx.joinL2 c d l=w):Txt.split (mk w) ⟨#[c,d]⟩=l.map mk:=by
 apply Tx.map_cs_inj;have hp:=PyProof.Rows.split_pos (mk w) ⟨#[c,d]⟩;rw[Wb];refine XF hcd (λz=>?_) h0 (λp hp=>?_) hf ?_
 .have:=congrArg List.length z;simp only[ya1,yc9]at this
  omega
 .obtain⟨q,hq,rfl⟩:=yai.mp hp;exact zd0 hk q hq
 .rw[<- Tx.cs_join2,StrLaws.join_split,hj]
  rfl
section
variable (V:Va)
theorem Kc(a b:S):ev V (a++b)=ev V a++ev V b:=List.flatMap_append
theorem BQ(k:K)(r:S):ev V (k::r)=k.ev V++ev V r:=List.flatMap_cons
theorem Fg(k:Nat):(1<=(V.n k).length/\(V.n k).length<=8)/\∀c∈V.n k,97<=c/\c<=122:=by
 have h:=V.hn k;unfold EJ at h;rw[ya2,yf1]at h;exact⟨h.1,λc hc=>yf5 (yab.mp h.2 c hc)⟩
theorem GZ(k:Nat):(1<=(V.u k).length/\(V.u k).length<=60)/\∀c∈V.u k,48<=c/\c<=57:=Tx.num_all (V.hu k)
theorem K.ev_ne(k:K):∃c r,k.ev V=c::r:=by
 have key:∀l:W,1<=l.length->∃c r,l=c::r:=λl h=>by
  cases l with
  |nil=>exact absurd h (by decide)
  |cons c r=>exact⟨c,r,rfl⟩
 cases k with
 |c n=>exact⟨n,[],rfl⟩
 |w j=>exact key _ (Fg V j).1.1
 |d j=>exact key _ (GZ V j).1.1
theorem Kb{c:Nat}(hc:DA c=false)(hd:Tx.isDg c=false){k:K}(h:k≠.c c):c∉k.ev V:=by
 cases k with
 |c n=>exact λz=>h (by rw[ya7.mp z])
 |w j=>exact λz=>by rw[show DA c=true from yer ((Fg V j).2 c z)]at hc;cases hc
 |d j=>exact λz=>by rw[show Tx.isDg c=true from yer ((GZ V j).2 c z)]at hd;cases hd
theorem zgs{c:Nat}(hc:DA c=false)(hd:Tx.isDg c=false){s:S}(h:.c c∉s):c∉ev V s:=λz=>by
 obtain⟨k,hk,hm⟩:=yea.mp z;exact Kb V hc hd (λe=>h (e▸hk)) hm
theorem Hn{s:S}(h:ev V s=[]):s=[]:=by
 cases s with
 |nil=>rfl
 |cons k r =>
  obtain⟨c,q,e⟩:=K.ev_ne V k;rw[BQ,e]at h;cases h
theorem FK:∀{s:S},EU s=true->ev V s=FN s
 |[],_=>rfl
 |.c n::r,h=>by
  rw[BQ,FK (s:=r) h]
  rfl
 |.w n::r,h=>by cases h
 |.d n::r,h=>by cases h
theorem Yt:∀{a b:S},EU a=true->EU b=true->FN a=FN b->a=b
 |[],[],_,_,_=>rfl
 |[],_::_,_,_,h=>by cases h
 |_::_,[],_,_,h=>by cases h
 |.c n::a,.c m::b,ha,hb,h=>by
  obtain⟨e1,e2⟩:=yb8 h;rw[Yt (a:=a) (b:=b) ha hb e2,show n=m from e1]
 |.w _::_,_,h,_,_=>by cases h
 |.d _::_,_,h,_,_=>by cases h
 |.c _::_,.w _::_,_,h,_=>by cases h
 |.c _::_,.d _::_,_,h,_=>by cases h
theorem GN{c:Nat}(hc:DA c=false)(hd:Tx.isDg c=false)(s:S):A6 c (ev V s)=(Br c s).map (ev V):=by
 have key:∀s:S,Br c s≠[]/\(∀p∈(Br c s).map (ev V),c∉p)/\Tx.joinL c ((Br c s).map (ev V))=ev V s:=by
  intro s
  induction s with
  |nil=>exact⟨yb6 _ _,λp hp=>by rw[ya7.mp hp];exact yb3,rfl⟩
  |cons k r ih =>
   obtain⟨h1,h2,h3⟩:=ih;unfold Br;cases e:Br c r with
   |nil=>exact absurd e h1
   |cons p ps =>
    rw[e]at h2 h3
    by_cases h:k=.c c
    .rw[if_pos h];refine⟨yb6 _ _,λq hq=>?_,?_⟩
     .rcases yad.mp hq with rfl|hq
      .exact yb3
      .exact h2 q hq
     .show []++c::Tx.joinL c ((p::ps).map (ev V))=_;rw[h3,h]
      rfl
    .rw[if_neg h];rw[yae]at h2 h3;refine⟨yb6 _ _,λq hq=>?_,?_⟩
     .rw[yae,BQ]at hq
      rcases yad.mp hq with rfl|hq
      .intro z
       rcases yat.mp z with z|z
       .exact Kb V hc hd h z
       .exact h2 _ (ya3 ..) z
      .exact h2 q (ya0 _ hq)
     .rw[Tx.joinL_flat]at h3;rw[yae,BQ,BQ,Tx.joinL_flat,yc1,h3]
 obtain⟨h1,h2,h3⟩:=key s;obtain⟨g1,g2,g3⟩:=F6 c (ev V s);exact Tx.joinL_inj g1 (λz=>h1 (ybl.mp z)) g2 h2 (by rw[g3,h3])
end
theorem Qb{c d:Nat}{x:W}:∀{l:W},c∉l->C9 c d (l++x)=C9 c d x
 |[],_=>rfl
 |a::l,h=>by
  show(decide (a=c/\_) || C9 c d (l++x))=_
  rw[yec (λz=>h (by rw[z.1];exact ya3 ..)),Qb (l:=l) λz=>h (ya0 _ z)]
  rfl
section
variable (V:Va)
theorem RU{d:Nat}(hc:DA d=false)(hd:Tx.isDg d=false){s:S}(h:(ev V s).head?=some d):s.head?=some (.c d):=by
 cases s with
 |nil=>cases h
 |cons k r =>
  by_cases hk:k=.c d
  .rw[hk]
   rfl
  .obtain⟨a,q,e⟩:=K.ev_ne V k;have hf:=Kb V hc hd hk;rw[BQ,e]at h;rw[e,show a=d from ya9 h]at hf;exact absurd (ya3 ..) hf
theorem zcz{c d:Nat}(hcd:c≠d)(hk:Builtin.Str.strKind ⟨#[c,d]⟩=1)(hc:DA c=false)(hc':Tx.isDg c=false)(hd:DA d=false)(hd':Tx.isDg d=false)(s:S):Txt.split (mk (ev V s)) ⟨#[c,d]⟩=((Cs c d s).map (ev V)).map mk:=by
 have key:∀s:S,Cs c d s≠[]/\(∀p ps,Cs c d s=p::ps->p=[]\/p.head?=s.head?)/\(∀p∈(Cs c d s).map (ev V),C9 c d p=false)/\Tx.joinL2 c d ((Cs c d s).map (ev V))=ev V s:=by
  have fl:∀(a b:W) (r:List W),Tx.joinL2 c d ((a++b)::r)=a++Tx.joinL2 c d (b::r):=λa b r=>by
   cases r with
   |nil=>rfl
   |cons e r =>
    show(a++b)++c::d::_=a++(b++c::d::_);rw[yc1]
  intro s
  induction s with
  |nil=>exact⟨yb6 _ _,λp ps h=>.inl (by cases h;rfl),λp hp=>by rw[ya7.mp hp];rfl,rfl⟩
  |cons k r ih =>
   obtain⟨h1,h2,h3,h4⟩:=ih;unfold Cs;cases e:Cs c d r with
   |nil=>exact absurd e h1
   |cons p ps =>
    rw[e]at h3 h4;rw[yae]at h3 h4;have hp:=h3 _ (ya3 ..)
    by_cases h:k=.c c/\r.head?=some (.c d)
    .rw[if_pos h]
     obtain⟨p',rfl⟩:∃p',p=.c d::p':=by
      cases r with
      |nil=>exact absurd h.2 (by exact λz=>by cases z)
      |cons k' r' =>
       have hk':k'=.c d:=ya9 h.2;unfold Cs at e;rw[if_neg (λz=>hcd (by have:=z.1;rw[hk']at this;injection this with this;exact this.symm))]at e
       cases e2:Cs c d r' with
       |nil=>rw[e2]at e;cases e;exact⟨_,by rw[hk']⟩
       |cons q qs=>rw[e2]at e;cases e;exact⟨_,by rw[hk']⟩
     rw[BQ]at h3 h4 hp
     have hp':C9 c d (ev V p')=false:=by
      rw[Qb (Kb V hc hc' λz=>hcd (by injection z with z;exact z.symm))]at hp
      exact hp
     refine⟨yb6 _ _,λq qs h=>.inl (by cases h;rfl),λq hq=>?_,?_⟩
     .rcases yad.mp hq with rfl|hq
      .rfl
      .rcases yad.mp hq with rfl|hq
       .exact hp'
       .exact h3 q (ya0 _ hq)
     .rw[fl]at h4;show []++c::d::Tx.joinL2 c d (ev V p'::ps.map (ev V))=ev V (k::r);rw[BQ,<- h4,h.1]
      rfl
    .rw[if_neg h];refine⟨yb6 _ _,λq qs h=>.inr (by cases h;rfl),λq hq=>?_,?_⟩
     .rw[yae,BQ]at hq
      rcases yad.mp hq with rfl|hq
      .by_cases hk:k=.c c
       .rw[hk];show(decide (c=c/\(ev V p).head?=some d) || C9 c d (ev V p))=false
        rw[hp,yec λz=>?_]
        .rfl
        .have z2:=RU V hd hd' z.2
         rcases h2 p ps e with q|q
         .rw[q]at z2;cases z2
         .exact h ⟨hk,by rw[<- q,z2]⟩
       .rw[Qb (Kb V hc hc' hk)];exact hp
      .exact h3 q (ya0 _ hq)
     .rw[yae,BQ,fl,h4,BQ]
 obtain⟨h1,_,h3,h4⟩:=key s;exact zdp hcd hk (λz=>h1 (ybl.mp z)) h3 h4
theorem Z0{s:S}{p:K->Bool}(h:s.any (λk=>!p k)=true):∃k∈s,p k=false:=by
 obtain⟨k,hk,e⟩:=ye7.mp h;exact⟨k,hk,by simpa using e⟩
theorem Y1{k:K}{s:S}(h:k∈s){c:Nat}(hc:c∈k.ev V):c∈ev V s:=yea.mpr ⟨k,h,hc⟩
theorem GO{s:S}{b:Bool}(h:F8 s=some b):Tx.isNum (ev V s)=b:=by
 unfold F8 at h;split at h
 .rename_i h1;cases h;obtain⟨k,hk,e⟩:=Z0 h1;obtain⟨c,q,ec⟩:=K.ev_ne V k;have hc:c∈k.ev V:=by rw[ec];exact ya3 ..
  refine Tx.not_num_sign (Y1 V hk hc) ?_;cases k with
  |c n=>rw[ya7.mp hc];exact e
  |w j =>
   have:=(Fg V j).2 c hc;exact yec (by omega)
  |d j=>cases e
 .split at h
  .rename_i h2;rw[FK V h2];exact ya9 h
  .split at h
   .cases h;rw[BQ];show Tx.isNum (V.u _++[])=true;rw[yb4];exact V.hu _
   .cases h;rw[BQ];refine Tx.not_num_nought λz=>?_
    exact absurd (Hn V z) (yb6 _ _)
   .cases h
theorem zfi{s:S}{b:Bool}(h:PK s=some b):EJ (ev V s)=b:=by
 unfold PK at h;split at h
 .rename_i h1;cases h;obtain⟨k,hk,e⟩:=Z0 h1;obtain⟨c,q,ec⟩:=K.ev_ne V k;have hc:c∈k.ev V:=by rw[ec];exact ya3 ..
  have hl:DA c=false:=by
   cases k with
   |c n=>rw[ya7.mp hc];exact e
   |w j=>cases e
   |d j =>
    have:=(GZ V j).2 c hc;exact yec (by omega)
  unfold EJ;rw[Bool.and_eq_false_iff];right;rw[yar];intro z;rw[yab.mp z c (Y1 V hk hc)]at hl;cases hl
 .split at h
  .rename_i h2;rw[FK V h2];exact ya9 h
  .split at h
   .cases h;rw[BQ];show EJ (V.n _++[])=true;rw[yb4];exact V.hn _
   .cases h
theorem zkp{a b:S}{r:Bool}(h:PQ a b=some r):decide (ev V a=ev V b)=r:=by
 unfold PQ at h;split at h
 .rename_i e;cases h;rw[e];exact yer rfl
 .rename_i hne;split at h
  .rename_i h2;cases h;rw[ya2]at h2;rw[FK V h2.1,FK V h2.2];exact yec λz=>hne (Yt h2.1 h2.2 z)
  .split at h
   .rename_i i j _;split at h
    .rename_i hij;cases h;refine yec λz=>hne ?_
     rw[BQ,BQ]at z;have z':V.n i++[]=V.n j++[]:=z;rw[yb4,yb4]at z';rw[V.hi i j hij.1 hij.2 z']
    .cases h
   .cases h;exact yec λz=>hne (Hn V z.symm).symm
   .cases h;exact yec λz=>hne (Hn V z)
   .cases h
theorem C8{a b:Option Bool}{x y r:Bool}(h:By a b=some r)(ha:∀p,a=some p->x=p)(hb:∀p,b=some p->y=p):(x && y)=r:=by
 cases a with
 |none=>cases h
 |some p =>
  rw[ha p rfl];cases p with
  |false=>cases h;rfl
  |true=>rw[yca];exact hb r h
theorem zm1{a b:Option Bool}{x y r:Bool}(h:VP a b=some r)(ha:∀p,a=some p->x=p)(hb:∀p,b=some p->y=p):(x || y)=r:=by
 cases a with
 |none=>cases h
 |some p =>
  rw[ha p rfl];cases p with
  |true=>cases h;rfl
  |false=>rw[ybp];exact hb r h
theorem GQ{α:Type}{p:α->Option Bool}{q:α->Bool}(hp:∀a b,p a=some b->q a=b):∀{l:List α} {r:Bool},F9 p l=some r->l.all q=r
 |[],r,h=>by cases h;rfl
 |a::l,r,h=>by
  rw[yd0];exact C8 h (λb e=>hp a b e) λb e=>GQ hp e
theorem Ia{a:S}:∀{l:List S} {r:Bool},HL a l=some r->decide (ev V a∈l.map (ev V))=r
 |[],r,h=>by cases h;exact yec yb3
 |b::l,r,h=>by
  have e:decide (ev V a∈(b::l).map (ev V))=(decide (ev V a=ev V b) || decide (ev V a∈l.map (ev V))):=by
   rw[yae,<- Bool.decide_or,yfc];exact yad
  rw[e];exact zm1 h (λp e=>zkp V e) λp e=>Ia e
theorem Lp:∀{l:List S} {r:Bool},Jo l=some r->Df (l.map (ev V))=r
 |[],r,h=>by cases h;exact yer List.nodup_nil
 |a::l,r,h=>by
  have e:Df ((a::l).map (ev V))=(!decide (ev V a∈l.map (ev V)) && Df (l.map (ev V))):=by
   unfold Df;rw[yae,<- decide_not,<- Bool.decide_and,yfc];exact yd4
  rw[e];refine C8 h (λp e=>?_) λp e=>Lp e
  obtain⟨q,hq,rfl⟩:=ya4.mp e;rw[Ia V hq]
theorem Tt{s:S}{b:Bool}(h:Lo s=some b):Du (ev V s)=b:=by
 unfold Lo at h;split at h
 .cases h;rw[BQ];show Du (V.n _++[])=true;rw[yb4];unfold Du;rw[V.hn,ych]
 .split at h
  .rename_i h2;rw[FK V h2];exact ya9 h
  .cases h
theorem zfg{s:S}{b:Bool}(h:PD s=some b):Eu (ev V s)=b:=by
 unfold PD at h;split at h
 .cases h;rw[BQ];show Eu (V.n _++[])=true;rw[yb4];rename_i k;obtain⟨h1,h2⟩:=Fg V k;unfold Eu;rw[ya2];exact⟨yer (by omega),yab.mpr λc hc=>by rw[show DA c=true from yer (h2 c hc),ych]⟩
 .split at h
  .rename_i h2;rw[FK V h2];exact ya9 h
  .cases h
theorem Wx(s:S):s=[]\/∃r k,s=r++[k]:=by
 rcases List.eq_nil_or_concat s with h|⟨r,k,h⟩
 .exact .inl h
 .exact .inr ⟨r,k,by rw[h,List.concat_eq_append]⟩
theorem Tv(s:S):Er (ev V s)=HJ s:=by
 rcases Wx s with rfl|⟨r,k,rfl⟩
 .rfl
 .have e1:ev V (r++[k])=ev V r++k.ev V:=by rw[Kc,BQ];show _++(_++[])=_;rw[yb4]
  have e2:HJ (r++[k])=(match k with|.c n=>decide (n=33\/n=63)|_=>false):=by
   unfold HJ;rw[ybz];cases k<;>rfl
  have key:∀l:W,l≠[]->(∀c∈l,¬ (c=33\/c=63))->Er (ev V r++l)=false:=λl h1 h2=>yec λz=>by
   rw[ybz]at z;cases e:l.getLast? with
   |none=>exact h1 (List.getLast?_eq_none_iff.mp e)
   |some c =>
    rw[e]at z;have hc:=List.mem_of_getLast? e
    rcases z with z|z
    .exact h2 c hc (.inl (ya9 z))
    .exact h2 c hc (.inr (ya9 z))
  rw[e1,e2];cases k with
  |c n =>
   show decide (_\/_)=decide (_\/_);rw[ybz];show decide (some n=some 33\/some n=some 63)=_;rw[yfc,ycd,ycd]
  |w j=>exact key _ (λz=>by have:=(Fg V j).1.1;have z':V.n j=[]:=z;rw[z']at this;exact absurd this (by decide)) λc hc=>by have:=(Fg V j).2 c hc;omega
  |d j=>exact key _ (λz=>by have:=(GZ V j).1.1;have z':V.u j=[]:=z;rw[z']at this;exact absurd this (by decide)) λc hc=>by have:=(GZ V j).2 c hc;omega
theorem zfe{s:S}{b:Bool}(h:Ox s=some b):GI (ev V s)=b:=by
 unfold Ox at h;unfold GI;split at h
 .rename_i e;cases h;rw[e]
  rfl
 .rename_i hne;rw[show decide (ev V s=[])=false from yec λz=>hne (Hn V z),ybp,Tv]
  split at h
  .rename_i hs;rw[hs,yca]
   have:(ev V s).dropLast=ev V s.dropLast:=by
    rcases Wx s with rfl|⟨r,k,rfl⟩
    .rfl
    .rw[ycw,Kc,BQ]
     have e2:HJ (r++[k])=(match k with|.c n=>decide (n=33\/n=63)|_=>false):=by
      unfold HJ;rw[ybz];cases k<;>rfl
     rw[e2]at hs;cases k with
     |c n=>exact ycw
     |w j=>cases hs
     |d j=>cases hs
   rw[this];exact zfi V h
  .rename_i hs;cases h;rw[ydq]at hs;rw[hs]
   rfl
end
theorem Rf{x:W}:∀{l:W},(∀c∈l,CM c=false)->Cb (l++x)=(Cb x).map λp=>(l++p.1,p.2)
 |[],_=>by
  show Cb x=_;cases Cb x<;>rfl
 |a::l,h=>by
  have ih:=Rf (x:=x) (l:=l) λc hc=>h c (ya0 _ hc)
  show(if CM a then some ([],a,l++x) else (match Cb (l++x) with|some (a',d,u)=>some (a::a',d,u)|none=>none))=_
  rw[h a (ya3 ..),if_neg Bool.noConfusion,ih];cases Cb x<;>rfl
section
variable (V:Va)
theorem nm_lk(k:Nat):∀c∈V.n k,CM c=false:=λc hc=>by have:=(Fg V k).2 c hc;exact yec (by omega)
theorem nu_lk(k:Nat):∀c∈V.u k,CM c=false:=λc hc=>by have:=(GZ V k).2 c hc;exact yec (by omega)
theorem Lw:∀s:S,Cb (ev V s)=(Dk s).map λp=>(ev V p.1,p.2.1,ev V p.2.2)
 |[]=>rfl
 |.c n::r=>by
  have ih:=Lw r;rw[BQ];show(if CM n then some ([],n,ev V r) else _)=_
  unfold Dk;cases CM n with
  |true=>rfl
  |false =>
   show(match Cb (ev V r) with|some (a,d,u)=>some (n::a,d,u)|none=>none)=_
   rw[ih];cases Dk r<;>rfl
 |.w k::r=>by
  rw[BQ];show Cb (V.n k++ev V r)=_;rw[Rf (nm_lk V k),Lw r,show Dk (.w k::r)=(match Dk r with|some (a,d,u)=>some (.w k::a,d,u)|none=>none) from rfl]
  cases Dk r with
  |none=>rfl
  |some p=>rw[yav,yav];show some (_,_)=some (ev V (.w k::p.1),_);rw[BQ];rfl
 |.d k::r=>by
  rw[BQ];show Cb (V.u k++ev V r)=_;rw[Rf (nu_lk V k),Lw r,show Dk (.d k::r)=(match Dk r with|some (a,d,u)=>some (.d k::a,d,u)|none=>none) from rfl]
  cases Dk r with
  |none=>rfl
  |some p=>rw[yav,yav];show some (_,_)=some (ev V (.d k::p.1),_);rw[BQ];rfl
theorem zly(c:Nat)(r:S):GX c (ev V r)=((KD c r).1,ev V (KD c r).2):=by
 unfold GX KD
 by_cases h:c≠61/\r.head?=some (.c 61)
 .rw[if_pos h];cases r with
  |nil=>cases h.2
  |cons k r =>
   have hk:k=.c 61:=ya9 h.2;rw[if_pos ⟨h.1,by rw[hk];rfl⟩,hk]
   rfl
 .rw[if_neg h,if_neg λz=>h ⟨z.1,RU V (by decide) (by decide) z.2⟩]
def Kf(k:DK):BS:=(ev V k.1,k.2.1,digitsVal (ev V k.2.2))
theorem Ls{s:S}{o:Option DK}(h:Lu s=some o):Ck (ev V s)=o.map (Kf V):=by
 unfold Lu at h;unfold Ck;rw[Lw];cases e:Dk s with
 |none =>
  rw[e]at h;cases h
  rfl
 |some p =>
  obtain⟨a,c,r⟩:=p;rw[e]at h;rw[yav];simp only at h ⊢;rw[zly];simp only;split at h
  .rename_i e2;cases h;rw[GO V e2,if_pos rfl]
   rfl
  .rename_i e2;cases h;rw[GO V e2,if_neg Bool.noConfusion]
   rfl
  .cases h
theorem Ib:∀{l:List S} {o:Option (List DK)},HM l=some o->Bs (l.map (ev V))=o.map (List.map (Kf V))
 |[],o,h=>by cases h;rfl
 |s::l,o,h=>by
  unfold HM at h;rw[yae];unfold Bs;split at h
  .cases h
  .rename_i e;cases h;rw[Ls V e]
   rfl
  .rename_i k e;rw[Ls V e];split at h
   .cases h
   .rename_i e2;cases h;rw[Ib e2]
    rfl
   .rename_i l' e2;cases h;rw[Ib e2]
    rfl
theorem RT(r:S)(k:K):ev V (r++[k])=ev V r++k.ev V:=by
 rw[Kc,BQ];show _++(_++[])=_;rw[yb4]
theorem zdz{w:W}(h:58∉w):EI w=none:=by
 unfold EI;split
 .rename_i r e;exact absurd (by rw[<- List.mem_reverse,e];simp) h
 .rfl
theorem ze0{w:W}{n:Nat}(h:n≠48):EI (w++[n])=none:=by
 unfold EI;rw[List.reverse_append];split
 .rename_i r e;exact absurd (yb8 e).1 h
 .rfl
theorem WI(w:W):EI (w++[58,48])=some w:=by
 unfold EI;rw[List.reverse_append];show some w.reverse.reverse=some w;rw[ycx]
theorem Tz{s:S}{o:Option S}(h:PH s=some o):EI (ev V s)=o.map (ev V):=by
 unfold PH at h;split at h
 .split at h
  .rename_i r e;cases h
   have es:s=(r.reverse++[.c 58])++[.c 48]:=by
    rw[<- ycx s,e,ycr,ycr]
   rw[es,RT,RT,yc1];exact WI _
  .rename_i n r _ e;split at h
   .rename_i hn;cases h;have es:s=r.reverse++[.c n]:=by rw[<- ycx s,e,ycr]
    rw[es,RT];exact ze0 hn
   .cases h
  .cases h
 .rename_i h1;cases h;refine zdz (zgs V (by decide) (by decide) λz=>h1 ?_)
  exact ye7.mpr ⟨_,z,yer rfl⟩
def JR(s:Ja):IF:=(s.1.map (Kf V),s.2.1.map (ev V),ev V s.2.2)
theorem W0{α β:Type}{f:α->β}{l:List α}:l.map f≠[] ↔ l≠[]:=⟨λh z=>h (by rw[z];rfl),λh z=>h (ybl.mp z)⟩
theorem zht{s:Ja}{w:S}{o:Option Ja}(h:Lv s w=some o):Gk (JR V s) (ev V w)=o.map (JR V):=by
 obtain⟨g,n,z⟩:=s;unfold Lv at h;unfold Gk JR;simp only at h ⊢;split at h
 .rename_i hz;cases h;rw[if_pos λq=>hz (Hn V q)]
  rfl
 .rename_i hz;have hz:z=[]:=Classical.not_not.mp hz;subst hz;rw[if_neg (show ¬ (ev V []≠[]) from λq=>q rfl)]
  split at h
  .cases h
  .rename_i x e;cases h;rw[Tz V e];simp only[yav,yal,yae,ybx]
  .rename_i e;rw[Tz V e,Tv];simp only[Option.map_none];split at h
   .rename_i hs;cases h;rw[if_pos hs]
    rfl
   .rename_i hs;rw[if_neg hs];split at h
    .rename_i hn;cases h;rw[if_pos (W0.mpr hn)]
     rfl
    .rename_i hn;rw[if_neg λq=>hn (W0.mp q)]
     split at h
     .cases h
     .rename_i k e2;cases h;rw[Ls V e2];simp only[yav,yal,yae,ybx]
     .rename_i e2;cases h;rw[Ls V e2]
      rfl
theorem Qr{α β α' β':Type}{f:α->β->Option (Option α)}{f':α'->β'->Option α'}{g:α->α'}{k:β->β'}(hf:∀s b o,f s b=some o->f' (g s) (k b)=o.map g):∀{l:List β} {s:α} {o:Option α},Hk f s l=some o->Ed f' (g s) (l.map k)=o.map g
 |[],s,o,h=>by cases h;rfl
 |b::l,s,o,h=>by
  unfold Hk at h;rw[yae];unfold Ed;split at h
  .rename_i s' e;rw[hf s b _ e];exact Qr hf h
  .rename_i e;cases h;rw[hf s b _ e]
   rfl
  .cases h
def Ke(d:Gy):DM:=(ev V d.1,ev V d.2.1,JR V d.2.2)
theorem UB{ws:List S}{o:Option Gy}(h:PU ws=some o):Gn (ws.map (ev V))=o.map (Ke V):=by
 unfold PU at h;split at h
 .rename_i x a b r;rw[yae,yae,yae];unfold Gn;have key:∀{o},Hk Lv ([],[],[]) r=some o->Ed Gk ([],[],[]) (r.map (ev V))=o.map (JR V):=λh=>Qr (g:=JR V) (λs b o h=>zht V h) h
  split at h
  .rename_i s e;cases h;simp only[key e,yav]
   rfl
  .rename_i e;cases h;simp only[key e,Option.map_none]
  .cases h
 .rename_i hne;cases h;unfold Gn;split
  .rename_i x a b r e
   match ws,e with
   |y::y2::y3::ys,e=>exact absurd rfl (hne y y2 y3 ys)
   |[],e=>cases e
   |[_],e=>cases e
   |[_,_],e=>cases e
  .rfl
theorem HN{w:W}{ws:List S}{b:Bool}(h:GP w ws=some b):decide ((ws.map (ev V)).head?=some w)=b:=by
 unfold GP at h;cases ws with
 |nil =>
  cases h;exact yec λz=>by cases z
 |cons s r =>
  simp only[yd7]at h;split at h
  .rename_i hc;cases h;rw[yae,yd7,FK V hc,yfc];exact⟨λh=>ya9 h,λh=>congrArg some h⟩
  .cases h
def Ho(r:S×List DK):W×List BS:=(ev V r.1,r.2.map (Kf V))
def Hq(s:LJ):J9:=(s.1.map (Ho V),s.2.map (Ke V))
theorem YG(ws:List S)(i:Nat):(ws.map (ev V)).getD i []=ev V (ws.getD i []):=by
 rw[yaw,yaw,yaj];cases ws[i]?<;>rfl
theorem zhs{s:LJ}{ws:List S}{o:Option LJ}(h:Lr s ws=some o):G5 (Hq V s) (ws.map (ev V))=o.map (Hq V):=by
 unfold Lr at h;split at h
 .rename_i r d e1 e2;have h1:=HN V e1;have h2:=HN V e2;unfold G5;rw[ya1];have hs:(Hq V s).2=[] ↔ s.2=[]:=ybl;split at h
  .rename_i hc;rw[hc.1]at h1;rw[if_pos ⟨yf5 h1,hc.2.1,hs.mpr hc.2.2⟩,<- ye2];split at h
   .rename_i l e;cases h;rw[Ib V e];simp only[yav];rw[YG];unfold Hq;simp only[yal,yae,ybx]
    rfl
   .rename_i e;cases h;rw[Ib V e]
    rfl
   .cases h
  .rename_i hc;rw[if_neg λz=>hc ⟨by rw[<- h1];exact yer z.1,z.2.1,hs.mp z.2.2⟩]
   split at h
   .rename_i hd;rw[hd.1]at h2;rw[if_pos ⟨yf5 h2,hd.2⟩];split at h
    .rename_i q e;cases h;rw[UB V e];simp only[yav];unfold Hq;simp only[yal,yae,ybx]
    .rename_i e;cases h;rw[UB V e]
     rfl
    .cases h
   .rename_i hd;cases h;rw[if_neg λz=>hd ⟨by rw[<- h2];exact yer z.1,z.2⟩]
    rfl
 .cases h
theorem UA{ws:List S}{wd:List W}{g:List DK}{b:Bool}(h:PM ws wd g=some b):EM (ws.map (ev V)) wd (g.map (Kf V))=b:=by
 unfold EM;rw[yby];exact GQ (λk b h=>C8 h (λp e=>Ia V e) λp e=>ya9 e) h
theorem zfh{ns ws:List S}{b:Bool}(h:Tw ns ws=some b):G0 (ns.map (ev V)) (ws.map (ev V))=b:=by
 unfold G0;rw[yby,yby];exact C8 h (λp e=>GQ (λk b h=>Tt V h) e) λp e=>C8 e (λp e=>Lp V e) λp e=>GQ (λk b h=>Ia V h) e
theorem zkm{ws:List S}{b:Bool}(h:Ov ws=some b):HA (ws.map (ev V))=b:=by
 unfold HA;rw[yby,ya1];exact C8 h (λp e=>ya9 e) λp e=>C8 e (λp e=>GQ (λk b h=>Tt V h) e) λp e=>Lp V e
theorem YJ(rs:List (S×List DK)):(rs.map (Ho V)).map (·.1)=(rs.map (·.1)).map (ev V):=by
 rw[yax,yax]
 rfl
theorem zko{ws:List S}{rs:List (S×List DK)}{b:Bool}(h:Oz ws rs=some b):GS (ws.map (ev V)) (rs.map (Ho V))=b:=by
 unfold GS;rw[yby,YJ,show(rs.map (Ho V)).isEmpty=rs.isEmpty by cases rs<;>rfl]
 exact C8 h (λp e=>ya9 e) λp e=>C8 e (λp e=>GQ (λk b h=>C8 h (λp e=>zfg V e) λp e=>UA V e) e) λp e=>Lp V e
theorem zkq{ws ns:List S}{ds:List Gy}{b:Bool}(h:PR ws ns ds=some b):Hr (ws.map (ev V)) (ns.map (ev V)) (ds.map (Ke V))=b:=by
 unfold Hr;rw[yby];exact GQ (λd b h=>C8 h (λp e=>Ia V e) λp e=>C8 e (λp e=>Ia V e) λp e=>C8 e (λp e=>UA V e) λp e=>C8 e (λp e=>zfh V e) λp e=>zfe V e) h
theorem zfj{ws:List S}{rs:List (S×List DK)}{ds:List Gy}{v:Vd}(h:PL ws rs ds=some v):Iw (ws.map (ev V)) (rs.map (Ho V)) (ds.map (Ke V))=v:=by
 have key:∀{b},By (Ov ws) (By (Oz ws rs) (PR ws (rs.map (·.1)) ds))=some b->(HA (ws.map (ev V)) && (GS (ws.map (ev V)) (rs.map (Ho V)) && Hr (ws.map (ev V)) ((rs.map (Ho V)).map (·.1)) (ds.map (Ke V))))=b:=λe=>C8 e (λp e=>zkm V e) λp e=>C8 e (λp e=>zko V e) λp e=>by
  rw[YJ];exact zkq V e
 unfold PL at h;unfold Iw;rw[ya1,ya1];split at h
 .rename_i e;rw[key e,if_pos rfl];exact ya9 h
 .rename_i e;rw[key e,if_neg Bool.noConfusion];exact ya9 h
 .cases h
theorem zff{l:List (List S)}{v:Vd}(h:PC l=some v):Ie (l.map (List.map (ev V)))=v:=by
 unfold PC at h;split at h
 .rename_i hd ws rest;rw[yae,yae];unfold Ie;have key:∀{o},Hk Lr ([],[]) rest=some o->Ed G5 ([],[]) (rest.map (List.map (ev V)))=o.map (Hq V):=λh=>Qr (g:=Hq V) (λs b o h=>zhs V h) h
  split at h
  .rename_i e;have e1:=yf5 (HN V e);simp only[if_pos (ya9 e1)];split at h
   .rename_i s e2;rw[key e2];exact zfj V h
   .rename_i e2;rw[key e2];exact ya9 h
   .cases h
  .rename_i e;have e1:=of_decide_eq_false (HN V e);simp only[if_neg λz=>e1 (congrArg some z)]
   exact ya9 h
  .cases h
 .rename_i hne;cases h;unfold Ie;split
  .rename_i a b c e
   match l,e with
   |(x::y)::z,e=>exact absurd rfl (hne x y z)
   |[]::z,e=>cases e
   |[],e=>cases e
  .rfl
theorem zfc{s:S}{v:Vd}(h:Tu s=some v):Ie ((A6 10 (ev V s)).map (A6 32))=v:=by
 rw[GN V (by decide) (by decide),yax]
 have e:(Br 10 s).map (A6 32 ∘ ev V)=((Br 10 s).map (Br 32)).map (List.map (ev V)):=by
  rw[yax];exact List.map_congr_left λp _=>GN V (by decide) (by decide) p
 rw[e];exact zff V h
theorem zfk{s:S}{b:Bool}(h:PN s=some b):Hj (A6 47 (ev V s))=b:=by
 rw[GN V (by decide) (by decide)]
 unfold PN at h;split at h
 .rename_i a e;rw[e];exact GO V h
 .rename_i a c e;rw[e];split at h
  .rename_i hc;cases h;have hn:=V.hu 6;have h6:=V.h6;rw[hc.1,hc.2,yae,yae,ybx,show ev V [.c 49]=[49] from rfl,show ev V [.d 6]=V.u 6 from yb4 _];show(Tx.isNum [49] && (Tx.isNum (V.u 6) && decide (2<=digitsVal (V.u 6)/\Nat.gcd (digitsVal [49]) (digitsVal (V.u 6))<=1)))=true;rw[hn,show digitsVal [49]=1 from by decide,Nat.gcd_one_left,yer ⟨h6,yaf 1⟩]
   decide
  split at h
  .rename_i hc;rw[ya2]at hc;rw[yae,yae,ybx,FK V hc.1,FK V hc.2];exact ya9 h
  .split at h
   .rename_i hn;cases h;show(Tx.isNum (ev V a) && (Tx.isNum (ev V c) && _))=false
    rcases hn with hn|hn
    .rw[GO V hn,ybt]
    .rw[GO V hn,ybt,ycg]
   .cases h
 .rename_i h1 h2;cases h
  match Br 47 s,h1,h2 with
  |[],_,_=>rfl
  |[a],h1,_=>exact absurd rfl (h1 a)
  |[a,c],_,h2=>exact absurd rfl (h2 a c)
  |a::b::c::r,_,_=>rfl
theorem zfd{s:S}{b:Bool}(h:Ow s=some b):Dx (ev V s)=b:=by
 unfold Dx;rw[GN V (by decide) (by decide)]
 unfold Ow at h;split at h
 .rename_i a c e;rw[e];show((decide (ev V c=[45]) || Tx.isNum (ev V c)) && Hj (A6 47 (ev V a)))=b
  refine C8 h (λp e=>?_) λp e=>zfk V e
  split at e
  .rename_i hc;rw[hc,show decide (ev V [.c 45]=[45])=true from yer rfl];exact ya9 e
  .rename_i hc;rw[show decide (ev V c=[45])=false from yec λz=>?_,ybp]
   .exact GO V e
   .have z1:=RU V (d:=45) (by decide) (by decide) (s:=c) (by rw[z];rfl)
    cases c with
    |nil=>cases z1
    |cons k r =>
     have hk:k=.c 45:=ya9 z1;subst hk;rw[BQ]at z;have hr:=Hn V (yb8 z).2;exact hc (by rw[hr])
 .rename_i h1;cases h
  match Br 32 s,h1 with
  |[],_=>rfl
  |[a],_=>rfl
  |[a,c],h1=>exact absurd rfl (h1 a c)
  |a::b::c::r,_=>rfl
theorem zhr{s:S}{b:Bool}(h:Oy s=some b)(h0:s≠[]):Txt.split (mk (ev V s)) ⟨#[59,32]⟩=((Cs 59 32 s).map (ev V)).map mk/\((Cs 59 32 s).map (ev V)).all Dx=b:=by
 refine⟨zcz V (by decide) (by decide +kernel) (by decide) (by decide) (by decide) (by decide) s,?_⟩
 unfold Oy at h;rw[if_neg h0]at h;rw[yby];exact GQ (λa b h=>zfd V h) h
theorem XQ{l:List S}{b:Bool}(h:Mi (HM l)=some b):(Bs (l.map (ev V))).isSome=b:=by
 unfold Mi at h;split at h
 .rename_i e;rw[Ib V e];exact ya9 h
 .rename_i e;rw[Ib V e];exact ya9 h
 .cases h
theorem zhu{ws:List S}{b:Bool}(h:PX ws=some b):Kh (ws.map (ev V))=b:=by
 unfold PX at h;split at h
 .rename_i n o i e1 e2 e3;have h1:=HN V e1;have h2:=HN V e2;have h3:=HN V e3;unfold Kh;rw[ya1,<- ye2,<- ye2,YG];split at h
  .rename_i hc;rw[hc.1]at h1;rw[if_pos ⟨yf5 h1,hc.2⟩];exact XQ V h
  .rename_i hc;rw[if_neg λz=>hc ⟨by rw[<- h1];exact yer z.1,z.2⟩]
   split at h
   .rename_i hd;rw[hd.1]at h2;rw[if_pos ⟨yf5 h2,hd.2⟩];exact C8 h (λp e=>XQ V e) λp e=>GO V e
   .rename_i hd;rw[if_neg λz=>hd ⟨by rw[<- h2];exact yer z.1,z.2⟩]
    split at h
    .rename_i hg;rw[hg.1]at h3;rw[if_pos ⟨yf5 h3,hg.2⟩];exact GO V h
    .rename_i hg;rw[if_neg λz=>hg ⟨by rw[<- h3];exact yer z.1,z.2⟩]
     exact ya9 h
 .cases h
theorem zdt{s:S}{b:Bool}(h:UC s=some b):Kh (A6 32 (ev V s))=b:=by
 rw[GN V (by decide) (by decide)]
 exact zhu V h
end
def Ok(w:W):Prop:=w.length<=50000/\∀c∈w,c<128
theorem Ok.sub{w x:W}(h:Ok w)(s:x.Sublist w):Ok x:=⟨yap s.length_le h.1,λc hc=>h.2 c (s.subset hc)⟩
theorem IY(c:Nat):∀w:W,(∀p∈A6 c w,p.Sublist w)/\(A6 c w).length<=w.length+1
 |[]=>⟨λp hp=>by rw[ya7.mp hp];exact List.Sublist.slnil,yaf _⟩
 |d::r=>by
  obtain⟨h1,h2⟩:=IY c r;obtain⟨hn,_⟩:=F6 c r;unfold A6;cases e:A6 c r with
  |nil=>exact absurd e hn
  |cons p ps =>
   rw[e]at h1 h2;rw[ya6]at h2
   by_cases h:d=c
   .rw[if_pos h];refine⟨λq hq=>?_,by rw[ya6,ya6,ya6];omega⟩
    rcases yad.mp hq with rfl|hq
    .exact List.nil_sublist _
    .exact(h1 q hq).cons _
   .rw[if_neg h];refine⟨λq hq=>?_,by rw[ya6,ya6];omega⟩
    rcases yad.mp hq with rfl|hq
    .exact(h1 p (ya3 ..)).cons_cons _
    .exact(h1 q (ya0 _ hq)).cons _
theorem Rc:∀{w a r:W} {c:Nat},Cb w=some (a,c,r)->w=a++c::r/\CM c=true/\∀d∈a,CM d=false
 |[],a,r,c,h=>by cases h
 |e::w,a,r,c,h=>by
  unfold Cb at h;split at h
  .rename_i hl;cases h;exact⟨rfl,hl,λd hd=>by cases hd⟩
  .rename_i hl;split at h
   .rename_i a' d u e2;cases h;obtain⟨h1,h2,h3⟩:=Rc e2;refine⟨by rw[h1];rfl,h2,λd hd=>?_⟩
    rcases yad.mp hd with rfl|hd
    .exact ydq _▸hl
    .exact h3 d hd
   .cases h
theorem Yp:∀{w:W},Cb w=none->∀d∈w,CM d=false
 |[],_,d,hd=>by cases hd
 |e::w,h,d,hd=>by
  unfold Cb at h;split at h
  .cases h
  .rename_i hl;split at h
   .cases h
   .rename_i e2
    rcases yad.mp hd with rfl|hd
    .exact ydq _▸hl
    .exact Yp e2 d hd
theorem KL{a b:W}(h:mk a=mk b):a=b:=congrArg Tx.cs h
theorem zm9{a:W}{l:List W}:mk a∈l.map mk ↔ a∈l:=⟨λh=>by
 obtain⟨b,hb,e⟩:=yai.mp h;rw[<- KL e];exact hb,λh=>yai.mpr ⟨a,h,rfl⟩⟩
noncomputable def K.wt:K->Nat
 |.c _=>1
 |.w _=>8
 |.d _=>60
def K.as:K->Bool
 |.c n=>decide (n<128)
 |_=>true
def wt:S->Nat
 |[]=>0
 |k::r=>k.wt+wt r
def Ir(s:S):Bool:=decide (wt s<=50000) && s.all K.as
theorem Nh(V:Va):∀s:S,(ev V s).length<=wt s
 |[]=>yaf _
 |k::r=>by
  have ih:=Nh V r
  have hk:(k.ev V).length<=k.wt:=by
   cases k with
   |c n=>exact yaf _
   |w j=>exact(Fg V j).1.2
   |d j=>exact(GZ V j).1.2
  rw[BQ,yag];show _<=k.wt+wt r
  omega
theorem Sn:∀s:S,wt s<=60 * s.length
 |[]=>yaf _
 |k::r=>by
  have ih:=Sn r
  have hk:k.wt<=60:=by
   unfold K.wt;split<;>decide
  rw[ya6];show k.wt+wt r<=_
  omega
theorem Mw(V:Va){s:S}(h:Ir s=true):Ok (ev V s):=by
 unfold Ir at h;rw[ya2,yf1]at h;refine⟨yap (Nh V s) h.1,λc hc=>?_⟩
 obtain⟨k,hk,hm⟩:=yea.mp hc;have ha:=yab.mp h.2 k hk;cases k with
 |c n=>rw[ya7.mp hm];exact yf5 ha
 |w j=>have:=(Fg V j).2 c hm;omega
 |d j=>have:=(GZ V j).2 c hm;omega
end Tk
namespace Tk
open PySem
noncomputable def L(x:String):S:=(Str.ofString x).cps.toList.map K.c
inductive SE where
 |l (x:String)|v (i:Nat)|a (x y:SE)
def SE.s(A:Nat->S):SE->S
 |.l x=>L x
 |.v i=>A i
 |.a x y=>x.s A++y.s A
def SE.b:SE->Nat
 |.l x=>(L x).length
 |.v _=>100
 |.a x y=>x.b+y.b
theorem SE.le{A:Nat->S}(h:∀i,(A i).length<=100):∀e:SE,(e.s A).length<=e.b
 |.l _=>yaf _
 |.v i=>h i
 |.a x y=>by
  have h1:=SE.le h x;have h2:=SE.le h y;show(x.s A++y.s A).length<=x.b+y.b;rw[yag]
  omega
def Co(l:List SE):Bool:=l.all λe=>decide (e.b<=2000)
def jn(c:Nat):List S->S
 |[]=>[]
 |[x]=>x
 |x::r=>x++.c c::jn c r
def BV(rows:List (List S)):S:=jn 10 (rows.map (jn 32))
noncomputable def w0:S:=[.w 0]
def w1:S:=[.w 1]
def w2:S:=[.w 2]
def w3:S:=[.w 3]
noncomputable def E6:List SE:=[.l "",.v 0,.a (.v 0) (.v 1),.a (.v 0) (.l "<"),.a (.v 0) (.l "<="),.a (.v 0) (.l "="),.a (.a (.v 0) (.l "<0")) (.v 1),.a (.v 0) (.l "<-1")]
def Fh:List SE:=[.a (.v 0) (.l "=<1"),.a (.v 0) (.l "==1"),.a (.v 0) (.l "<>1"),.a (.v 0) (.l "<=+1")]
def G4:List SE:=[.a (.v 0) (.l "<1.0"),.a (.v 0) (.l "<1<2"),.a (.v 0) (.l "<a")]
def HZ:List SE:=[.a (.v 0) (.l ">=1_0"),.a (.a (.v 0) (.l "<1")) (.v 2),.a (.v 0) (.l ">= 1")]
def Iv:List SE:=[.a (.v 0) (.l "<1/2"),.a (.v 0) (.l ":1"),.a (.v 0) (.l "<=1,")]
def Iu:List SE:=[.a (.v 0) (.l "<1\n"),.l "-",.v 1]
def nE:List SE:=E6++Fh++G4++HZ++Iv++Iu
def nA(n:S):Nat->S
 |0=>w0
 |1=>n
 |_=>List.replicate 60 (.c 48)
def E4(n:S):List S:=nE.map (SE.s (nA n))
def BN:List S:=[L "watches",w0,w1]
def B9:List S:=[L "room",w2,w0++L "<="++[.d 0]]
def B3:List S:=[L "room",w3]
def Cf(k:Nat):List S:=[L "door",w2,w3,w0++L ">="++[.d 0],w1++L "=0",w1++L ":0",L "go!"].take (3+k)
def EZ:List S:=[L "door",w3,w2,w0++L ":0"]
def Am(k:Nat):List (List S):=[BN,B9,B3]++[Cf k,EZ]
def DY:List (List SE×Vd):=[([.l "door",.v 2],.text),([.l "door",.v 2,.v 0],.bad)]
def ER:List SE×Vd:=([.l "door",.v 2,.v 3,.v 4,.a (.v 0) (.l ":0")],.text)
def Ef:List SE×Vd:=([.l "door",.v 2,.v 3,.a (.v 0) (.l ":0"),.a (.v 0) (.l "<1")],.text)
def FL:List SE×Vd:=([.l "door",.v 2,.v 3,.l "go!",.a (.v 0) (.l "<1")],.text)
def Fq:List SE×Vd:=([.l "door",.v 2,.v 3,.l "go!",.l "go?"],.text)
def Gr:List SE×Vd:=([.l "door",.v 2,.v 3,.l "go!",.a (.v 0) (.l ":0")],.text)
noncomputable def Hu:List (List SE×Vd):=[([.l "door",.v 2,.v 3,.l "!"],.bad),([.l "door",.l "",.l "",.l ":0"],.bad)]
def Yk:List SE×Vd:=([.l "door",.v 2,.v 3,.a (.a (.l "z<") (.v 5)) (.l "?")],.bad)
def Ht:List (List SE×Vd):=DY++[ER]++[Ef]++[FL]++[Fq]++[Gr]++Hu++[Yk]
def dA(x:S):Nat->S
 |0=>w0
 |2=>w2
 |3=>w3
 |4=>x
 |_=>[.d 2]
def Gp(x:S):List (List S×Vd):=Ht.map λp=>(p.1.map (SE.s (dA x)),p.2)
def Cz:List (List S):=(List.range 59).map (λk=>[L "room",List.replicate (1+k) (.c 97)])++(List.range 6).map (λk=>[L "room",List.replicate (1+k) (.c 98)])
def Fe(k:Nat):List (List (List S)×Vd):=[(Am k,.read),((Am k).take 3,.read),((Am k).take 1,.bad),((Am k).drop 1,.text),([B9,BN],.text)]
def HU(k:Nat):List (List (List S)×Vd):=[((Am k).take 3++[Cf k,B3],.text),(Am k++[[L "rooms",L "a"]],.text),(Am k++[[L ""]],.text)]
def Im(k:Nat):List (List (List S)×Vd):=[((Am k).take 2++[[L "room"]]++(Am k).drop 3,.text),([[L "Watches"]]++(Am k).drop 1,.text)]
def Jx(k:Nat):List (List (List S)×Vd):=[([[L "watches",L ""]]++((Am k).drop 1).take 2,.bad),([BN,[L "room",L ""]],.bad)]
def MI(k:Nat):List (List (List S)×Vd):=[((Am k).take 1++[[L "room",w2,w0++L ">=1"]],.bad),(Am k++[[L "watches"]],.text)]
def Pg(k:Nat):List (List (List S)×Vd):=[([BN.take 2]++((Am k).drop 1).take 1++((Am k).drop 1).take 1,.bad)]
def rA(k:Nat):List (List (List S)×Vd):=Fe k++HU k++Im k++Jx k++MI k++Pg k
def rX(x:S):List (List (List S)×Vd):=[([BN]++[[L "room",w2,x]]++[B3],.text)]
def rD(x:S):List (List (List S)×Vd):=(Gp x).map λp=>([BN,B9,B3]++[p.1],p.2)
def Ij:List (List (List S)×Vd):=[([[L "watches"]]++Cz,.many),([[L "watches"]]++Cz.drop 1,.read)]
def Jv:List (List (List S)×Vd):=[([[L "watches",L "x",L "x"]]++Cz,.bad)]
def Cg(k:Nat)(x:S):List (List (List S)×Vd):=rA k++rX x++rD x++Ij++Jv
def mE(k:Nat):List (S×Vd):=[(L "",.text),(BV (Am k)++L "\n",.text)]++[(L " "++BV (Am k),.text),(BV ((Am k).take 3)++L " ",.text)]
def Hi:S:=L "1/"++[.d 6]++L " "++[.d 3]++L "; "++[.d 3]++L " -"
noncomputable def EG:List (SE×Bool):=[(.v 1,true),(.l "",true),(.a (.v 1) (.l "; 0 0"),true),(.a (.v 1) (.l "; "),false),(.a (.l "; ") (.v 1),false)]
def Fd:List (SE×Bool):=[(.a (.v 1) (.l ";"),false),(.a (.v 1) (.l ";0 0"),false)]
def GV:List (SE×Bool):=[(.a (.v 1) (.l " "),false),(.v 0,false),(.l "-",false)]
def HS:List (SE×Bool):=[(.a (.v 0) (.l " 0 0"),false),(.l "- 0",false),(.l "-1 0",false)]
def Ik:List (SE×Bool):=[(.l "1/1 0",false),(.a (.v 1) (.l "; 1 --"),false)]
def Jw:List (SE×Bool):=[(.a (.l "2/4 0; ") (.v 1),false),(.a (.v 0) (.l " 01"),false)]
def MH:List (SE×Bool):=[(.a (.v 0) (.l " -1"),false),(.a (.v 0) (.l " +1"),false)]
def Pe:List (SE×Bool):=[(.a (.v 0) (.l "  0"),false),(.a (.l " ") (.v 1),false)]
def Uh:List (SE×Bool):=[(.a (.v 1) (.l "\n"),false),(.a (.l "1 1") (.v 2),false)]
def Fc:List (SE×Bool):=EG++Fd++GV++HS++Ik++Jw++MH++Pe++Uh
def HR:List (SE×Bool):=[(.l "none",false),(.l ";",false),(.a (.v 1) (.l "; ; 0 0"),false)]
def DR:Nat->S
 |0=>[.d 3]
 |1=>Hi
 |_=>List.replicate 60 (.c 48)
def zl2:List (S×Bool):=(Fc++HR).map λp=>(p.1.s DR,p.2)
def KR:S:=w0++L ">="++[.d 4]
def DZ:List (SE×Bool):=[(.a (.l "never ") (.v 3),true),(.a (.a (.a (.l "never ") (.v 3)) (.l " ")) (.v 1),true)]
def Eg:List (SE×Bool):=[(.a (.l "within a ") (.v 0),true)]
def FO:List (SE×Bool):=[(.a (.a (.a (.l "nosooner ") (.v 3)) (.l " ")) (.v 0),true)]
def Fu:List (SE×Bool):=[(.a (.a (.a (.a (.a (.l "nosooner a ") (.v 0)) (.l " ")) (.v 1)) (.l " ")) (.v 1),true)]
noncomputable def Gs:List (SE×Bool):=[(.l "never",false),(.a (.a (.a (.l "never ") (.v 3)) (.l " ")) (.v 2),false),(.a (.l "nosooner ") (.v 3),false)]
def Hw:List (SE×Bool):=[(.a (.a (.l "nosooner ") (.v 3)) (.l " x"),false)]
def JZ:List (SE×Bool):=[(.a (.a (.a (.l "nosooner ") (.v 3)) (.l " ")) (.v 1),false),(.l "within a",false)]
def Kk:List (SE×Bool):=[(.a (.a (.a (.l "within a ") (.v 0)) (.l " ")) (.v 1),false)]
def NN:List (SE×Bool):=[(.a (.l "within a 0") (.v 0),false),(.l "Never a",false)]
def SO:List (SE×Bool):=[(.l "nevers a",false),(.l " never a",false),(.l "never a ",false)]
def ZE:List (SE×Bool):=[(.l "",false),(.a (.l "nosooner a 1 ") (.v 2),false)]
def cE:List (SE×Bool):=DZ++Eg++FO++Fu++Gs++Hw++JZ++Kk++NN++SO++ZE
def cA(x:S):Nat->S
 |0=>[.d 4]
 |1=>KR
 |2=>x
 |_=>w2
def znf(x:S):List (S×Bool):=(cE++[(SE.l "within a  1",false)]).map λp=>(p.1.s (cA x),p.2)
def Me(p:S×Vd):Bool:=decide (Tu p.1=some p.2) && (Ir p.1 && (decide ((Br 10 p.1).length<=900) && (Br 10 p.1).all λr=>decide ((Br 32 r).length<=900)))
def Pf(p:S×Bool):Bool:=decide (Oy p.1=some p.2) && (Ir p.1 && (decide ((Cs 59 32 p.1).length<=900) && (Cs 59 32 p.1).all Ir))
def SQ(p:S×Bool):Bool:=decide (UC p.1=some p.2) && (Ir p.1 && decide ((Br 32 p.1).length<=900))
def Eo(rows:List (List S)):Bool:=decide (rows.length<=100) && rows.all λr=>decide (r.length<=10) && r.all λs=>decide (s.length<=70)
def IQ(p:List (List S)×Vd):Bool:=Eo p.1 && Me (BV p.1,p.2)
set_option maxRecDepth 100000
theorem b_ok:Co nE=true/\(Co ((Fc++HR).map (·.1))=true/\Co (cE.map (·.1))=true)/\Ht.all (λp=>Co p.1)=true:=by decide +kernel
theorem rA_ok:∀k,k<5->(rA k).all IQ=true:=by decide +kernel
theorem mE_ok:∀k,k<5->(mE k).all Me=true/\(Eo (Am k)=true/\Eo ((Am k).take 3)=true)/\(BV (Am k)).length<=1000/\(BV ((Am k).take 3)).length<=1000:=by decide +kernel
theorem rX_ok:∀i,i<24->(rX ((E4 [.d 1]).getD i [])).all IQ=true/\(rD ((E4 [.d 1]).getD i [])).all IQ=true:=by decide +kernel
theorem Ub:Ij.all IQ=true/\Jv.all IQ=true:=by decide +kernel
theorem rI_ok:zl2.all Pf=true:=by decide +kernel
theorem cI_ok:∀i,i<24->(znf ((E4 [.d 5]).getD i [])).all SQ=true:=by decide +kernel
theorem WN:∀i,i<24->∀j,j=1\/j=5->((E4 [.d j]).getD i []).length<=70:=by
 intro i hi j hj
 rcases hj with rfl|rfl
 .revert i
  decide +kernel
 .revert i
  decide +kernel
end Tk
namespace Hd
open PySem PySem.W PySem.Calls PyProof.Rows
def K6(st:SharedT->Thread->Option (SharedT×Thread))(ok:Thread->Bool):Nat->SharedT->Thread->Option SharedT
 |0=>λ_ _=>none
 |n+1=>λs t=>bif through t then some s else bif ok t then (st s t).elim none λx=>K6 st ok n x.1 x.2 else none
theorem zjn{tb:String->Option Builtin}{p:Program}{w:World}{m:Nat}{ann:Option Value}(n:Nat):∀(s:SharedT) (t:Thread) (r:SharedT),
  K6 (stepT (denote tb) p w) (stepOk m ann) n s t=some r->topRun tb p w m ann n s.abs t=some r.abs:=by
 induction n with
 |zero=>intro s t r h;exact nomatch h
 |succ n ih =>
  intro s t r h;rw[K6]at h;dsimp only at h;rw[topRun];cases a:through t with
  |true=>rw[a]at h;cases h;rfl
  |false =>
   rw[a]at h;cases b:stepOk m ann t with
   |false=>rw[b]at h;exact nomatch h
   |true =>
    rw[b]at h;cases c:stepT (denote tb) p w s t with
    |none=>rw[c]at h;exact nomatch h
    |some x=>rw[c]at h;rw[stepT_spec (s':=x.1) (t':=x.2) c];exact ih _ _ _ h
noncomputable def Lf(p q:Program)(loose:List Str)(Xt:Shared->Bool){α:Type}(Yf:Shared->α)(h:Heap)(s:Shared) :=
 ((staticsOk (importedModules p.main.body) h s.heap && namesBound p s.heap && gensDone s && laidKept h s.heap),openSeen q loose (importedModules p.main.body) Xt true s,Yf s)
theorem zjb{p q:Program}{loose:List Str}{Xt:Shared->Bool}{α:Type}{Yf:Shared->α}{Ya:World->α}{N M m:Nat}{ann:Option Value}{bt:Params->BT}{lf:Params->Life}{st:World->SharedT->Thread->Option (SharedT×Thread)}{ok:Thread->Bool}(hst:∀w,stepT (denote treeTable) p w=st w)(hok:stepOk m ann=ok)
  (e:opening p=plainProg p.main.scope.names) (hN:Nat.ble 600 N=true) (f:∀s,fenceModules? p s=some s) (hM:Nat.ble M N=true)
  (hb:∀P,absHeap (bt P) m (lf P)=boot_heap P) (hs:∀P,(boot_heap P).isNs mainGlobals=true) (hz:∀P,(boot_heap P).objs.size=m) (ha:∀P,(boot_heap P).nsMap mainGlobals "__annotations__"=ann)
  (h:∀(w:World) (os:OsState),(K6 (st w) ok M ⟨bt w.params,m,lf w.params,Array.mk [],boot_drawn,boot_toks,os⟩ (topStub p)).map (λs=>Lf p q loose Xt Yf (boot_heap w.params) s.abs)=some (true,openGood q loose,Ya w)) :
  LeftO p q loose Xt Yf Ya N true:=λw=>by
 obtain⟨⟨h0,g0,d0,k0,os⟩,hs0,hv⟩:=ya4.mp (boot_open e hN f w);simp only[Prod.mk.injEq]at hv;obtain⟨rfl,rfl,rfl,rfl⟩:=hv;obtain⟨T,hT,hx⟩:=ya4.mp (h w os);rw[<- hst,<- hok]at hT;have r:=topRun_mono (N - M) _ _ _ _ (zjn _ _ _ _ hT);rw[Nat.add_sub_cancel' (Nat.le_of_ble_eq_true hM)]at r;have hx1:=congrArg Prod.fst hx;have hx2:=congrArg Prod.snd hx;simp only[Lf]at hx1 hx2;simp only[SharedT.abs,hb]at r hx1 hx2
 have k:topFrom treeTable p w N ⟨boot_heap w.params,Array.mk [],boot_drawn,boot_toks,os⟩=some T.abs:=by
  simp only[topFrom,hs,hz,ha,r];simp only[Option.bind_some,SharedT.abs];rw[hx1]
  rfl
 show((fencedOpening treeTable p w N).bind (topFrom treeTable p w N)).map _=_;rw[hs0];show(topFrom treeTable p w N _).map _=_;rw[k];exact congrArg some hx2
def en(P:Params)(x:String)(k:Nat)(v:Value):DictEntry:=⟨PyData.keyHash P (Str.ofString x),.str (Str.ofString x) k,v⟩
def bt(P:Params):BT:=((boot_heap P).objs.toList.foldl (λ(x:BT×Nat) o=>(x.1.ins x.2 o,x.2+1)) (BT.nil,0)).1
theorem bt_ok(P:Params):absHeap (bt P) 11 (boot_heap P).life=boot_heap P:=by ext
theorem zni(P:Params):(boot_heap P).nsMap mainGlobals "__annotations__"=some (.ref 6):=by ext
theorem ns_ok(P:Params):(boot_heap P).isNs mainGlobals=true:=by ext
theorem sz_ok(P:Params):(boot_heap P).objs.size=11:=by ext
abbrev go(p:Program)(M:Nat)(w:World)(os:OsState):Option SharedT :=
 K6 (Fast.tw10156331382660048174 (Fast.tw11892475500146522536 Fast.tw14364793385576792824) p w) (Fast.tw6613529449190102663 11 (some (.ref 6))) M ⟨bt w.params,11,(boot_heap w.params).life,Array.mk [],boot_drawn,boot_toks,os⟩ (topStub p)
abbrev xt(r:RowW)(q:Program)(s:Shared):Bool:=xlAt q [] s && recOk r.records s
theorem zjc{p q:Program}{r:RowW}{loose:List Str}{α:Type}{Yf:Shared->α}{Ya:World->α}(N M:Nat)
  (e:opening p=plainProg p.main.scope.names) (hN:Nat.ble 600 N=true) (f:∀s,fenceModules? p s=some s) (hM:Nat.ble M N=true)
  (h:∀(w:World) (os:OsState),(go p M w os).map (λs=>Lf p q loose (xt r q) Yf (boot_heap w.params) s.abs)=some (true,openGood q loose,Ya w)):LeftO p q loose (xt r q) Yf Ya N true :=
 zjb (st:=λw=>Fast.tw10156331382660048174 (Fast.tw11892475500146522536 Fast.tw14364793385576792824) p w) (ok:=Fast.tw6613529449190102663 11 (some (.ref 6)))
  (λw=>by rw[Fast.te10156331382660048174,Fast.te11892475500146522536,Fast.te14364793385576792824]) (by rw[Fast.te6613529449190102663]) e hN f hM bt_ok ns_ok sz_ok zni h
theorem zho{l:OpenLaw}(h:Fast.tw9446332074065402090 l=true):l.wellSaid=true:=(congrFun Fast.te9446332074065402090 l).trans h
end Hd
set_option maxHeartbeats 4200000
namespace Zl
open PySem L2 Zw Zx Pu
noncomputable section
open Tk
local macro_rules
  |`(tactic| simp![$as,*])=>`(tactic| simp only[An,P6,AI,AQ,Ct,Dj,Ab,A2,PF,Bw,Aq,PY,PV,EA,Bx,BR,Ip,AA,mC,AE,AD,AF,BB,m1,m2,AR,Dm,BF,Bo,Bi,AM,Ay,EK,AK,AO,BO,Al,g1,g2,AG,DD,BX,Cn,blk,NH,JJ,DX,Fm,NR,NQ,Q6,AH,DG,Bd,Ee,GW,Bp,Ez,Hh,T.isN,T.isB,BP,Ga,J2,MV,yav,JH,Eh,NS,CK,Nr,Je,L6,T.share,Aw,T.sh,Aa,T.flat,ZY,Kn,ZX,yae,ybx,ya6,yc9,List.replicate,yb4,List.nil_append,ydn,List.getElem?_cons_zero,yck,List.getElem?_nil,List.set_cons_zero,List.set_cons_succ,yd5,WZ,WY,WX,WW,WV,WU,WT,WS,WR,WQ,Int.reduceBEq,Nat.reduceBEq,Nat.reduceAdd,Nat.reduceSub,Nat.reduceLT,Nat.reduceLeDiff,if_true,if_false,ite_true,ite_false,reduceIte,ydm,Bool.not_false,Bool.and_true,yca,ycg,ybt,ych,ydb,ycy,ybp,Bool.false_xor,Bool.true_xor,ycn,ycd,decide_true,decide_false,yad,yb3,or_false,or_true,true_or,and_true,true_and,and_self,String.reduceEq,String.reduceBEq,beq_self_eq_true,ne_eq,not_false_eq_true,not_true_eq_false,KS,Wn,FC,Int.reduceLT,Int.reduceAdd,ybi,implies_true,forall_const,Int.reduceEq,Int.reduceNe,K1,Dn,Ax,E7,CF,Ff,Jp,KC,Md,E8,EL,B7,LR,GK,DI,Lq,Gf,He,J0,$as,*])
local macro_rules
  |`(tactic| simp_arith! [$as,*] $[$loc:location]?)=>`(tactic| simp (disch:=first|assumption|decide +kernel) only[AI,AQ,Ct,Dj,Ab,A2,Aq,Bx,Ip,AA,mC,AE,AD,AF,AR,BB,m1,m2,AM,Ay,EK,AK,AO,Al,g1,g2,AG,AH,DG,Bd,yav,T.share,Aw,T.sh,Aa,T.flat,ZY,Kn,ZX,yae,ybx,ya6,yc9,yb4,List.nil_append,ydn,List.getElem?_cons_zero,yck,List.getElem?_nil,List.set_cons_zero,List.set_cons_succ,yd5,WZ,WY,WX,WW,WV,WU,WT,WS,WR,WQ,Nat.reduceAdd,Nat.reduceLT,Nat.reduceLeDiff,if_true,if_false,ite_true,ite_false,reduceIte,ydm,Bool.not_false,Bool.and_true,yca,ycg,ybt,ych,ydb,ycy,ybp,ycn,ycd,or_false,or_true,true_or,and_true,true_and,and_self,ne_eq,not_false_eq_true,not_true_eq_false,KS,Wn,Int.reduceAdd,Int.reduceEq,Int.reduceNe,Ax,$as,*] $[$loc]?)
noncomputable def AV(i:Nat):Stmt:=PySem.Challenge.pw_zonewalk_k84_texts_refused.main.body.getD i (.Pass ⟨0,0,0,0⟩)
def znc(s:Stmt)(j:Nat):Stmt:=match s with
 |.ClassDef _ _ _ body _ _ _ _ _ _ _=>body.getD j (.Pass ⟨0,0,0,0⟩)
 |_=>.Pass ⟨0,0,0,0⟩
def FA(i j:Nat):Stmt:=znc (AV i) j
abbrev Bu:Addr:=254
noncomputable def DB:List Str:=["start","end","guard","noughts","sign"]
abbrev Cc:Addr:=308
def Ds:List Str:=["watch_names","stays","door_list"]
abbrev DO:Addr:=393
def FJ:List Str:=["room","guard"]
abbrev DN:Addr:=433
def FI:List Str:=["room","guard","number"]
abbrev EX:Addr:=473
def Hm:List Str:=["room","number"]
def Q2:T:=(.nd false .rt [(.str "<"),(.str "<="),(.str ">"),(.str ">="),(.str "=")])
def Q3:T:=(.nd false .rt [(.str "<"),(.str "<=")])
def Q4:T:=(.int 7)
def KU:T:=(.int 64)
def KY:T:=(.int 200)
def JE:T:=(.str "0123456789")
def KW:T:=(.int 60)
def JD:T:=(.nd false .rt [(.str "<"),(.str ">"),(.str "=")])
def Hg:T:=(.str ":0")
def R5:List (Addr×Bool):=[(254,true),(308,false),(393,false),(433,false),(473,false)]
def IH:List (Str×Addr):=[("WalkError",31),("NoNumber",44),("BadMachine",56),("TooMany",68),("NoMark",99),("NoRoad",111),("NoRoom",123),("NoText",135),("NoRow",147)]
def ZU:List (Addr×Bool):=[(31,false),(44,true),(56,false),(68,false),(99,false),(111,false),(123,false),(135,false),(147,false)]
def ZW:List (Addr×Bool):=[(31,false),(44,false),(56,true),(68,false),(99,false),(111,false),(123,false),(135,false),(147,false)]
def ZO:List (Addr×Bool):=[(31,false),(44,false),(56,false),(68,true),(99,false),(111,false),(123,false),(135,false),(147,false)]
def ZQ:List (Addr×Bool):=[(31,false),(44,false),(56,false),(68,false),(99,false),(111,false),(123,false),(135,false),(147,false)]
def ZV:List (Addr×Bool):=[(31,false),(44,false),(56,false),(68,false),(99,true),(111,false),(123,false),(135,false),(147,false)]
def ZT:List (Addr×Bool):=[(31,false),(44,false),(56,false),(68,false),(99,false),(111,true),(123,false),(135,false),(147,false)]
def ZS:List (Addr×Bool):=[(31,false),(44,false),(56,false),(68,false),(99,false),(111,false),(123,true),(135,false),(147,false)]
noncomputable def ZP:List (Addr×Bool):=[(31,false),(44,false),(56,false),(68,false),(99,false),(111,false),(123,false),(135,true),(147,false)]
def ZR:List (Addr×Bool):=[(31,false),(44,false),(56,false),(68,false),(99,false),(111,false),(123,false),(135,false),(147,true)]
def ZN:List (Addr×Bool):=[(31,true),(44,true),(56,true),(68,true),(99,true),(111,true),(123,true),(135,true),(147,true)]
abbrev Jn:Stmt:=AV 61
def Wd:AB->Option Out :=
 (AI (AQ (AK (AF (m1 (DI ZP) (AA 0)) (AF (m1 (DI ZW) (AA 0)) (AF (m1 (DI ZO) (AA 0)) (AF (m1 (DI ZV) (AA 0)) AE))))) (AG 1))
 (AI (AQ (m2 AH (AA 1) (AK (AF (m1 (DI ZU) (AA 0)) (AF (m1 (DI ZT) (AA 0)) (AF (m1 (DI ZS) (AA 0)) (AF (m1 (DI ZR) (AA 0)) AE)))))) (AG 1))
 (AI (AQ (m2 AH (AA 1) (AK (AF (m1 (DI ZQ) (AA 0)) AE))) (AG 1))
 (AI (Ab (Bi (BF (m1 (DI ZN) (AA 0))) (m2 CI (m1 BP (BO 1 [] (Gf (AA 1)) (AG 0) (AA 0) (AA 0))) (mC (.int 1)))) (A2 (mC (.str "other"))) Aq)
 (A2 (AM (AK (AF (mC (.str "text")) (AF (mC (.str "bad")) (AF (mC (.str "many")) (AF (mC (.str "")) (AF (mC (.str "")) (AF (mC (.str "")) (AF (mC (.str "")) (AF (mC (.str "")) (AF (mC (.str "")) AE)))))))))) (He (AA 1) true)))))))
def IB:List T->Option Ru:=An 1 2 Wd
abbrev YU:Fn:=⟨1,["_law_e"],IB⟩
abbrev zgp:Gx:=⟨[],[],[],[],false,true,true,none,[],[("NoText",ZP),("BadMachine",ZW),("TooMany",ZO),("NoMark",ZV),("NoNumber",ZU),("NoRoad",ZT),("NoRoom",ZS),("NoRow",ZR),("NoRun",ZQ)],[("ValueError",ZN)],true,[],[],[],[],[]⟩
abbrev Ql:Gm:=⟨["_law_e","_law_some"],(AL Jn).names,[],0,[],["isinstance","len"],[],[],[],false,[],[],[],zgp⟩
theorem zf6:FnScope Ql.N YU.ps (AL Jn):=Ap (by decide +kernel)
theorem zh0:JV 200 Ql (Ah Jn)=some Wd:=by ext
theorem zdh:IB [.obj (.exn 135) []]=some (.ok (.str "text")):=by ext
theorem zex:IB [.obj (.exn 56) []]=some (.ok (.str "bad")):=by ext
theorem zdi:IB [.obj (.exn 68) []]=some (.ok (.str "many")):=by ext
abbrev Ot:Stmt:=AV 60
def QR:AB->Option Out :=
 (AI (Ab (m2 (Bp λi j=>decide (i<j)) (AA 1) (m1 BP (AA 0))) (A2 (AM (AA 0) (AA 1))) Aq)
 (A2 (mC (.int 0))))
def C1:List T->Option Ru:=An 2 2 QR
abbrev Hl:Fn:=⟨1,["_law_script","_law_k"],C1⟩
abbrev YE:Gm:=⟨["_law_script","_law_k"],(AL Ot).names,[],0,[],["len"],[],[],[],false,[],[],[],BW⟩
theorem zcb:FnScope YE.N Hl.ps (AL Ot):=Ap (by decide +kernel)
theorem zco:Aj 200 YE (Ah Ot)=some QR:=by ext
theorem Hv(ns:List Int){k:Int}(h0:0<=k):C1 [BA ns,.int k]=some (.ok (.int (ns.getD k.toNat 0))):=by
 unfold C1 QR
 by_cases h:k<ns.length
 .have e:ns[k.toNat]?=some (ns.getD k.toNat 0):=by
   rw[yaw,ya5 (by omega)]
   rfl
  have ea:Af (ns.map T.int) k=some (.int (ns.getD k.toNat 0)):=D0 h0 (by rw[yaj,e];rfl)
  have el:decide (k<((ns.map T.int).length:Int))=true:=by simpa using h
  simp![BA,OF,Ld,el,ea]
 .have el:decide (k<((ns.map T.int).length:Int))=false:=by simpa using h
  have e:ns.getD k.toNat 0=0:=by
   rw[yaw,ybu (by omega)]
   rfl
  simp![BA,OF,Ld,el,e]
abbrev Ol:Stmt:=AV 63
def LK:AB->Option Out :=
 (AI (AQ (m2 AH (m2 AH (m2 Ee (AA 0) (mC (.int 6720))) (m2 DG (AA 8) (m2 AH (mC (.int 1)) (m2 Bd (AA 0) (mC (.int 25)))))) (m2 DG (AA 6) (m1 JH (m2 BC (AA 8) (AA 4))))) (AG 9))
 (AQ (m2 AH (AA 7) (AM (AA 2) (m2 Bd (AA 9) (mC (.int 26))))) (AG 7)))
def LL:AB->Option Out :=
 (AI (AQ (mC (.str "")) (AG 7))
 (AI (EA (DX (AD (AA 3) AE)) (AG 8) LK)
 (Bx 5 (AA 7))))
def QP:AB->Option Out :=
 (AI (AQ (mC (.str "abcdefghijklmnopqrstuvwxyz")) (AG 2))
 (AI (AQ (m2 AH (mC (.int 1)) (m2 Bd (AA 0) (mC (.int 8)))) (AG 3))
 (AI (AQ (m2 Bd (m2 Bd (m2 Ee (AA 0) (mC (.int 8))) (mC (.int 840))) (AA 3)) (AG 4))
 (AI (Ct 5 (AK AE))
 (AI (EA (DX (AD (AA 1) AE)) (AG 6) LL)
 (A2 (AA 5)))))))
def LA:List T->Option Ru:=An 2 10 QP
abbrev RO:Fn:=⟨1,["_law_cell","_law_many"],LA⟩
abbrev YA:Gm:=⟨["_law_cell","_law_many","_law_letters","_law_size","_law_at","_law_names_here","_law_k","_law_name","_law_j","_law_sign"],(AL Ol).names,[],0,[],["range","int"],[],["_law_names_here"],[],false,[],[],[],BW⟩
theorem zdr:FnScope YA.N RO.ps (AL Ol):=Ap (by decide +kernel)
theorem zeh:Aj 200 YA (Ah Ol)=some QP:=by ext
noncomputable def HH(c:Int)(k j:Nat):Int:=(c.fdiv 6720+(j:Int) * (1+c.fmod 25)+(k:Int) * (if ((j:Int) == ((c.fdiv 8).fmod 840).fmod (1+c.fmod 8))=true then 1 else 0)).fmod 26
def Dz(c:Int)(k j:Nat):Nat:=97+(HH c k j).toNat
def Ey(c:Int)(k n:Nat):Str:=⟨((List.range n).map (Dz c k)).toArray⟩
def E5(c:Int):Nat:=(1+c.fmod 8).toNat
theorem KI(c:Int):1<=E5 c/\E5 c<=8/\(1+c.fmod 8)=(E5 c:Int):=by
 unfold E5;rw[fm (by decide)]
 omega
theorem Ji(c:Int)(k j:Nat):0<=HH c k j/\HH c k j<26:=by
 unfold HH;rw[fm (j:=26) (by decide)]
 omega
theorem abc:(Str.ofString "abcdefghijklmnopqrstuvwxyz").cps.toList=(List.range 26).map (97 + ·):=by decide +kernel
theorem znl{i:Int}(h0:0<=i)(h1:i<26):Af (Str.ofString "abcdefghijklmnopqrstuvwxyz").cps.toList i=some (97+i.toNat):=by
 rw[abc];refine D0 h0 ?_;rw[yaj,yd2 (by omega)]
 rfl
theorem zjx:(Str.ofString "abcdefghijklmnopqrstuvwxyz").length<=100000:=by decide +kernel
theorem zj3(c:Int)(k n:Nat):Ey c k n++⟨#[Dz c k n]⟩=Ey c k (n+1):=by
 show Str.mk (((List.range n).map (Dz c k)).toArray++#[Dz c k n])=Str.mk _;rw[List.range_succ,yal];simp
theorem zj2(c:Int)(k n:Nat):(Ey c k n).length=n:=by
 show((List.range n).map (Dz c k)).toArray.size=n;simp
theorem w7_ok{c:Int}{k i m:Nat}(hi:i<8)(hk:k<30){o x9:Option T}:∃y9,LK [some (.int c),some (.int (m:Int)),some (.str "abcdefghijklmnopqrstuvwxyz"),some (.int (1+c.fmod 8)),some (.int (((c.fdiv 8).fmod 840).fmod (1+c.fmod 8))),o,some (.int k),some (.str (Ey c k i)),some (.int i),x9]
  = some (.nx [some (.int c),some (.int (m:Int)),some (.str "abcdefghijklmnopqrstuvwxyz"),some (.int (1+c.fmod 8)),some (.int (((c.fdiv 8).fmod 840).fmod (1+c.fmod 8))),o,some (.int k),some (.str (Ey c k (i+1))),some (.int i),y9]):=by
 have m1:H9 (i:Int) (1+c.fmod 25)=true:=Pq (P0 (by omega) (by omega))
 have m2:∀x:Int,H9 (k:Int) x=true:=λx=>Pq (P0 (by omega) (by omega))
 have s1:EB 6720=true:=HP (by decide) (by decide)
 have ea:Af (Str.ofString "abcdefghijklmnopqrstuvwxyz").cps.toList ((c.fdiv 6720+(i:Int) * (1+c.fmod 25)+(k:Int) * (if ((i:Int) == ((c.fdiv 8).fmod 840).fmod (1+c.fmod 8))=true then 1 else 0)).fmod 26)=some (Dz c k i):=znl (Ji c k i).1 (Ji c k i).2
 have el:(Ey c k i).length+(Str.mk #[Dz c k i]).length<=100000:=by
  rw[zj2];show i+1<=100000
  omega
 unfold LK;refine⟨some (.int (c.fdiv 6720+(i:Int) * (1+c.fmod 25)+(k:Int) * (if ((i:Int) == ((c.fdiv 8).fmod 840).fmod (1+c.fmod 8))=true then 1 else 0))),?_⟩
 simp![CA,m1,m2,s1,ea,zjx,el,zj3]
theorem w5_ok{c:Int}{k m:Nat}(hk:k<30){l:List T}(hl:l.length<1000){x7 x8 x9:Option T}:∃y7 y8 y9,LL [some (.int c),some (.int (m:Int)),some (.str "abcdefghijklmnopqrstuvwxyz"),some (.int (1+c.fmod 8)),some (.int (((c.fdiv 8).fmod 840).fmod (1+c.fmod 8))),some (.own l),some (.int k),x7,x8,x9]
  = some (.nx [some (.int c),some (.int (m:Int)),some (.str "abcdefghijklmnopqrstuvwxyz"),some (.int (1+c.fmod 8)),some (.int (((c.fdiv 8).fmod 840).fmod (1+c.fmod 8))),some (.own (l++[.str (Ey c k (E5 c))])),some (.int k),y7,y8,y9]):=by
 obtain⟨n1,n8,ne⟩:=KI c
 obtain⟨τ,e,z8,z9,rfl⟩:=Mn (b:=AG 8) (body:=LK) (ts:=mT (E5 c) λi=>.int (i:Int)) (τ:=[some (.int c),some (.int (m:Int)),some (.str "abcdefghijklmnopqrstuvwxyz"),some (.int (1+c.fmod 8)),some (.int (((c.fdiv 8).fmod 840).fmod (1+c.fmod 8))),some (.own l),some (.int k),some (.str ""),x8,x9])
  (λi τ=>∃x8 x9,τ=[some (.int c),some (.int (m:Int)),some (.str "abcdefghijklmnopqrstuvwxyz"),some (.int (1+c.fmod 8)),some (.int (((c.fdiv 8).fmod 840).fmod (1+c.fmod 8))),some (.own l),some (.int k),some (.str (Ey c k i)),x8,x9]) ⟨x8,x9,by rfl⟩ λi t τ h1 h2=>by
   obtain⟨hi,rfl⟩:=Mb h1;obtain⟨x8,x9,rfl⟩:=h2;obtain⟨y9,ew⟩:=w7_ok (c:=c) (k:=k) (i:=i) (m:=m) (by omega) hk (o:=some (.own l)) (x9:=x9)
   exact⟨_,by simp![],_,ew,_,_,rfl⟩
 rw[FC]at e;have ok:GY (1+c.fmod 8)=true:=@decide_eq_true _ (Classical.propDecidable _) ⟨by omega,by omega⟩
 have er:E2 0 (1+c.fmod 8).toNat=mT (E5 c) λi=>.int (i:Int):=Jt
 have ll:l.length<100000:=by omega
 unfold LL;refine⟨some (.str (Ey c k (E5 c))),z8,z9,?_⟩
 simp![ok,er,e,ll]
abbrev CW(c:Int)(k:Nat):Str:=Ey c k (E5 c)
theorem zgd(c:Int){m:Nat}(hm:m<30):LA [.int c,.int (m:Int)]=some (.ok (.own (mT m λk=>.str (CW c k)))):=by
 obtain⟨n1,n8,ne⟩:=KI c
 obtain⟨τ,e,z6,z7,z8,z9,rfl⟩:=Mn (b:=AG 6) (body:=LL) (ts:=mT m λi=>.int (i:Int)) (τ:=[some (.int c),some (.int (m:Int)),some (.str "abcdefghijklmnopqrstuvwxyz"),some (.int (1+c.fmod 8)),some (.int (((c.fdiv 8).fmod 840).fmod (1+c.fmod 8))),some (.own []),none,none,none,none])
  (λi τ=>∃x6 x7 x8 x9,τ=[some (.int c),some (.int (m:Int)),some (.str "abcdefghijklmnopqrstuvwxyz"),some (.int (1+c.fmod 8)),some (.int (((c.fdiv 8).fmod 840).fmod (1+c.fmod 8))),some (.own (mT i λk=>.str (CW c k))),x6,x7,x8,x9]) ⟨_,_,_,_,by rfl⟩ λi t τ h1 h2=>by
   obtain⟨hi,rfl⟩:=Mb h1;obtain⟨x6,x7,x8,x9,rfl⟩:=h2;obtain⟨y7,y8,y9,ew⟩:=w5_ok (c:=c) (k:=i) (m:=m) (by omega) (l:=mT i λk=>.str (CW c k)) (by rw[FC];omega) (x7:=x7) (x8:=x8) (x9:=x9)
   rw[zmb (g:=λk=>.str (CW c k))]at ew
   exact⟨_,by simp![],_,ew,_,_,_,_,rfl⟩
 rw[FC]at e;have ok:GY (m:Int)=true:=@decide_eq_true _ (Classical.propDecidable _) ⟨by omega,by omega⟩
 have er:E2 0 m=mT m λi=>.int (i:Int):=Jt
 have h0:(1+c.fmod 8≠0)=True:=eq_true (by omega)
 have s1:EB 8=true:=HP (by decide) (by decide)
 unfold LA QP
 simp![ok,er,e,h0,s1]
theorem MS(c:Int)(k:Nat):Tx.cs (CW c k)=(List.range (E5 c)).map (Dz c k):=rfl
theorem zm5(c:Int)(k:Nat):∀s∈Tx.cs (CW c k),97<=s/\s<=122:=λs hs=>by
 rw[MS]at hs;obtain⟨j,_,rfl⟩:=yai.mp hs;have:=Ji c k j;unfold Dz
 omega
theorem zj4(c:Int)(k:Nat):(Tx.cs (CW c k)).length<=8:=by
 rw[MS,ya1,List.length_range];exact(KI c).2.1
theorem zm4(c:Int)(k:Nat):1<=(Tx.cs (CW c k)).length:=by
 rw[MS,ya1,List.length_range];exact(KI c).1
theorem zgb{c:Int}{j k:Nat}(hj:j<26)(hk:k<26)(h:CW c j=CW c k):j=k:=by
 obtain⟨n1,n8,ne⟩:=KI c
 have ha:0<=((c.fdiv 8).fmod 840).fmod (1+c.fmod 8)/\((c.fdiv 8).fmod 840).fmod (1+c.fmod 8)<1+c.fmod 8:=by
  rw[fm (j:=1+c.fmod 8) (by omega)]
  exact⟨Int.emod_nonneg _ (by omega),Int.emod_lt_of_pos _ (by omega)⟩
 obtain⟨a,ea⟩:=ydi ha.1;have hn:a<E5 c:=by omega
 have e:Dz c j a=Dz c k a:=by
  have e1:=congrArg (λl:List Nat=>l[a]?) (congrArg Tx.cs h)
  simp only[MS,yaj,yd2 hn]at e1;exact ya9 e1
 have s1:=Ji c j a;have s2:=Ji c k a;unfold Dz at e;have e2:HH c j a=HH c k a:=by omega
 unfold HH at e2;have eb:(((a:Nat):Int) == ((c.fdiv 8).fmod 840).fmod (1+c.fmod 8))=true:=by rw[ea];exact yf3 _
 rw[if_pos eb,fm (j:=26) (by decide),fm (j:=26) (by decide)]at e2
 generalize c.fdiv 6720+((a:Nat):Int) * (1+c.fmod 25)=z at e2
 omega
abbrev O9:Stmt:=AV 48
def M1:AB->Option Out :=
 (Ab (BF (m1 (CK "str") (AA 0))) (BR "NoText" (AD (mC (.str "what is read is a text")) AE)) Aq)
def FR:List T->Option Ru:=An 1 1 M1
abbrev JP:Fn:=⟨1,["thing"],FR⟩
abbrev Xp:Gm:=⟨["thing"],(AL O9).names,[],0,[],["isinstance","str"],["NoText"],[],[],false,[],[],[],BW⟩
theorem zb6:FnScope Xp.N JP.ps (AL O9):=Ap (by decide +kernel)
theorem zbf:Aj 200 Xp (Ah O9)=some M1:=by ext
theorem KJ{x y:Str}(hx:PyData.strOk x=true)(hy:PyData.strOk y=true):CI (.str x) (.str y)=some (.bl (!decide (x=y))):=by
 have e:(x == y)=decide (x=y):=by rw[ybm,yex,yf1]
 unfold CI Gj EN JS;simp only[T.data,T.pln,PyData.canLay0,PyData.depth,PyData.eqv,hx,hy,e];simp
theorem E9{α:Type}{b:T->AB->Option AB}{me:AB->Option Rs}(f g:α->T)(I:AB->Prop):∀(L:List α) (τ:AB),I τ->(∀x∈L,∀τ,I τ->∃τ1,b (f x) τ=some τ1/\me τ1=some (.v (g x) false)/\I τ1)->Bg b (mC (.bl true)) me (L.map f) τ=some (L.map g)
 |[],_,_,_=>rfl
 |x::L,τ,h,hs=>by
  obtain⟨τ1,e1,e2,h1⟩:=hs x (ya3 ..) τ h;have k:=E9 f g I L τ1 h1 λu hu=>hs u (ya0 _ hu)
  have f1:mC (.bl true) τ1=some (.v (.bl true) false):=rfl;rw[yae,yae];unfold Bg;simp only[e1,f1,e2,k]
theorem Dt{α:Type}{p:α->Bool}:∀l:List α,Fw (l.map λk=>.bl (p k))=some (l.map p)
 |[]=>rfl
 |a::l=>by
  show(match Fw (l.map λk=>.bl (p k)) with|some r=>some (p a::r)|none=>none)=_
  rw[Dt l]
  rfl
theorem JX(x:Str):FR [.str x]=some (.ok .non):=by
 unfold FR M1
 simp![]
theorem SY{x:Str}(h:∀c∈Tx.cs x,c<128):PyData.strOk x=true:=by
 unfold PyData.strOk;rw[<- Array.all_toList,yab];intro c hc;have:=h c hc;exact yer (by omega)
theorem sq{f g:AB->Option Out}{τ τ':AB}{r:Option Out}(h:f τ=some (.nx τ'))(h2:g τ'=r):AI f g τ=r:=by
 unfold AI;rw[h];exact h2
theorem Cr{f g:AB->Option Out}{τ τ':AB}(h:f τ=some (.nx τ')):AI f g τ=g τ':=sq h rfl
noncomputable def Jr:Option Out->Option Ru
 |some (.rt t)=>some (.ok t)
 |some (.nx _)=>some (.ok .non)
 |some (.xc c _)=>some (.exc c)
 |_=>none
theorem OC{f g:AB->Option Out}{τ τ':AB}{c:Str}(h:f τ=some (.xc c τ')):AI f g τ=some (.xc c τ'):=by
 unfold AI;rw[h]
def LG(t:T):Prop:=t=.non\/(∃i,t=.int i)\/∃l:List Str,t=.lst (l.map T.str)
theorem ct_no{t:T}(h:LG t):FR [t]=some (.exc "NoText"):=by
 unfold FR M1
 rcases h with rfl|⟨i,rfl⟩|⟨l,rfl⟩
 .simp![]
 .simp![]
 .simp![A8]
abbrev OZ:Stmt:=AV 49
def NJ:AB->Option Rs :=
 (m2 Cm (AA 0) (mC JE))
def KO:AB->Option Out :=
 (AI (Ab (Bi (BF (E8 EL EL (mC (.int 1)) (m1 BP (AA 0)) (mC KW))) (BF (m1 Eh (BO 1 [] (B7 (AA 0)) (AG 0) (mC (.bl true)) NJ)))) (A2 (mC (.bl false))) Aq)
 (A2 (Bi (m2 BC (AA 0) (mC (.str "0"))) (m2 CI (AM (AA 0) (mC (.int 0))) (mC (.str "0"))))))
def J3:List T->Option Ru:=An 1 1 KO
abbrev RC:Fn:=⟨1,["text"],J3⟩
abbrev za5:Gx:=⟨[("MOST_FIGURES",KW),("FIGURES",JE)],[],[],[],false,true,true,none,[],[],[],true,[],[],[],[],[]⟩
abbrev Xi:Gm:=⟨["text"],(AL OZ).names,[],0,[],["len","all"],[],[],[],false,[],[],[],za5⟩
theorem za4:FnScope Xi.N RC.ps (AL OZ):=Ap (by decide +kernel)
theorem za6:Aj 200 Xi (Ah OZ)=some KO:=by ext
theorem Y7{l:Str}(h:(Tx.cs l).all Tx.isDg=true):PyData.strOk l=true:=by
 unfold PyData.strOk;rw[<- Array.all_toList,yab];intro c hc;have:=yf5 (yab.mp h c hc);exact yer (by omega)
theorem fig(c:Nat):Cm (.str ⟨#[c]⟩) JE=some (.bl (Tx.isDg c)):=by
 unfold JE Cm Q9;simp only;rw[StrLaws.found_one];have e:(Str.ofString "0123456789").cps.toList=[48,49,50,51,52,53,54,55,56,57]:=by decide +kernel
 rw[e];unfold Tx.isDg
 congr 2
 rw[yfc];simp only[yad,yb3,yf6]
 omega
theorem zn2:JE.share=JE:=rfl
theorem MP:Tx.cs (Str.ofString "0")=[48]:=by decide +kernel
theorem Di{α:Type}(p:α->Bool):∀l:List α,Aw (l.map λc=>T.bl (p c))=l.map λc=>T.bl (p c)
 |[]=>rfl
 |a::l=>by
  show T.bl (p a)::Aw (l.map λc=>T.bl (p c))=_
  rw[Di p l]
  rfl
theorem WG{x:Str}(hx:x.length<=AY):J3 [.str x]=some (.ok (.bl (Tx.isNum (Tx.cs x)))):=by
 have lc:=E9 (b:=AG 0) (me:=NJ) (λc=>T.str ⟨#[c]⟩) (λc=>T.bl (Tx.isDg c)) (λτ=>∃o,τ=[o]) (Tx.cs x) [none] ⟨none,rfl⟩ λc _ τ hI=>by
  obtain⟨o,rfl⟩:=hI;exact⟨[some (.str ⟨#[c]⟩)],rfl,by unfold NJ;simp![zn2,fig],_,rfl⟩
 have lc':Bg (AG 0) (mC (.bl true)) NJ (CP x) [none]=some ((Tx.cs x).map λc=>T.bl (Tx.isDg c)):=lc
 have sl:(CP x).length<=AY:=by unfold CP;rw[ya1];exact hx
 have el:((x.length:Nat):Int)=((Tx.cs x).length:Nat):=rfl;have al:((Tx.cs x).map λc=>Tx.isDg c).all id=(Tx.cs x).all Tx.isDg:=by rw[yby];rfl
 by_cases h1:1<=(Tx.cs x).length/\(Tx.cs x).length<=60
 .have d1:decide ((1:Int)<=((x.length:Nat):Int))=true:=yer (by rw[el];omega)
  have d2:decide (((x.length:Nat):Int)<=60)=true:=yer (by rw[el];omega)
  by_cases h2:(Tx.cs x).all Tx.isDg=true
  .have s1:=Y7 h2
   obtain⟨c,r,hc⟩:∃c r,Tx.cs x=c::r:=by
    cases h:Tx.cs x with
    |nil=>rw[h]at h1;exact absurd h1.1 (by decide)
    |cons c r=>exact⟨c,r,rfl⟩
   have a0:Af x.cps.toList 0=some c:=by rw[show x.cps.toList=c::r from hc];exact D0 (by decide) rfl
   have s2:PyData.strOk ⟨#[c]⟩=true:=Y7 (by rw[hc,yd0,ya2]at h2;show [c].all _=true;rw[yd0,h2.1];rfl)
   have s0:PyData.strOk (Str.ofString "0")=true:=by decide +kernel
   have q1:decide (x=Str.ofString "0")=decide (Tx.cs x=[48]):=by
    rw[yfc];exact⟨λh=>by rw[h,MP],λh=>Tx.cs_ext (by rw[h,MP])⟩
   have q2:decide ((⟨#[c]⟩:Str)=Str.ofString "0")=decide (c=48):=by
    rw[yfc];exact⟨λh=>(yb8 ((congrArg Tx.cs h).trans MP:[c]=[48])).1,λh=>Tx.cs_ext (by rw[MP,h])⟩
   have n1:Tx.isNum (Tx.cs x)=(decide (Tx.cs x=[48]) || !decide (c=48)):=by
    unfold Tx.isNum;rw[yer h1,h2,hc];simp
   unfold J3 KO KW;cases hd:decide (Tx.cs x=[48])
   .simp![lc',sl,Di,hx,d1,d2,Dt,al,h2,RW s1 s0,KJ s2 s0,a0,q1,q2,n1,hd]
   .simp![lc',sl,Di,hx,d1,d2,Dt,al,h2,RW s1 s0,KJ s2 s0,a0,q1,q2,n1,hd]
  .have n1:Tx.isNum (Tx.cs x)=false:=by
    unfold Tx.isNum;rw[yar.mpr h2,ycg,ybt]
   rw[ydq]at h2;unfold J3 KO KW
   simp![lc',sl,Di,hx,d1,d2,Dt,al,h2,n1]
 .rw[Tx.not_num_long h1];unfold J3 KO KW
  by_cases h2:1<=(Tx.cs x).length
  .have d1:decide ((1:Int)<=((x.length:Nat):Int))=true:=yer (by rw[el];omega)
   have d2:decide (((x.length:Nat):Int)<=60)=false:=yec (by rw[el];omega)
   simp![hx,d1,d2]
  .have d1:decide ((1:Int)<=((x.length:Nat):Int))=false:=yec (by rw[el];omega)
   simp![hx,d1]
abbrev OL:Stmt:=AV 50
def MW:AB->Option Out :=
 (AI (Ab (BF (AR J3 (AD (AA 0) AE))) (BR "NoText" (AD (mC (.str "a number is written by one to sixty figures, with no nought ahead")) AE)) Aq)
 (A2 (m1 JH (AA 0))))
def Dd:List T->Option Ru:=An 1 1 MW
abbrev JO:Fn:=⟨2,["text"],Dd⟩
abbrev X5:Gm:=⟨["text"],(AL OL).names,[],1,[("is_number_text",RC)],["int"],["NoText"],[],[],false,[],[],[],BW⟩
theorem zaq:FnScope X5.N JO.ps (AL OL):=Ap (by decide +kernel)
theorem zay:Aj 200 X5 (Ah OL)=some MW:=by ext
theorem UM{x:Str}(h:Tx.isNum (Tx.cs x)=true):Dd [.str x]=some (.ok (.int ((NumText.digitsVal (Tx.cs x):Nat):Int))):=by
 have hl:(Tx.cs x).length<=60:=(Tx.num_all h).1.2;have hx:x.length<=AY:=by unfold AY;rw[Tx.cs_len];omega
 have h6:x.length<=640:=by rw[Tx.cs_len];omega
 have e:=WG hx;rw[h]at e;unfold Dd MW
 simp![e,Tx.num_text h,h6]
theorem UO{x:Str}(hx:x.length<=AY)(h:Tx.isNum (Tx.cs x)=false):Dd [.str x]=some (.exc "NoText"):=by
 have e:=WG hx;rw[h]at e;unfold Dd MW
 simp![e]
theorem Ig{w:Tk.W}(h:w.length<=50000):Dd [.str (Tk.mk w)]=if Tx.isNum w then some (.ok (.int ((NumText.digitsVal w:Nat):Int))) else some (.exc "NoText"):=by
 cases hn:Tx.isNum w
 .exact UO (x:=Tk.mk w) (by have:(Tk.mk w).length=w.length:=rfl;unfold AY;omega) hn
 .exact UM (x:=Tk.mk w) hn
abbrev OO:Stmt:=AV 52
def K3:AB->Option Rs :=
 (m2 Cm (AA 1) (mC JD))
def Kj:AB->Option Rs :=
 (AA 0)
def MY:AB->Option Out :=
 (AI (AQ (BO 2 [] (Gg (AD (AA 0) AE)) (Cn 2 (BX (AG 0) (BX (AG 1) DD))) K3 Kj) (AG 1))
 (AI (Ab (m2 BC (m1 BP (AA 1)) (mC (.int 0))) (BR "NoText" (AD (mC (.str "a look has a word in it")) AE)) Aq)
 (AI (AQ (AM (AA 1) (mC (.int 0))) (AG 2))
 (AI (AQ (m2 AH (AA 2) (mC (.int 1))) (AG 3))
 (AI (Ab (Bo (m2 CI (AM (AA 0) (AA 2)) (mC (.str "="))) (Hc (Ax (Ay (AA 0) (some (AA 3)) none) (Au (AA 0) (some (AA 3)) none)) (mC (.str "=")))) (Jq 3 (mC (.int 1))) Aq)
 (A2 (AO (AD (Ax (Ay (AA 0) none (some (AA 2))) (Au (AA 0) none (some (AA 2)))) (AD (Ax (Ay (AA 0) (some (AA 2)) (some (AA 3))) (Au (AA 0) (some (AA 2)) (some (AA 3)))) (AD (AR Dd (AD (Ax (Ay (AA 0) (some (AA 3)) none) (Au (AA 0) (some (AA 3)) none)) AE)) AE))))))))))
def NX:List T->Option Ru:=An 1 4 MY
abbrev Mq:Fn:=⟨3,["text"],NX⟩
abbrev zbu:Gx:=⟨[("LOOK_SIGNS",JD)],[],[],[],false,true,true,none,[],[],[],true,[],[],[],[],[]⟩
abbrev X8:Gm:=⟨["text","places","at","end"],(AL OO).names,[],2,[("read_number",JO)],["enumerate","len"],["NoText"],[],[],false,[],[],[],zbu⟩
theorem zbm:FnScope X8.N Mq.ps (AL OO):=Ap (by decide +kernel)
theorem zby:Aj 200 X8 (Ah OO)=some MY:=by ext
theorem zmg{c:Nat}(h:c<128):Cm (.str ⟨#[c]⟩) JD=some (.bl (CM c)):=by
 have e:JD=.nd false .rt ([Str.ofString "<",Str.ofString ">",Str.ofString "="].map T.str):=rfl
 have t:NT [Str.ofString "<",Str.ofString ">",Str.ofString "="]:=λy hy=>by
  simp only[yad,yb3,yf6]at hy
  rcases hy with rfl|rfl|rfl<;>decide +kernel
 rw[e,XX t (SY λd hd=>by rw[ya7.mp (show d∈[c] from hd)];exact h)]
 congr 2
 unfold CM;rw[yfc];have e1:Str.ofString "<"=(⟨#[60]⟩:Str):=Tx.cs_ext (by decide +kernel)
 have e2:Str.ofString ">"=(⟨#[62]⟩:Str):=Tx.cs_ext (by decide +kernel)
 have e3:Str.ofString "="=(⟨#[61]⟩:Str):=Tx.cs_ext (by decide +kernel)
 rw[e1,e2,e3];simp only[yad,yb3,yf6];have q:∀d:Nat,(⟨#[c]⟩:Str)=⟨#[d]⟩ ↔ c=d:=λd=>⟨λh=>(yb8 (congrArg Tx.cs h:[c]=[d])).1,λh=>by rw[h]⟩
 rw[q,q,q]
theorem zme:JD.share=JD:=rfl
def CU:Nat->List Nat->List T
 |_,[]=>[]
 |k,c::r=>if CM c then .int (k:Int)::CU (k+1) r else CU (k+1) r
theorem Ws:∀(l:List Nat) (k:Nat) (τ:AB),(∃a b,τ=[a,b])->(∀c∈l,c<128)->Bg (Cn 2 (BX (AG 0) (BX (AG 1) DD))) K3 Kj (DC k (l.map λc=>T.str ⟨#[c]⟩)) τ=some (CU k l)
 |[],k,τ,_,_=>rfl
 |c::r,k,τ,⟨a,b,e⟩,h=>by
  subst e;have ih:=Ws r (k+1) [some (.int (k:Int)),some (.str ⟨#[c]⟩)] ⟨_,_,rfl⟩ λd hd=>h d (ya0 _ hd)
  have e1:Cn 2 (BX (AG 0) (BX (AG 1) DD)) (T.tup [.int (k:Int),.str ⟨#[c]⟩]) [a,b]=some [some (.int (k:Int)),some (.str ⟨#[c]⟩)]:=by simp![]
  have e2:K3 [some (.int (k:Int)),some (.str ⟨#[c]⟩)]=some (.v (.bl (CM c)) false):=by
   unfold K3
   simp![zme,zmg (h c (ya3 ..))]
  have e3:Kj [some (.int (k:Int)),some (.str ⟨#[c]⟩)]=some (.v (.int (k:Int)) false):=by
   unfold Kj
   simp![]
  rw[yae];unfold DC CU Bg;cases hc:CM c
  .rw[hc]at e2;simp only[e1,e2,ih]
   rfl
  .rw[hc]at e2;simp only[e1,e2,e3,ih]
   rfl
theorem Up:∀(l:List Nat) (j:Nat),Aa (CU j l)=true
 |[],_=>rfl
 |a::r,j=>by
  have ih:=Up r (j+1);unfold CU;split
  .show(true && Aa (CU (j+1) r))=true;rw[ih]
   rfl
  .exact ih
theorem Uq:∀(l:List Nat) (j:Nat),(∀d∈l,CM d=false)->CU j l=[]
 |[],_,_=>rfl
 |a::r,j,h=>by
  unfold CU;rw[h a (ya3 ..),if_neg Bool.noConfusion];exact Uq r _ λd hd=>h d (ya0 _ hd)
theorem Ur{c:Nat}{u:List Nat}(hc:CM c=true):∀(w:List Nat) (k:Nat),(∀d∈w,CM d=false)->∃r,CU k (w++c::u)=.int ((k+w.length:Nat):Int)::r/\r.length<=u.length
 |[],k,_=>⟨CU (k+1) u,by
   show(if CM c then T.int (k:Int)::CU (k+1) u else CU (k+1) u)=_
   rw[if_pos hc]
   rfl,by
   have key:∀(l:List Nat) (k:Nat),(CU k l).length<=l.length:=by
    intro l
    induction l with
    |nil=>intro k;exact yaf _
    |cons a r ih =>
     intro k;have:=ih (k+1);unfold CU;split
     .rw[ya6,ya6];omega
     .rw[ya6];omega
   exact key u _⟩
 |d::w,k,h=>by
  obtain⟨r,e,hr⟩:=Ur (u:=u) hc w (k+1) λx hx=>h x (ya0 _ hx)
  refine⟨r,?_,hr⟩;show CU k (d::(w++c::u))=_;unfold CU;rw[if_neg (by rw[h d (ya3 ..)];exact Bool.noConfusion),e,ya6]
  congr 3
  omega
theorem Y2:Str.ofString "="=(⟨#[61]⟩:Str):=Tx.cs_ext (by decide +kernel)
theorem zn3:PyData.strOk (Str.ofString "=")=true:=by decide +kernel
abbrev Ar(k:BS):T:=.tup [.str (mk k.1),.str (mk k.2.1),.int (k.2.2:Int)]
def CT{α:Type}(f:α->T)(o:Option α):Option Ru:=match o with
 |some a=>some (.ok (f a))
 |none=>some (.exc "NoText")
theorem UK{w:W}(h:Ok w):NX [.str (mk w)]=CT Ar (Ck w):=by
 have hxl:(mk w).length<=AY:=by have:(mk w).length=w.length:=rfl;have:=h.1;unfold AY;omega
 have le:(DC 0 (CP (mk w))).length<=AY:=by
  rw[RY];unfold CP;rw[ya1];exact hxl
 have lc:Bg (Cn 2 (BX (AG 0) (BX (AG 1) DD))) K3 Kj (DC 0 (CP (mk w))) [none,none]=some (CU 0 w):=Ws w 0 [none,none] ⟨_,_,rfl⟩ h.2;have hsh:=Up w 0;have hsr:=AW _ hsh;show Jr (MY [some (.str (mk w)),none,none,none])=_;unfold MY;rw[Cr (τ':=[some (.str (mk w)),some (.lst (CU 0 w)),none,none]) (by simp![Gg,lc,le,hsr])]
 unfold Ck;cases hw:Cb w with
 |none =>
  rw[Uq w 0 (Yp hw)]
  simp![CA,show((0:Int) == 0)=true from rfl]
  rfl
 |some p =>
  obtain⟨a,c,r⟩:=p;obtain⟨ew,hlk,ha⟩:=Rc hw;obtain⟨ps,ep,hps⟩:=Ur (u:=r) hlk a 0 ha;rw[<- ew,Nat.zero_add]at ep;rw[ep]at hsh hsr ⊢
  have nb:((((ps.length+1:Nat):Int)) == 0)=false:=by
   rw[yfd]
   omega
  have a0:Af (T.int (a.length:Int)::ps) 0=some (.int (a.length:Int)):=D0 (by decide) rfl
  have ll:(T.int (a.length:Int)::ps).length=ps.length+1:=rfl;generalize hP:T.int (a.length:Int)::ps=P at *;have i1:(a.length:Int)+1=((a.length+1:Nat):Int):=rfl;rw[Cr (τ':=[some (.str (mk w)),some (.lst P),none,none]) (by simp![hsr,hsh,CA,ll,nb]),Cr (τ':=[some (.str (mk w)),some (.lst P),some (.int (a.length:Int)),none]) (by simp![hsr,hsh,a0]),Cr (τ':=[some (.str (mk w)),some (.lst P),some (.int (a.length:Int)),some (.int ((a.length+1:Nat):Int))]) (by simp![i1])]
  have aw:Af (mk w).cps.toList (a.length:Int)=some c:=by
   refine D0 (yc8 _) ?_;show w[(a.length:Int).toNat]?=some c;rw[ybi,ew,yb0 (yaf _),Nat.sub_self]
   rfl
  have hc:c<128:=h.2 c (by rw[ew];exact yak _ (ya3 ..))
  have cok:PyData.strOk ⟨#[c]⟩=true:=SY λd hd=>by rw[ya7.mp (show d∈[c] from hd)];omega
  have nec:=KJ cok zn3
  have dec:decide ((⟨#[c]⟩:Str)=Str.ofString "=")=decide (c=61):=by
   rw[yfc,Y2];exact⟨λh=>(yb8 (congrArg Tx.cs h:[c]=[61])).1,λh=>by rw[h]⟩
  rw[dec]at nec;have cm:Tx.cs (mk w)=a++c::r:=ew;have wl:a.length+1<=(Tx.cs (mk w)).length:=by rw[cm,yag,ya6];omega
  have t1:Txt.slice (mk w) none (some (a.length:Int))=mk a:=Tx.cs_ext (by rw[Tx.sl_to (by omega),cm,List.take_left' rfl];rfl)
  have f1:Txt.slice (mk w) (some ((a.length+1:Nat):Int)) none=mk r:=Tx.cs_ext (by
   rw[Tx.sl_from wl,cm,<- List.drop_drop,yd8 rfl]
   rfl)
  have st:Txt.startswith (mk r) (Str.ofString "=")=decide (r.head?=some 61):=by
   rw[Y2,Tx.stw_one]
   rfl
  have sr:Ok r:=h.sub (by rw[ew];exact(List.sublist_cons_self c r).trans (List.sublist_append_right a (c::r)))
  have Al:∀(o n:W) (k:Nat),Txt.slice (mk w) (some (a.length:Int)) (some (k:Int))=mk o->Txt.slice (mk w) (some (k:Int)) none=mk n->n.length<=50000->Jr (A2 (AO (AD (Ax (Ay (AA 0) none (some (AA 2))) (Au (AA 0) none (some (AA 2)))) (AD (Ax (Ay (AA 0) (some (AA 2)) (some (AA 3))) (Au (AA 0) (some (AA 2)) (some (AA 3)))) (AD (AR Dd (AD (Ax (Ay (AA 0) (some (AA 3)) none) (Au (AA 0) (some (AA 3)) none)) AE)) AE)))) [some (.str (mk w)),some (.lst P),some (.int (a.length:Int)),some (.int (k:Int))])=CT Ar (if Tx.isNum n then some (a,o,NumText.digitsVal n) else none):=λo n k m1 f2 hn=>by
   have rdn:=Ig hn;cases hn:Tx.isNum n
   .rw[hn]at rdn
    simp![Au,hxl,t1,m1,f2,rdn]
    rfl
   .rw[hn]at rdn
    simp![Au,hxl,t1,m1,f2,rdn]
    rfl
  simp only
  by_cases h2:c≠61/\r.head?=some 61
  .obtain⟨n,rfl⟩:∃n,r=61::n:=by
    cases r with
    |nil=>cases h2.2
    |cons d n=>exact⟨n,by rw[ya9 h2.2]⟩
   have eo:GX c (61::n)=([c,61],n):=if_pos h2;rw[eo];rw[yec h2.1]at nec;rw[yer h2.2]at st;have wl2:a.length+2<=(Tx.cs (mk w)).length:=by rw[cm,yag,ya6,ya6];omega
   have i2:((a.length+1:Nat):Int)+1=((a.length+2:Nat):Int):=rfl;rw[Cr (τ':=[some (.str (mk w)),some (.lst P),some (.int (a.length:Int)),some (.int ((a.length+2:Nat):Int))]) (by simp![aw,hxl,nec,Hc,Au,f1,st,Jq,i2])]
   exact Al [c,61] n (a.length+2) (Tx.cs_ext (by
    rw[Tx.sl_mid (ydp _ _) wl2,cm,yd8 rfl,Nat.add_sub_cancel_left]
    rfl)) (Tx.cs_ext (by
    rw[Tx.sl_from wl2,cm,<- List.drop_drop,yd8 rfl]
    rfl)) (sr.sub (List.sublist_cons_self _ _)).1
  .have eo:GX c r=([c],r):=if_neg h2
   rw[eo,Cr (τ':=[some (.str (mk w)),some (.lst P),some (.int (a.length:Int)),some (.int ((a.length+1:Nat):Int))]) (by
    by_cases hd:c=61
    .rw[yer hd]at nec
     simp![aw,hxl,nec]
    .rw[yec hd]at nec;rw[yec λz=>h2 ⟨hd,z⟩]at st
     simp![aw,hxl,nec,Hc,Au,f1,st])]
   exact Al [c] r (a.length+1) (Tx.cs_ext (by
    rw[Tx.sl_mid (ydp _ 1) wl,cm,yd8 rfl,Nat.add_sub_cancel_left]
    rfl)) f1 sr.1
abbrev ON:Stmt:=AV 53
def Rz:AB->Option Rs :=
 (AR NX (AD (AA 0) AE))
def MX:AB->Option Out :=
 (A2 (BO 1 [] (B7 (AA 0)) (AG 0) (mC (.bl true)) Rz))
def Gu:List T->Option Ru:=An 1 1 MX
abbrev Mp:Fn:=⟨4,["words"],Gu⟩
abbrev X7:Gm:=⟨["words"],(AL ON).names,[],3,[("read_look",Mq)],[],[],[],[],false,[],[],[],BW⟩
theorem zb4:FnScope X7.N Mp.ps (AL ON):=Ap (by decide +kernel)
theorem zbd:Aj 200 X7 (Ah ON)=some MX:=by ext
theorem QY{α:Type}{b:T->AB->Option AB}{me:AB->Option Rs}{c:Str}(f:α->T)(g:α->Option T)(I:AB->Prop):∀(L:List α) (τ:AB),I τ->(∀x∈L,∀τ,I τ->∃τ1,b (f x) τ=some τ1/\I τ1/\me τ1=(match g x with|some t=>some (.v t false)|none=>some (.x c))) ->
  (∃l,L.map g=l.map some/\Bg b (mC (.bl true)) me (L.map f) τ=some l)\/((∃x∈L,g x=none)/\Bg b (mC (.bl true)) me (L.map f) τ=none/\Ea b (mC (.bl true)) me (L.map f) τ=some c)
 |[],τ,_,_=>.inl ⟨[],rfl,rfl⟩
 |x::L,τ,h,hs=>by
  obtain⟨τ1,e1,h1,e2⟩:=hs x (ya3 ..) τ h;have k:=QY f g I L τ1 h1 λu hu=>hs u (ya0 _ hu)
  have f1:mC (.bl true) τ1=some (.v (.bl true) false):=rfl;rw[yae,yae];unfold Bg Ea;cases hg:g x with
  |none =>
   rw[hg]at e2;exact .inr ⟨⟨x,ya3 ..,hg⟩,by simp only[e1,f1,e2],by simp only[e1,f1,e2]⟩
  |some t =>
   rw[hg]at e2
   rcases k with ⟨l,k1,k2⟩|⟨⟨y,hy,hgy⟩,k2,k3⟩
   .exact .inl ⟨t::l,by rw[k1];rfl,by simp only[e1,f1,e2,k2]⟩
   .exact .inr ⟨⟨y,ya0 _ hy,hgy⟩,by simp only[e1,f1,e2,k2],by simp only[e1,f1,e2,k3]⟩
abbrev AN(ws:List W):List T:=(ws.map mk).map T.str
theorem FZ(ws:List W):AN ws=ws.map λw=>T.str (mk w):=yax
theorem Mf:∀{ws:List W},(∀l:List T,ws.map (λw=>(Ck w).map Ar)=l.map some->Bs ws=none->False)/\(∀l,Bs ws=some l->ws.map (λw=>(Ck w).map Ar)=(l.map Ar).map some)
 |[]=>⟨λl _ h=>(by cases h),λl h=>(by cases h;rfl)⟩
 |w::ws=>by
  obtain⟨i1,i2⟩:=Mf (ws:=ws);unfold Bs;constructor
  .intro l hl h;cases l with
   |nil=>cases hl
   |cons t l =>
    obtain⟨h1,h2⟩:=yb8 hl;cases e:Ck w with
    |none =>
     have h1:(Ck w).map Ar=some t:=h1;rw[e]at h1;cases h1
    |some k =>
     rw[e]at h;cases e2:Bs ws with
     |none=>exact i1 l h2 e2
     |some m=>rw[e2]at h;cases h
  .intro l h;cases e:Ck w with
   |none=>rw[e]at h;cases h
   |some k =>
    rw[e]at h;cases e2:Bs ws with
    |none=>rw[e2]at h;cases h
    |some m =>
     rw[e2]at h;cases h;rw[yae,i2 m e2,e]
     rfl
theorem Wa{α:Type}:∀{l m:List α},l.map some=m.map some->l=m
 |[],[],_=>rfl
 |[],_::_,h=>by cases h
 |_::_,[],h=>by cases h
 |a::l,b::m,h=>by
  obtain⟨h1,h2⟩:=yb8 h;rw[ya9 h1,Wa h2]
theorem DH(l:List BS):Aa (l.map Ar)=true:=by
 rw[Cd,yab];intro t ht;obtain⟨k,_,rfl⟩:=yai.mp ht
 rfl
theorem Pb{ws:List W}(h:∀w∈ws,Ok w)(hl:ws.length<=50001):Gu [.lst (AN ws)]=CT (λl=>.own (l.map Ar)) (Bs ws):=by
 have lc:=QY (b:=AG 0) (me:=Rz) (c:="NoText") (λw=>T.str (mk w)) (λw=>(Ck w).map Ar) (λτ=>∃a,τ=[a]) ws [none] ⟨none,rfl⟩ λw hw τ hI=>by
  obtain⟨a,rfl⟩:=hI;refine⟨[some (.str (mk w))],rfl,⟨_,rfl⟩,?_⟩;have e:=UK (h w hw);unfold Rz;cases hk:Ck w with
  |none =>
   rw[hk]at e;unfold CT at e
   simp![e,Option.map_none]
  |some k =>
   rw[hk]at e;unfold CT at e
   simp![e,yav]
 rw[<- FZ]at lc;have ll:(AN ws).length<=AY:=by rw[ya1,ya1];unfold AY;omega
 rcases lc with ⟨l,k1,k2⟩|⟨⟨y,hy,hgy⟩,k2,k3⟩
 .cases e:Bs ws with
  |none=>exact(Mf.1 l k1 e).elim
  |some m =>
   have em:=Wa (k1.symm.trans (Mf.2 m e));subst em;unfold Gu MX CT
   simp![A7,A8,ll,k2]
 .cases e:Bs ws with
  |none =>
   unfold Gu MX CT
   simp![A7,A8,ll,k2,k3]
  |some m =>
   have e3:=Mf.2 m e;have:(none:Option T)∈(m.map Ar).map some:=by rw[<- e3];exact yai.mpr ⟨y,hy,hgy⟩
   obtain⟨z,_,hz⟩:=yai.mp this;cases hz
abbrev OS:Stmt:=AV 30
def Pt:AB->Option Out :=
 (A2 (Dm (m1 (CK "list") (AA 0)) (m1 Ga (AA 0)) (AA 0)))
def Hz:List T->Option Ru:=An 1 1 Pt
abbrev K7:Fn:=⟨1,["thing"],Hz⟩
abbrev Xc:Gm:=⟨["thing"],(AL OS).names,[],0,[],["isinstance","list"],[],[],[],false,[],[],[],BW⟩
theorem zc7:FnScope Xc.N K7.ps (AL OS):=Ap (by decide +kernel)
theorem zck:Aj 200 Xc (Ah OS)=some Pt:=by ext
theorem MN(l:List T)(h:Aa l=true):Hz [.lst l]=some (.ok (.own l)):=by
 unfold Hz Pt
 simp![h,AW _ h]
abbrev OW:Stmt:=AV 25
def Pz:AB->Option Out :=
 (A2 (E8 EL EL (mC (.str "a")) (AA 0) (mC (.str "z"))))
def Ks:List T->Option Ru:=An 1 1 Pz
abbrev Ms:Fn:=⟨1,["sign"],Ks⟩
abbrev Xf:Gm:=⟨["sign"],(AL OW).names,[],0,[],[],[],[],[],false,[],[],[],BW⟩
theorem za2:FnScope Xf.N Ms.ps (AL OW):=Ap (by decide +kernel)
theorem za3:Aj 200 Xf (Ah OW)=some Pz:=by ext
theorem Ti(c:Nat):Ks [.str ⟨#[c]⟩]=some (.ok (.bl (DA c))):=by
 have a1:((Str.ofString "a").cps.toList)=[97]:=by decide +kernel
 have a2:((Str.ofString "z").cps.toList)=[122]:=by decide +kernel
 have one:∀a b:Nat,([a] < [b]) ↔ a<b:=λa b=>by
  rw[List.cons_lt_cons_iff];exact⟨λh=>h.elim id λz=>absurd z.2 (List.not_lt_nil _),.inl⟩
 have b1:@decide ((#[c]:Array Nat).toList<(Str.ofString "a").cps.toList) (Classical.propDecidable _)=decide (c<97):=by
  rw[yfc,a1];exact one c 97
 have b2:@decide ((Str.ofString "z").cps.toList<(#[c]:Array Nat).toList) (Classical.propDecidable _)=decide (122<c):=by
  rw[yfc,a2];exact one 122 c
 unfold Ks Pz DA
 by_cases h1:c<97
 .rw[yer h1]at b1;rw[show decide (97<=c/\c<=122)=false from yec (by omega)]
  simp![b1]
 .rw[yec h1]at b1;rw[show decide (97<=c/\c<=122)=!decide (122<c) by rw[<- decide_not,yfc];omega]
  simp![b1,b2]
abbrev O3:Stmt:=AV 26
def SD:AB->Option Rs :=
 (AR Ks (AD (AA 0) AE))
def QC:AB->Option Out :=
 (A2 (Bo (E8 EL EL (mC (.int 1)) (m1 BP (AA 0)) (mC (.int 8))) (m1 Eh (BO 1 [] (B7 (AA 0)) (AG 0) (mC (.bl true)) SD))))
def Ku:List T->Option Ru:=An 1 1 QC
abbrev Mt:Fn:=⟨2,["text"],Ku⟩
abbrev Xk:Gm:=⟨["text"],(AL O3).names,[],1,[("is_small_letter",Ms)],["len","all"],[],[],[],false,[],[],[],BW⟩
theorem zcu:FnScope Xk.N Mt.ps (AL O3):=Ap (by decide +kernel)
theorem zdc:Aj 200 Xk (Ah O3)=some QC:=by ext
theorem Fi{w:W}(h:w.length<=50000):(mk w).length<=100000:=by
 have:(mk w).length=w.length:=rfl
 omega
theorem Fx{α:Type}(p:α->Bool)(l:List α):((l.map p).all id)=l.all p:=by rw[yby];rfl
theorem Wq{me:AB->Option Rs}{p:Nat->Bool}(w:W)(h:∀c∈w,me [some (.str ⟨#[c]⟩)]=some (.v (.bl (p c)) false)):Bg (AG 0) (mC (.bl true)) me (CP (mk w)) [none]=some (w.map λc=>T.bl (p c)) :=
 E9 (b:=AG 0) (me:=me) (λc=>T.str ⟨#[c]⟩) (λc=>T.bl (p c)) (λτ=>∃o,τ=[o]) w [none] ⟨none,rfl⟩ λc hc τ hI=>by
  obtain⟨o,rfl⟩:=hI;exact⟨[some (.str ⟨#[c]⟩)],rfl,h c hc,_,rfl⟩
theorem To{w:W}(h:w.length<=50000):(CP (mk w)).length<=100000:=by
 unfold CP;rw[ya1];exact Fi h
theorem WO{w:W}(h:w.length<=50000):Ku [.str (mk w)]=some (.ok (.bl (EJ w))):=by
 have lc:=Wq (me:=SD) (p:=DA) w λc _=>by
  unfold SD
  simp![Ti]
 have el:((mk w).length:Int)=(w.length:Int):=rfl;have sl:=To h;have ll:=Fi h;unfold Ku QC EJ
 by_cases h1:1<=w.length
 .have d1:decide ((1:Int)<=((mk w).length:Int))=true:=yer (by omega)
  by_cases h2:w.length<=8
  .have d2:decide (((mk w).length:Int)<=8)=true:=yer (by omega)
   rw[yer (show 1<=w.length/\w.length<=8 from⟨h1,h2⟩)]
   simp![lc,sl,ll,d1,d2,Di,Dt,Fx]
  .have d2:decide (((mk w).length:Int)<=8)=false:=yec (by omega)
   rw[yec (show ¬ (1<=w.length/\w.length<=8) from λz=>h2 z.2)]
   simp![ll,d1,d2]
 .have d1:decide ((1:Int)<=((mk w).length:Int))=false:=yec (by omega)
  rw[yec (show ¬ (1<=w.length/\w.length<=8) from λz=>h1 z.1)]
  simp![ll,d1]
abbrev OV:Stmt:=AV 27
def Py:AB->Option Out :=
 (A2 (Bo (m1 (CK "str") (AA 0)) (Bi (m2 BC (AA 0) (mC (.str "/"))) (AR Ku (AD (AA 0) AE)))))
def Kr:List T->Option Ru:=An 1 1 Py
abbrev Mr:Fn:=⟨3,["thing"],Kr⟩
abbrev Xe:Gm:=⟨["thing"],(AL OV).names,[],2,[("is_name",Mt)],["isinstance","str"],[],[],[],false,[],[],[],BW⟩
theorem za8:FnScope Xe.N Mr.ps (AL OV):=Ap (by decide +kernel)
theorem zae:Aj 200 Xe (Ah OV)=some Py:=by ext
theorem Iq{w:W}(h:Ok w):PyData.strOk (mk w)=true:=SY h.2
theorem EO{w v:W}{s:Str}(hs:s=mk v)(h:Ok w)(hv:Ok v):BC (.str (mk w)) (.str s)=some (.bl (decide (w=v))):=by
 rw[hs,RW (Iq h) (Iq hv)]
 congr 2
 rw[yfc];exact⟨KL,λh=>by rw[h]⟩
theorem DV{v:W}(h1:v.length<=100)(h2:v.all (λc=>decide (c<128))=true):Ok v:=⟨by omega,λc hc=>yf5 (yab.mp h2 c hc)⟩
theorem Tj:Str.ofString "/"=mk [47]:=Tx.cs_ext (by decide +kernel)
theorem So{w:W}(h:Ok w):Kr [.str (mk w)]=some (.ok (.bl (Du w))):=by
 have e:=EO Tj h (DV (by decide) (by decide))
 have en:=WO h.1;unfold Kr Py Du;cases hd:decide (w=[47])
 .rw[hd]at e
  simp![e,en]
 .rw[hd]at e
  simp![e]
abbrev OY:Stmt:=AV 28
def SA:AB->Option Rs :=
 (Bi (m2 BC (AA 0) (mC (.str "/"))) (AR Ks (AD (AA 0) AE)))
def QA:AB->Option Out :=
 (AI (Ab (Bi (BF (m1 (CK "str") (AA 0))) (BF (E8 EL EL (mC (.int 1)) (m1 BP (AA 0)) (mC (.int 60))))) (A2 (mC (.bl false))) Aq)
 (A2 (m1 Eh (BO 1 [] (B7 (AA 0)) (AG 0) (mC (.bl true)) SA))))
def N0:List T->Option Ru:=An 1 1 QA
abbrev RB:Fn:=⟨2,["thing"],N0⟩
abbrev Xh:Gm:=⟨["thing"],(AL OY).names,[],1,[("is_small_letter",Ms)],["isinstance","str","len","all"],[],[],[],false,[],[],[],BW⟩
theorem zai:FnScope Xh.N RB.ps (AL OY):=Ap (by decide +kernel)
theorem zao:Aj 200 Xh (Ah OY)=some QA:=by ext
theorem rn_ok{w:W}(h:Ok w):N0 [.str (mk w)]=some (.ok (.bl (Eu w))):=by
 have lc:=Wq (me:=SA) (p:=λc=>decide (c=47) || DA c) w λc hc=>by
  have e:=EO (w:=[c]) Tj ⟨show 1<=50000 by decide,λd hd=>by rw[ya7.mp hd];exact h.2 c hc⟩ (DV (by decide) (by decide))
  have e2:decide ([c]=[47])=decide (c=47):=by
   rw[yfc];exact⟨λz=>(yb8 z).1,λz=>by rw[z]⟩
  rw[e2]at e;have e':BC (.str ⟨#[c]⟩) (.str (Str.ofString "/"))=some (.bl (decide (c=47))):=e;unfold SA;cases hd:decide (c=47)
  .rw[hd]at e'
   simp![e',Ti]
  .rw[hd]at e'
   simp![e']
 have el:((mk w).length:Int)=(w.length:Int):=rfl;have sl:=To h.1;have ll:=Fi h.1;unfold N0 QA Eu
 by_cases h1:1<=w.length
 .have d1:decide ((1:Int)<=((mk w).length:Int))=true:=yer (by omega)
  by_cases h2:w.length<=60
  .have d2:decide (((mk w).length:Int)<=60)=true:=yer (by omega)
   rw[yer (show 1<=w.length/\w.length<=60 from⟨h1,h2⟩)]
   simp![lc,sl,ll,d1,d2,Di,Dt,Fx]
  .have d2:decide (((mk w).length:Int)<=60)=false:=yec (by omega)
   rw[yec (show ¬ (1<=w.length/\w.length<=60) from λz=>h2 z.2)]
   simp![ll,d1,d2]
 .have d1:decide ((1:Int)<=((mk w).length:Int))=false:=yec (by omega)
  rw[yec (show ¬ (1<=w.length/\w.length<=60) from λz=>h1 z.1)]
  simp![ll,d1]
abbrev OU:Stmt:=AV 13
def Px:AB->Option Out :=
 (A2 (Bo (m1 (CK "int") (AA 0)) (BF (m1 (CK "bool") (AA 0)))))
def NZ:List T->Option Ru:=An 1 1 Px
abbrev Qz:Fn:=⟨1,["thing"],NZ⟩
abbrev Xd:Gm:=⟨["thing"],(AL OU).names,[],0,[],["isinstance","int","bool"],[],[],[],false,[],[],[],BW⟩
theorem zc8:FnScope Xd.N Qz.ps (AL OU):=Ap (by decide +kernel)
theorem zcl:Aj 200 Xd (Ah OU)=some Px:=by ext
theorem zdj(i:Int):NZ [.int i]=some (.ok (.bl true)):=by simp![NZ,Px]
abbrev O0:Stmt:=AV 19
def QB:AB->Option Out :=
 (A2 (Bo (AR NZ (AD (AA 0) AE)) (m2 (Bp λi j=>decide (j<=i)) (AA 0) (mC (.int 0)))))
def N1:List T->Option Ru:=An 1 1 QB
abbrev RD:Fn:=⟨2,["thing"],N1⟩
abbrev Xj:Gm:=⟨["thing"],(AL O0).names,[],1,[("is_whole",Qz)],[],[],[],[],false,[],[],[],BW⟩
theorem zbo:FnScope Xj.N RD.ps (AL O0):=Ap (by decide +kernel)
theorem zc0:Aj 200 Xj (Ah O0)=some QB:=by ext
theorem ziy(i:Int):N1 [.int i]=some (.ok (.bl (decide (0<=i)))):=by
 unfold N1 QB
 simp![zdj]
abbrev O4:Stmt:=AV 18
def QD:AB->Option Out :=
 (AI (Ab (Bi (BF (m1 (CK "tuple") (AA 0))) (m2 CI (m1 BP (AA 0)) (mC (.int 3)))) (A2 (mC (.bl false))) Aq)
 (A2 (Bo (m2 Cm (AM (AA 0) (mC (.int 0))) (AA 1)) (Bo (m2 Cm (AM (AA 0) (mC (.int 1))) (AA 2)) (AR N1 (AD (AM (AA 0) (mC (.int 2))) AE))))))
def N2:List T->Option Ru:=An 3 3 QD
abbrev RE:Fn:=⟨3,["thing","watches","words"],N2⟩
abbrev Xl:Gm:=⟨["thing","watches","words"],(AL O4).names,[],2,[("is_number",RD)],["isinstance","tuple","len"],[],[],[],false,[],[],[],BW⟩
theorem zcv:FnScope Xl.N RE.ps (AL O4):=Ap (by decide +kernel)
theorem zdd:Aj 200 Xl (Ah O4)=some QD:=by ext
theorem txs{ws:List W}(h:∀w∈ws,Ok w):NT (ws.map mk):=λy hy=>by
 obtain⟨w,hw,rfl⟩:=yai.mp hy;exact Iq (h w hw)
theorem K2{ws:List W}{w:W}{o:Bool}{k:Kd}(h:∀w∈ws,Ok w)(hw:Ok w):Cm (.str (mk w)) (.nd o k (AN ws))=some (.bl (decide (w∈ws))):=by
 rw[XX (txs h) (Iq hw)]
 congr 2
 rw[yfc];exact zm9
abbrev Gb(wd:List W):T:=.nd false .rt (AN wd)
theorem Sr:(∀w∈GF,Ok w)/\∀w∈GD,Ok w:=⟨λw hw=>DV (by revert w;decide) (by revert w;decide),λw hw=>DV (by revert w;decide) (by revert w;decide)⟩
theorem Fl:Q2=Gb GF/\Q3=Gb GD:=by
 have e1:GF.map mk=(["<","<=",">",">=","="]:List Str):=by decide +kernel
 have e2:GD.map mk=(["<","<="]:List Str):=by decide +kernel
 unfold Gb AN;rw[e1,e2];exact⟨rfl,rfl⟩
def ID(k:BS):Prop:=Ok k.1/\Ok k.2.1
theorem zj9{ws wd:List W}(h:∀w∈ws,Ok w)(hd:∀w∈wd,Ok w){k:BS}(hk:ID k):N2 [Ar k,.lst (AN ws),Gb wd]=some (.ok (.bl (decide (k.1∈ws) && decide (k.2.1∈wd)))):=by
 have e1:=K2 (o:=false) (k:=.lst) h hk.1;have e2:=K2 (o:=false) (k:=.rt) hd hk.2;have e3:=ziy (k.2.2:Int);rw[yer (yc8 _)]at e3;unfold N2 QD;cases h1:decide (k.1∈ws)
 .rw[h1]at e1
  simp![DF,A8,A7,e1]
 .rw[h1]at e1;cases h2:decide (k.2.1∈wd)
  .rw[h2]at e2
   simp![DF,A8,A7,e1,e2]
  .rw[h2]at e2
   simp![DF,A8,A7,e1,e2,e3]
abbrev O5:Stmt:=AV 20
def SF:AB->Option Rs :=
 (AR N2 (AD (AA 0) (AD (AA 1) (AD (AA 2) AE))))
def QE:AB->Option Out :=
 (A2 (Bo (m1 (CK "list") (AA 0)) (m1 Eh (BO 1 [1,2] (B7 (AA 0)) (AG 0) (mC (.bl true)) SF))))
def Kv:List T->Option Ru:=An 3 3 QE
abbrev Mu:Fn:=⟨4,["thing","watches","words"],Kv⟩
abbrev Xm:Gm:=⟨["thing","watches","words"],(AL O5).names,["watches","words"],3,[("is_look",RE)],["isinstance","list","all"],[],[],[],false,[],[],[],BW⟩
theorem zc9:FnScope Xm.N Mu.ps (AL O5):=Ap (by decide +kernel)
theorem zcm:Aj 200 Xm (Ah O5)=some QE:=by ext
theorem X1{ws wd:List W}(h:∀w∈ws,Ok w)(hd:∀w∈wd,Ok w){g:List BS}(hg:∀k∈g,ID k)(hl:g.length<=1000):Kv [.lst (g.map Ar),.lst (AN ws),Gb wd]=some (.ok (.bl (EM ws wd g))):=by
 have lc:=E9 (b:=AG 0) (me:=SF) Ar (λk=>T.bl (decide (k.1∈ws) && decide (k.2.1∈wd))) (λτ=>∃o,τ=[o,some (.lst (AN ws)),some (Gb wd)]) g [none,some (.lst (AN ws)),some (Gb wd)] ⟨none,rfl⟩ λk hk τ hI=>by
  obtain⟨o,rfl⟩:=hI;refine⟨[some (Ar k),some (.lst (AN ws)),some (Gb wd)],rfl,?_,_,rfl⟩;have e:=zj9 h hd (hg k hk);unfold SF
  simp![A8,A7,e]
 have l1:(g.map Ar).length<=100000:=by rw[ya1];omega
 have hs:=DH g;unfold Kv QE EM
 simp![A8,A7,hs,AW _ hs,l1,lc,Di,Dt,Fx]
abbrev Od:Stmt:=AV 34
def QJ:AB->Option Out :=
 (A2 (m2 BC (m1 IM (AA 0)) (m1 BP (AA 0))))
def J4:List T->Option Ru:=An 1 1 QJ
abbrev K9:Fn:=⟨1,["texts"],J4⟩
abbrev Xs:Gm:=⟨["texts"],(AL Od).names,[],0,[],["len","set"],[],[],[],false,[],[],[],BW⟩
theorem zb7:FnScope Xs.N K9.ps (AL Od):=Ap (by decide +kernel)
theorem zbg:Aj 200 Xs (Ah Od)=some QJ:=by ext
theorem W6{val:Nat->L2.Key}{n:Nat}(h:∀i j,i<n->j<n->val i=val j->i=j):∀k,k<=n->(met val k).length=k/\∀x∈met val k,∃i,i<k/\x=val i
 |0,_=>⟨rfl,λx hx=>by cases hx⟩
 |k+1,hk=>by
  obtain⟨h1,h2⟩:=W6 h k (by omega)
  have hn:val k∉met val k:=λz=>by
   obtain⟨i,hi,e⟩:=h2 _ z;have:=h k i (by omega) (by omega) e
   omega
  have e:met val (k+1)=met val k++[val k]:=by
   conv=>lhs;unfold met
   rw[if_neg hn]
  rw[e];refine⟨by rw[yag,ybn,h1],λx hx=>?_⟩
  rcases yat.mp hx with q|q
  .obtain⟨i,hi,e⟩:=h2 x q;exact⟨i,by omega,e⟩
  .exact⟨k,by omega,ya7.mp q⟩
theorem zjz{ys:List Str}(h:ys.Nodup):IP ys=ys.length:=by
 unfold IP;refine(W6 (n:=ys.length) (λi j hi hj e=>?_) ys.length (yaf _)).1
 have e':=Sum.inr.inj e;rw[yaw,yaw,ya5 hi,ya5 hj]at e';exact(ye6 h).mp e'
theorem Pr(val:Nat->L2.Key):∀k,(met val k).length<=k/\∀i,i<k->val i∈met val k
 |0=>⟨yaf 0,λi h=>absurd h (Nat.not_lt_zero _)⟩
 |k+1=>by
  obtain⟨h1,h2⟩:=Pr val k
  by_cases hm:val k∈met val k
  .have e:met val (k+1)=met val k:=by
    conv=>lhs;unfold met
    rw[if_pos hm]
   rw[e];refine⟨by omega,λi hi=>?_⟩
   by_cases hik:i=k
   .rw[hik];exact hm
   .exact h2 i (by omega)
  .have e:met val (k+1)=met val k++[val k]:=by
    conv=>lhs;unfold met
    rw[if_neg hm]
   rw[e];refine⟨by rw[yag,ybn];omega,λi hi=>?_⟩
   by_cases hik:i=k
   .rw[hik];exact yak _ (ya7.mpr rfl)
   .exact ybd _ (h2 i (by omega))
theorem W8(val:Nat->L2.Key):∀k,(met val k).length=k->∀i j,i<j->j<k->val i≠val j
 |0,_,i,j,_,h=>absurd h (Nat.not_lt_zero _)
 |k+1,hk,i,j,hij,hj=>by
  have hm:val k∉met val k:=λhm=>by
   have e:met val (k+1)=met val k:=by
    conv=>lhs;unfold met
    rw[if_pos hm]
   rw[e]at hk;have:=(Pr val k).1
   omega
  have e:met val (k+1)=met val k++[val k]:=by
   conv=>lhs;unfold met
   rw[if_neg hm]
  rw[e,yag,ybn]at hk
  by_cases hjk:j=k
  .intro q;rw[hjk]at q;exact hm (q▸(Pr val k).2 i (by omega))
  .exact W8 val k (by omega) i j hij (by omega)
theorem zk0{ys:List Str}(h:IP ys=ys.length):ys.Nodup:=by
 unfold IP at h;have key:=W8 _ _ h;rw[yd1,List.pairwise_iff_getElem];intro i j hi hj hij q;refine key i j hij hj ?_;simp only[yaw,ya5 hi,ya5 hj,Option.getD_some];rw[q]
theorem Nq{ws:List W}(hl:ws.length<1000):J4 [.lst (AN ws)]=some (.ok (.bl (Df ws))):=by
 have e:(((IP (ws.map mk):Nat):Int) == (ws.length:Int))=Df ws:=by
  unfold Df;rw[ybm,yex,yf1]
  have hm:(ws.map mk).Nodup ↔ ws.Nodup:=by
   rw[yd1,yd1,List.pairwise_map];exact⟨λh=>h.imp λq z=>q (by rw[z]),λh=>h.imp λq z=>q (KL z)⟩
  rw[<- hm];have hn:(ws.map mk).length=ws.length:=ya1 ..;refine⟨λh=>zk0 (by omega),λh=>?_⟩
  rw[zjz h,hn]
 unfold J4 QJ
 simp![IM,A8,A7,L7,hl,CA,e,ya1]
abbrev O8:Stmt:=AV 33
def SG:AB->Option Rs :=
 (AR Kr (AD (AA 0) AE))
def QG:AB->Option Out :=
 (AI (Ab (Bi (BF (m1 (CK "list") (AA 0))) (m2 (Bp λi j=>decide (j<i)) (m1 BP (AA 0)) (mC Q4))) (BR "BadMachine" (AD (mC (.str "a machine's watches are a list of at most seven")) AE)) Aq)
 (Ab (Bi (BF (m1 Eh (BO 1 [] (B7 (AA 0)) (AG 0) (mC (.bl true)) SG))) (BF (AR J4 (AD (AA 0) AE)))) (BR "BadMachine" (AD (mC (.str "a machine's watches are unlike names")) AE)) Aq))
def N4:List T->Option Ru:=An 1 1 QG
abbrev RG:Fn:=⟨4,["watches"],N4⟩
abbrev zab:Gx:=⟨[("MOST_WATCHES",Q4)],[],[],[],false,true,true,none,[],[],[],true,[],[],[],[],[]⟩
abbrev Xo:Gm:=⟨["watches"],(AL O8).names,[],3,[("is_watch_name",Mr),("are_unlike",K9)],["isinstance","list","len","all"],["BadMachine"],[],[],false,[],[],[],zab⟩
theorem za9:FnScope Xo.N RG.ps (AL O8):=Ap (by decide +kernel)
theorem zaf:Aj 200 Xo (Ah O8)=some QG:=by ext
theorem QX{me:AB->Option Rs}{p:W->Bool}{cs:AB}(ws:List W)(h:∀w∈ws,me (some (.str (mk w))::cs)=some (.v (.bl (p w)) false)):Bg (AG 0) (mC (.bl true)) me (AN ws) (none::cs)=some (ws.map λw=>T.bl (p w)):=by
 rw[FZ]
 exact E9 (b:=AG 0) (me:=me) (λw=>T.str (mk w)) (λw=>T.bl (p w)) (λτ=>∃o,τ=o::cs) ws (none::cs) ⟨none,rfl⟩ λw hw τ hI=>by
  obtain⟨o,rfl⟩:=hI;exact⟨some (.str (mk w))::cs,rfl,h w hw,_,rfl⟩
theorem CO(ws:List W):(AN ws).length=ws.length:=by rw[ya1,ya1]
def bad(b:Bool):Option Ru:=if b then some (.ok .non) else some (.exc "BadMachine")
theorem cw_ok{ws:List W}(h:∀w∈ws,Ok w)(hl:ws.length<=1000):N4 [.lst (AN ws)]=bad (HA ws):=by
 have lc:=QX (me:=SG) (p:=Du) (cs:=[]) ws λw hw=>by
  unfold SG
  simp![So (h w hw)]
 have l1:ws.length<=100000:=by omega
 unfold N4 QG Q4 HA bad
 by_cases h7:ws.length<=7
 .have e1:decide ((7:Int)<(ws.length:Int))=false:=yec (by omega)
  have un:=Nq (ws:=ws) (by omega)
  rw[yer h7];cases ha:ws.all Du
  .simp![A8,A7,CO,lc,l1,e1,Di,Dt,Fx,ha]
  .cases hu:Df ws
   .rw[hu]at un
    simp![A8,A7,CO,lc,l1,e1,Di,Dt,Fx,ha,un]
   .rw[hu]at un
    simp![A8,A7,CO,lc,l1,e1,Di,Dt,Fx,ha,un]
 .have e1:decide ((7:Int)<(ws.length:Int))=true:=yer (by omega)
  rw[yec h7]
  simp![A8,A7,CO,e1]
abbrev Oa:Stmt:=AV 35
def Nk:AB->Option Out :=
 (AI (Ab (Bi (BF (m1 (CK "tuple") (AA 2))) (m2 CI (m1 BP (AA 2)) (mC (.int 2)))) (BR "BadMachine" (AD (mC (.str "a room is a tuple of a name and a stay")) AE)) Aq)
 (Ab (Bi (BF (AR N0 (AD (AM (AA 2) (mC (.int 0))) AE))) (BF (AR Kv (AD (AM (AA 2) (mC (.int 1))) (AD (AA 1) (AD (mC Q3) AE)))))) (BR "BadMachine" (AD (mC (.str "a room has a name, and a stay of the machine's watches")) AE)) Aq))
def SH:AB->Option Rs :=
 (AM (AA 0) (mC (.int 0)))
def QH:AB->Option Out :=
 (AI (Ab (Bi (BF (m1 (CK "list") (AA 0))) (m2 BC (m1 BP (AA 0)) (mC (.int 0)))) (BR "BadMachine" (AD (mC (.str "a machine's rooms are a list of one or more")) AE)) Aq)
 (AI (EA (B7 (AA 0)) (AG 2) Nk)
 (Ab (BF (AR J4 (AD (BO 1 [] (B7 (AA 0)) (AG 0) (mC (.bl true)) SH) AE))) (BR "BadMachine" (AD (mC (.str "no two rooms have one name")) AE)) Aq)))
def N5:List T->Option Ru:=An 2 3 QH
abbrev RH:Fn:=⟨5,["rooms","watches"],N5⟩
abbrev zav:Gx:=⟨[("STAY_WORDS",Q3)],[],[],[],false,true,true,none,[],[],[],true,[],[],[],[],[]⟩
abbrev Xq:Gm:=⟨["rooms","watches","room"],(AL Oa).names,[],4,[("is_room_name",RB),("is_guard",Mu),("are_unlike",K9)],["isinstance","list","len","tuple"],["BadMachine"],[],[],false,[],[],[],zav⟩
theorem zar:FnScope Xq.N RH.ps (AL Oa):=Ap (by decide +kernel)
theorem zaz:Aj 200 Xq (Ah Oa)=some QH:=by ext
theorem Qo{α:Type}{b:T->AB->Option AB}{body:AB->Option Out}{c:Str}(f:α->T)(p:α->Bool)(S:Option T->AB):∀(L:List α) (x:Option T),(∀a∈L,∀x,b (f a) (S x)=some (S (some (f a)))/\body (S (some (f a)))=if p a then some (.nx (S (some (f a)))) else some (.xc c (S (some (f a)))))->∃y,Bz b body (L.map f) (S x)=if L.all p then some (.nx (S y)) else some (.xc c (S y))
 |[],x,_=>⟨x,rfl⟩
 |a::L,x,h=>by
  obtain⟨h1,h2⟩:=h a (ya3 ..) x;obtain⟨y,hy⟩:=Qo f p S L (some (f a)) λa ha=>h a (ya0 _ ha)
  rw[yae,yd0];unfold Bz;cases hp:p a
  .rw[hp]at h2;refine⟨some (f a),?_⟩;simp only[h1,h2]
   rfl
  .rw[hp]at h2;refine⟨y,?_⟩;simp only[h1,h2,yeo,hy,yca]
abbrev Ci(r:W×List BS):T:=.tup [.str (mk r.1),.lst (r.2.map Ar)]
abbrev EF(rs:List (W×List BS)):T:=.lst (rs.map Ci)
def Sa(r:W×List BS):Prop:=Ok r.1/\(∀k∈r.2,ID k)/\r.2.length<=1000
theorem P9(rs:List (W×List BS)):Aa (rs.map Ci)=true:=by
 rw[Cd,yab];intro t ht;obtain⟨r,hr,rfl⟩:=yai.mp ht;have:=DH r.2;show((!false) && (true && (((!false) && Aa (r.2.map Ar)) && true)))=true;rw[this]
 rfl
theorem cr_ok{ws:List W}(hw:∀w∈ws,Ok w){rs:List (W×List BS)}(h:∀r∈rs,Sa r)(hl:rs.length<1000):N5 [EF rs,.lst (AN ws)]=bad (GS ws rs):=by
 have sr:=P9 rs;have er:=AW _ sr
 obtain⟨y,fo⟩:=Qo (b:=AG 2) (body:=Nk) (c:="BadMachine") Ci (λr=>Eu r.1 && EM ws GD r.2) (λx=>[some (EF rs),some (.lst (AN ws)),x]) rs none λr hr x=>by
  obtain⟨h1,h2,h3⟩:=h r hr;refine⟨rfl,?_⟩;have e1:=rn_ok h1;have e2:=X1 hw Sr.2 h2 h3;have e3:=DH r.2;unfold Nk;cases hb:Eu r.1
  .rw[hb]at e1
   simp![Fl,DF,A8,A7,e1]
  .rw[hb]at e1;cases hg:EM ws GD r.2
   .rw[hg]at e2
    simp![Fl,DF,A8,A7,e1,e2,e3,AW _ e3]
   .rw[hg]at e2
    simp![Fl,DF,A8,A7,e1,e2,e3,AW _ e3]
 have lc:=E9 (b:=AG 0) (me:=SH) Ci (λr=>T.str (mk r.1)) (λτ=>∃o,τ=[o]) rs [none] ⟨none,rfl⟩ λr hr τ hI=>by
  obtain⟨o,rfl⟩:=hI;refine⟨[some (Ci r)],rfl,?_,_,rfl⟩;have e3:=DH r.2;unfold SH
  simp![e3]
 have em:(rs.map λr=>T.str (mk r.1))=AN (rs.map (·.1)):=by rw[FZ,yax];rfl
 rw[em]at lc;have un:=Nq (ws:=rs.map (·.1)) (by rw[ya1];exact hl)
 have ll:(rs.map Ci).length<=100000:=by rw[ya1];omega
 have l0:(((rs.map Ci).length:Int) == 0)=rs.isEmpty:=by
  cases rs with
  |nil=>rfl
  |cons a r =>
   show _=false;rw[yfd,ya1,ya6]
   omega
 unfold N5 QH GS bad;cases h0:rs.isEmpty
 .rw[h0]at l0;cases ha:rs.all λr=>Eu r.1 && EM ws GD r.2
  .rw[ha]at fo
   simp![CA,A8,A7,sr,er,l0,fo,lc,un,ll]
  .rw[ha]at fo;cases hu:Df (rs.map (·.1))
   .rw[hu]at un
    simp![CA,A8,A7,sr,er,l0,fo,lc,un,ll]
   .rw[hu]at un
    simp![CA,A8,A7,sr,er,l0,fo,lc,un,ll]
 .rw[h0]at l0
  simp![CA,A8,A7,sr,er,l0]
abbrev Oe:Stmt:=AV 37
def SJ:AB->Option Rs :=
 (AR Kr (AD (AA 0) AE))
def SI:AB->Option Rs :=
 (m2 Cm (AA 0) (AA 1))
def QK:AB->Option Out :=
 (AI (Ab (Bi (BF (m1 (CK "list") (AA 0))) (BF (m1 Eh (BO 1 [] (B7 (AA 0)) (AG 0) (mC (.bl true)) SJ)))) (A2 (mC (.bl false))) Aq)
 (A2 (Bo (AR J4 (AD (AA 0) AE)) (m1 Eh (BO 1 [1] (B7 (AA 0)) (AG 0) (mC (.bl true)) SI)))))
def N7:List T->Option Ru:=An 2 2 QK
abbrev RJ:Fn:=⟨4,["thing","watches"],N7⟩
abbrev Xu:Gm:=⟨["thing","watches"],(AL Oe).names,["watches"],3,[("is_watch_name",Mr),("are_unlike",K9)],["isinstance","list","all"],[],[],[],false,[],[],[],BW⟩
theorem zat:FnScope Xu.N RJ.ps (AL Oe):=Ap (by decide +kernel)
theorem zb1:Aj 200 Xu (Ah Oe)=some QK:=by ext
theorem zm2{ns ws:List W}(hw:∀x∈ws,Ok x)(hn:∀x∈ns,Ok x)(hl:ns.length<1000):N7 [.lst (AN ns),.lst (AN ws)]=some (.ok (.bl (G0 ns ws))):=by
 have lc:=QX (me:=SJ) (p:=Du) (cs:=[]) ns λw hx=>by
  unfold SJ
  simp![So (hn w hx)]
 have lc2:=QX (me:=SI) (p:=λw=>decide (w∈ws)) (cs:=[some (.lst (AN ws))]) ns λw hx=>by
  have e:=K2 (o:=false) (k:=.lst) hw (hn w hx);unfold SI
  simp![A8,A7,e]
 have l1:ns.length<=100000:=by omega
 have un:=Nq (ws:=ns) hl;unfold N7 QK G0;cases ha:ns.all Du
 .simp![A8,A7,CO,lc,l1,Di,Dt,Fx,ha]
 .cases hu:Df ns
  .rw[hu]at un
   simp![A8,A7,CO,lc,l1,Di,Dt,Fx,ha,un]
  .rw[hu]at un
   simp![A8,A7,CO,lc,lc2,l1,Di,Dt,Fx,ha,un]
abbrev OX:Stmt:=AV 29
def M0:AB->Option Out :=
 (AI (Ab (BF (m1 (CK "str") (AA 0))) (A2 (mC (.bl false))) Aq)
 (A2 (Bi (m2 BC (AA 0) (mC (.str ""))) (Bo (m2 Cm (AM (AA 0) (m1 Ez (mC (.int 1)))) (AO (AD (mC (.str "!")) (AD (mC (.str "?")) AE)))) (AR Ku (AD (Ax (Ay (AA 0) none (some (m1 Ez (mC (.int 1))))) (Au (AA 0) none (some (m1 Ez (mC (.int 1)))))) AE))))))
def Kt:List T->Option Ru:=An 1 1 M0
abbrev RA:Fn:=⟨3,["thing"],Kt⟩
abbrev Xg:Gm:=⟨["thing"],(AL OX).names,[],2,[("is_name",Mt)],["isinstance","str"],[],[],[],false,[],[],[],BW⟩
theorem zct:FnScope Xg.N RA.ps (AL OX):=Ap (by decide +kernel)
theorem zdb:Aj 200 Xg (Ah OX)=some M0:=by ext
theorem Kg:Str.ofString ""=mk []:=Tx.cs_ext (by decide +kernel)
theorem zkd{w:W}(h:Ok w):Kt [.str (mk w)]=some (.ok (.bl (GI w))):=by
 have e:=EO Kg h (DV (by decide) (by decide))
 unfold GI
 by_cases h0:w=[]
 .rw[yer h0]at e ⊢;unfold Kt M0
  simp![e]
 .rw[yec h0]at e ⊢
  obtain⟨y,c,rfl⟩:∃y c,w=y++[c]:=by
   rcases List.eq_nil_or_concat w with q|⟨y,c,q⟩
   .exact absurd q h0
   .exact⟨y,c,by rw[q,List.concat_eq_append]⟩
  have hc:c<128:=h.2 c (yak _ (ya7.mpr rfl));have ll:=Fi h.1;have yl:y.length<=50000:=by have:=h.1;rw[yag]at this;omega
  have a1:Af (mk (y++[c])).cps.toList (-1)=some c:=by
   show Af (y++[c]) (-1)=some c;unfold Af Gd;rw[yag,ybn,if_neg (by decide),if_pos (by omega)]
   show(y++[c])[((-1:Int)+((y.length+1:Nat):Int)).toNat]?=some c;rw[show((-1:Int)+((y.length+1:Nat):Int)).toNat=y.length by omega,yb0 (yaf _),Nat.sub_self]
   rfl
  have sl:Txt.slice (mk (y++[c])) none (some (-1))=mk y:=by
   have hl:(Tx.cs (mk (y++[c]))).length=y.length+1:=by show(y++[c]).length=_;rw[yag];rfl
   have e2:Txt.slice (mk (y++[c])) none (some (-1))=StrLaws.sliceText (mk (y++[c])) none (some (-1)):=rfl;rw[e2,StrLaws.sliceText_neg_hi _ none (by decide) (by rw[Tx.cs_len,hl];omega)]
   have e3:((-1:Int)+((mk (y++[c])).length:Int))=((y.length:Nat):Int):=by rw[Tx.cs_len,hl];omega
   rw[e3];refine Tx.cs_ext ?_;show Tx.cs (Txt.slice (mk (y++[c])) none (some ((y.length:Nat):Int)))=y;rw[Tx.sl_to (by omega)]
   exact List.take_left' rfl
  have tl:Cm (.str (Str.mk #[c])) (.tup [.str (Str.ofString "!"),.str (Str.ofString "?")])=some (.bl (Er (y++[c]))):=by
   have e1:(([.str (Str.ofString "!"),.str (Str.ofString "?")]:List T))=AN [[33],[63]]:=by
    have:([[33],[63]]:List W).map mk=([Str.ofString "!",Str.ofString "?"]:List Str):=by decide +kernel
    unfold AN;rw[this]
    rfl
   rw[e1];have e2:=K2 (ws:=[[33],[63]]) (w:=[c]) (o:=false) (k:=.tup) (λw hw=>DV (by revert w;decide) (by revert w;decide)) ⟨show 1<=50000 by decide,λd hd=>by rw[ya7.mp hd];exact hc⟩
   rw[show(Str.mk #[c])=mk [c] from rfl,e2]
   congr 2
   unfold Er;rw[yfc,ybz];simp
  have en:=WO yl;rw[ycw];unfold Kt M0;cases hs:Er (y++[c])
  .rw[hs]at tl
   simp![e,ll,a1,tl,show(-(1:Int))=-1 from rfl]
  .rw[hs]at tl
   simp![e,ll,a1,tl,Au,sl,en,show(-(1:Int))=-1 from rfl]
abbrev Oc:Stmt:=AV 36
def Nl:AB->Option Out :=
 (AI (Ab (BF (m1 (Eb R5) (AA 3))) (BR "BadMachine" (AD (mC (.str "a machine's doors are doors")) AE)) Aq)
 (AI (Ab (Bi (m2 HY (Dn Bu DB 0 (AA 3)) (AA 1)) (m2 HY (Dn Bu DB 1 (AA 3)) (AA 1))) (BR "BadMachine" (AD (mC (.str "a door leads from one room of the machine to another")) AE)) Aq)
 (AI (Ab (BF (AR Kv (AD (Ax (Dn Bu DB 2 (AA 3)) (Ax (Dn DO FJ 1 (AA 3)) (Dn DN FI 1 (AA 3)))) (AD (AA 2) (AD (mC Q2) AE))))) (BR "BadMachine" (AD (mC (.str "a door's guard is one of the machine's watches")) AE)) Aq)
 (Ab (Bi (BF (AR N7 (AD (Dn Bu DB 3 (AA 3)) (AD (AA 2) AE)))) (BF (AR Kt (AD (Dn Bu DB 4 (AA 3)) AE)))) (BR "BadMachine" (AD (mC (.str "a door sets watches of the machine, each once, and has at most one sign")) AE)) Aq))))
def QI:AB->Option Out :=
 (AI (Ab (BF (m1 (CK "list") (AA 0))) (BR "BadMachine" (AD (mC (.str "a machine's doors are a list")) AE)) Aq)
 (EA (B7 (AA 0)) (AG 3) Nl))
def N6:List T->Option Ru:=An 3 4 QI
abbrev RI:Fn:=⟨5,["doors","names","watches"],N6⟩
abbrev zaw:Gx:=⟨[("WORDS",Q2)],[("Door",Bu,DB),("Never",DO,FJ),("NoSooner",DN,FI)],[],[],false,true,true,none,[],[],[],true,[],[("Door",R5)],[],[],[]⟩
abbrev Xr:Gm:=⟨["doors","names","watches","door"],(AL Oc).names,[],4,[("is_guard",Mu),("are_noughts",RJ),("is_sign",RA)],["isinstance","list"],["BadMachine"],[],[],false,[],[],[],zaw⟩
theorem zas:FnScope Xr.N RI.ps (AL Oc):=Ap (by decide +kernel)
theorem zb0:Aj 200 Xr (Ah Oc)=some QI:=by ext
abbrev Ba(d:DM):T:=.obj (.ins Bu DB) [.str (mk d.1),.str (mk d.2.1),.lst (d.2.2.1.map Ar),.lst (AN d.2.2.2.1),.str (mk d.2.2.2.2)]
structure DoOk(d:DM):Prop where
 s:Ok d.1
 e:Ok d.2.1
 g:∀k∈d.2.2.1,ID k
 gl:d.2.2.1.length<=1000
 n:∀x∈d.2.2.2.1,Ok x
 nl:d.2.2.2.1.length<1000
 z:Ok d.2.2.2.2
theorem Mx(ds:List DM):Aa (ds.map Ba)=true:=by
 rw[Cd,yab];intro t ht;obtain⟨d,hd,rfl⟩:=yai.mp ht;have:=DH d.2.2.1
 simp![this,A7]
theorem WJ{ws:List W}{w:W}{o:Bool}{k:Kd}(h:∀w∈ws,Ok w)(hw:Ok w):HY (.str (mk w)) (.nd o k (AN ws))=some (.bl (!decide (w∈ws))):=by
 have e:=K2 (o:=o) (k:=k) h hw;unfold Cm at e;unfold HY;simp only at e ⊢;split at e
 .rename_i hok;rw[if_pos hok];injection e with e
  injection e with e
  rw[e]
 .cases e
theorem cd_ok{ws ns:List W}(hw:∀x∈ws,Ok x)(hn:∀x∈ns,Ok x){ds:List DM}(h:∀d∈ds,DoOk d):N6 [.lst (ds.map Ba),.lst (AN ns),.lst (AN ws)]=bad (Hr ws ns ds):=by
 have sd:=Mx ds;have ed:=AW _ sd
 obtain⟨y,fo⟩:=Qo (b:=AG 3) (body:=Nl) (c:="BadMachine") Ba (λd=>decide (d.1∈ns) && (decide (d.2.1∈ns) && (EM ws GF d.2.2.1 && (G0 d.2.2.2.1 ws && GI d.2.2.2.2)))) (λx=>[some (.lst (ds.map Ba)),some (.lst (AN ns)),some (.lst (AN ws)),x]) ds none λd hd x=>by
  have k:=h d hd;refine⟨rfl,?_⟩;have e1:=WJ (o:=false) (k:=.lst) hn k.s;have e2:=WJ (o:=false) (k:=.lst) hn k.e;have e3:=X1 hw Sr.1 k.g k.gl;have e4:=zm2 hw k.n k.nl;have e5:=zkd k.z;have e6:=DH d.2.2.1;have ci:List.lookup Bu R5=some true:=rfl;unfold Nl;cases h1:decide (d.1∈ns)
  .rw[h1]at e1
   simp![Fl,Eb,ci,A8,A7,e1,e6,AW _ e6]
  .rw[h1]at e1;cases h2:decide (d.2.1∈ns)
   .rw[h2]at e2
    simp![Fl,Eb,ci,A8,A7,e1,e2,e6,AW _ e6]
   .rw[h2]at e2;cases h3:EM ws GF d.2.2.1
    .rw[h3]at e3
     simp![Fl,Eb,ci,A8,A7,e1,e2,e3,e6,AW _ e6]
    .rw[h3]at e3;cases h4:G0 d.2.2.2.1 ws
     .rw[h4]at e4
      simp![Fl,Eb,ci,A8,A7,e1,e2,e3,e4,e6,AW _ e6]
     .rw[h4]at e4;cases h5:GI d.2.2.2.2
      .rw[h5]at e5
       simp![Fl,Eb,ci,A8,A7,e1,e2,e3,e4,e5,e6,AW _ e6]
      .rw[h5]at e5
       simp![Fl,Eb,ci,A8,A7,e1,e2,e3,e4,e5,e6,AW _ e6]
 unfold N6 QI Hr bad;cases ha:ds.all λd=>decide (d.1∈ns) && (decide (d.2.1∈ns) && (EM ws GF d.2.2.1 && (G0 d.2.2.2.1 ws && GI d.2.2.2.2)))
 .rw[ha]at fo
  simp![A8,A7,sd,ed,fo]
 .rw[ha]at fo
  simp![A8,A7,sd,ed,fo]
abbrev Ln:Stmt:=FA 31 0
def QT:AB->Option Out :=
 (AI (CF Bu DB 0 0 (AA 1))
 (AI (CF Bu DB 1 0 (AA 2))
 (AI (CF Bu DB 2 0 (AR Hz (AD (AA 3) AE)))
 (AI (CF Bu DB 3 0 (AR Hz (AD (AA 4) AE)))
 (CF Bu DB 4 0 (AA 5))))))
def J6:List T->Option Ru:=ED Bu DB 6 6 QT
abbrev YV:Fn:=⟨2,["self","start","end","guard","noughts","sign"],J6⟩
abbrev zbw:Gx:=⟨[],[],[],[],false,true,true,some (Bu,DB),[],[],[],true,[],[],[],[],[]⟩
abbrev Qm:Gm:=⟨["self","start","end","guard","noughts","sign"],(AL Ln).names,[],1,[("own_copy",K7)],[],[],[],[],false,[],[],[],zbw⟩
theorem zbq:FnScope Qm.N YV.ps (AL Ln):=Ap (by decide +kernel)
theorem zc2:Aj 200 Qm (Ah Ln)=some QT:=by ext
theorem di_ok(d:DM):J6 [.str (mk d.1),.str (mk d.2.1),.lst (d.2.2.1.map Ar),.lst (AN d.2.2.2.1),.str (mk d.2.2.2.2)]=some (.ok (Ba d)):=by
 have hg:=DH d.2.2.1;have e1:=MN (d.2.2.1.map Ar) hg;have e2:=MN (AN d.2.2.2.1) (A7 _);refine Et λp=>?_
 unfold Cu QT
 simp![e1,e2,hg,AW _ hg,A8,A7]
abbrev Lm:Stmt:=FA 32 0
def SK:AB->Option Rs :=
 (AA 0)
def Nm:AB->Option Out :=
 (Jp Cc Ds 1 0 (AA 4) (m1 Ga (AA 5)))
def G7:AB->Option Out :=
 (AI (Bw (AR N4 (AD (AA 1) AE)))
 (AI (Bw (AR N5 (AD (AA 2) (AD (AA 1) AE))))
 (AI (Bw (AR N6 (AD (AA 3) (AD (BO 2 [] (B7 (AA 2)) (Cn 2 (BX (AG 0) (BX (AG 1) DD))) (mC (.bl true)) SK) (AD (AA 1) AE)))))
 (AI (Ab (Bi (m2 (Bp λi j=>decide (j<i)) (m1 BP (AA 2)) (mC KU)) (m2 (Bp λi j=>decide (j<i)) (m1 BP (AA 3)) (mC KY))) (BR "TooMany" (AD (mC (.str "a machine has at most 64 rooms and at most 200 doors")) AE)) Aq)
 (AI (CF Cc Ds 0 0 (m1 Ga (AA 1)))
 (AI (CF Cc Ds 1 0 Md)
 (AI (EA (B7 (AA 2)) (Cn 2 (BX (AG 4) (BX (AG 5) DD))) Nm)
 (CF Cc Ds 2 0 (m1 Ga (AA 3))))))))))
def IA:List T->Option Ru:=ED Cc Ds 4 6 G7
abbrev YT:Fn:=⟨6,["self","watches","rooms","doors"],IA⟩
abbrev zam:Gx:=⟨[("MOST_ROOMS",KU),("MOST_DOORS",KY)],[],[],[],false,true,true,some (Cc,Ds),[],[],[],true,[],[],[],[],[]⟩
abbrev Qk:Gm:=⟨["self","watches","rooms","doors","name","stay"],(AL Lm).names,[],5,[("check_watches",RG),("check_rooms",RH),("check_doors",RI)],["len","list"],["TooMany"],[],[],false,[],[],[],zam⟩
theorem zaj:FnScope Qk.N YT.ps (AL Lm):=Ap (by decide +kernel)
theorem zap:Aj 200 Qk (Ah Lm)=some G7:=by ext
def Bt(v:Vd)(r:Option Ru):Prop:=match v with
 |.read=>∃t:T,r=some (.ok t)
 |.text=>r=some (.exc "NoText")
 |.bad=>r=some (.exc "BadMachine")
 |.many=>r=some (.exc "TooMany")
theorem zn0(rs:List (W×List BS)):(rs.map λr=>T.str (mk r.1))=AN (rs.map (·.1)):=by rw[FZ,yax];rfl
theorem mi_ok{ws:List W}(hw:∀w∈ws,Ok w)(hwl:ws.length<=1000){rs:List (W×List BS)}(hr:∀r∈rs,Sa r)(hl:rs.length<1000){ds:List DM}(hd:∀d∈ds,DoOk d):Bt (Iw ws rs ds) (IA [.lst (AN ws),EF rs,.lst (ds.map Ba)]):=by
 have cw:=cw_ok hw hwl;have cr:=cr_ok hw hr hl
 have cd:=cd_ok (ns:=rs.map (·.1)) hw (λx hx=>by
  obtain⟨r,h,rfl⟩:=yai.mp hx;exact(hr r h).1) hd
 have sr:=P9 rs;have er:=AW _ sr;have sd:=Mx ds;have ed:=AW _ sd
 have lc:=E9 (b:=Cn 2 (BX (AG 0) (BX (AG 1) DD))) (me:=SK) Ci (λr=>T.str (mk r.1)) (λτ=>∃x y,τ=[x,y]) rs [none,none] ⟨none,none,rfl⟩ λr _ τ hI=>by
  obtain⟨x,y,rfl⟩:=hI;refine⟨[some (.str (mk r.1)),some (.lst (r.2.map Ar))],by simp![],?_,_,_,rfl⟩
  unfold SK
  simp![]
 rw[zn0]at lc;have ll:(rs.map Ci).length<=100000:=by rw[ya1];omega
 unfold Iw;unfold bad at cw cr cd;cases h1:HA ws
 .rw[h1]at cw;refine Et λp=>?_
  unfold Cu G7
  simp![A8,A7,cw]
 .rw[h1]at cw;cases h2:GS ws rs
  .rw[h2]at cr;refine Et λp=>?_
   unfold Cu G7
   simp![A8,A7,cw,sr,er,cr]
  .rw[h2]at cr;cases h3:Hr ws (rs.map (·.1)) ds
   .rw[h3]at cd;refine Et λp=>?_
    unfold Cu G7
    simp![A8,A7,cw,sr,er,cr,sd,ed,lc,ll,cd]
   .rw[h3]at cd;rw[yca,yca,if_pos rfl];have l1:((rs.map Ci).length:Int)=(rs.length:Int):=by rw[ya1]
    have l2:((ds.map Ba).length:Int)=(ds.length:Int):=by rw[ya1]
    by_cases h64:64<rs.length
    .rw[if_pos (.inl h64)];have g1:decide ((64:Int)<(rs.length:Int))=true:=yer (by omega)
     refine Et λp=>?_
     unfold Cu G7 KU KY
     simp![A8,A7,cw,sr,er,cr,sd,ed,lc,ll,cd,l1,l2,g1]
    .have g1:decide ((64:Int)<(rs.length:Int))=false:=yec (by omega)
     by_cases h200:200<ds.length
     .rw[if_pos (.inr h200)];have g2:decide ((200:Int)<(ds.length:Int))=true:=yer (by omega)
      refine Et λp=>?_
      unfold Cu G7 KU KY
      simp![A8,A7,cw,sr,er,cr,sd,ed,lc,ll,cd,l1,l2,g1,g2]
     .have g2:decide ((200:Int)<(ds.length:Int))=false:=yec (by omega)
      rw[if_neg λz=>z.elim h64 h200]
      have hnd:(rs.map (·.1)).Nodup:=by
       unfold GS at h2;rw[ya2,ya2]at h2;exact yf5 h2.2.2
      refine⟨.obj (.ins Cc Ds) [.lst (AN ws),.obj (.sdc (rs.map λr=>mk r.1)) (rs.map λr=>.lst (r.2.map Ar)),.lst (ds.map Ba)],Et λp=>?_⟩
      obtain⟨τ,e,x,y,rfl⟩:=Mn (b:=Cn 2 (BX (AG 4) (BX (AG 5) DD))) (body:=Nm) (ts:=rs.map Ci) (τ:=[some (.oob p Cc Ds [.own (AN ws),.osd [] []]),some (.lst (AN ws)),some (EF rs),some (.lst (ds.map Ba)),none,none])
       (λi τ=>∃x y,τ=[some (.oob p Cc Ds [.own (AN ws),.osd ((rs.take i).map λr=>mk r.1) ((rs.take i).map λr=>.lst (r.2.map Ar))]),some (.lst (AN ws)),some (EF rs),some (.lst (ds.map Ba)),x,y]) ⟨none,none,by rw[ybv];rfl⟩ λi t τ h1 h2=>by
       obtain⟨x,y,rfl⟩:=h2;have hi:i<rs.length:=by simpa using (yac.mp h1).1
       rw[yaj,ya5 hi]at h1;have et:t=Ci rs[i]:=(ya9 h1).symm;subst et;have k1:=DH rs[i].2
       have hno:mk rs[i].1∉(rs.take i).map λr=>mk r.1:=λhm=>by
        obtain⟨r,hr,e⟩:=yai.mp hm;obtain⟨j,hj,ej⟩:=List.mem_iff_getElem.mp hr;rw[ycu]at hj;rw[List.getElem_take]at ej;have e2:(rs.map (·.1))[j]'(by rw[ya1];omega)=(rs.map (·.1))[i]'(by rw[ya1];exact hi):=by rw[List.getElem_map,List.getElem_map,ej];exact KL e
        have:=(ye6 hnd).mp e2
        omega
       have hlen:((rs.take i).map λr=>mk r.1).length<100000:=by
        rw[ya1,ycu]
        omega
       have et2:rs.take (i+1)=rs.take i++[rs[i]]:=by rw[List.take_append_getElem]
       refine⟨[some (.oob p Cc Ds [.own (AN ws),.osd ((rs.take i).map λr=>mk r.1) ((rs.take i).map λr=>.lst (r.2.map Ar))]),some (.lst (AN ws)),some (EF rs),some (.lst (ds.map Ba)),some (.str (mk rs[i].1)),some (.lst (rs[i].2.map Ar))],by simp![],[some (.oob p Cc Ds [.own (AN ws),.osd ((rs.take (i+1)).map λr=>mk r.1) ((rs.take (i+1)).map λr=>.lst (r.2.map Ar))]),some (.lst (AN ws)),some (EF rs),some (.lst (ds.map Ba)),some (.str (mk rs[i].1)),some (.lst (rs[i].2.map Ar))],?_,_,_,rfl⟩
       rw[et2,yal,yal];unfold Nm
       simp![k1,AW _ k1,hno,hlen]
      rw[ya1,yeb]at e
      have es:Aa (rs.map λr=>T.lst (r.2.map Ar))=true:=by
       rw[Cd,yab];intro t ht;obtain⟨r,_,rfl⟩:=yai.mp ht;show((!false) && Aa (r.2.map Ar))=true;rw[DH]
       rfl
      unfold Cu G7 KU KY
      simp![A8,A7,cw,sr,er,cr,sd,ed,lc,ll,cd,l1,l2,g1,g2,e,AW _ es]
abbrev OQ:Stmt:=AV 55
def Dv:AB->Option Out :=
 (AI (Ab (m2 CI (AA 3) (mC (.str ""))) (BR "NoText" (AD (mC (.str "a door's sign is its last word")) AE)) Aq)
 (Ab (Dp (AA 4) (mC Hg)) (Bx 2 (Ax (Ay (AA 4) none (some (m1 Ez (mC (.int 2))))) (Au (AA 4) none (some (m1 Ez (mC (.int 2))))))) (Ab (Bi (Dp (AA 4) (mC (.str "!"))) (Dp (AA 4) (mC (.str "?")))) (AQ (AA 4) (AG 3)) (Ab (m2 (Bp λi j=>decide (j<i)) (m1 BP (AA 2)) (mC (.int 0))) (BR "NoText" (AD (mC (.str "a door's looks are ahead of its noughts")) AE)) (Bx 1 (AR NX (AD (AA 4) AE)))))))
def Iz:AB->Option Out :=
 (AI (Ct 1 (AK AE))
 (AI (Ct 2 (AK AE))
 (AI (AQ (mC (.str "")) (AG 3))
 (AI (EA (B7 (Ax (Ay (AA 0) (some (mC (.int 3))) none) (Au (AA 0) (some (mC (.int 3))) none))) (AG 4) Dv)
 (AI (Dj 1) (AI (Dj 2) (A2 (E7 J6 [] (AD (AM (AA 0) (mC (.int 1))) (AD (AM (AA 0) (mC (.int 2))) (AD (AA 1) (AD (AA 2) (AD (AA 3) AE)))))))))))))
def Fz:List T->Option Ru:=An 1 5 Iz
abbrev Qw:Fn:=⟨4,["words"],Fz⟩
abbrev zbv:Gx:=⟨[("NOUGHT_END",Hg)],[],[],[("Door",YV,[(5,[])])],false,true,true,none,[],[],[],true,[],[],[],[],[]⟩
abbrev Xa:Gm:=⟨["words","guard","noughts","sign","word"],(AL OQ).names,[],3,[("read_look",Mq)],["len"],["NoText"],["noughts","guard"],[],false,[],[],[],zbv⟩
theorem zbn:FnScope Xa.N Qw.ps (AL OQ):=Ap (by decide +kernel)
theorem zbz:Aj 200 Xa (Ah OQ)=some Iz:=by ext
abbrev J7{σ:Type}(o:Option σ)(A:σ->Prop)(B:Prop):Prop:=match o with
 |some s=>A s
 |none=>B
theorem Qp{α σ:Type}{b:T->AB->Option AB}{body:AB->Option Out}{c:Str}(f:α->T)(st:σ->Option T->AB)(step:σ->α->Option σ)(P:Nat->σ->Prop){N:Nat}:∀(L:List α) (i:Nat) (s:σ) (x:Option T),i+L.length<=N->P i s ->
  (∀a∈L,∀i s x,i<N->P i s->b (f a) (st s x)=some (st s (some (f a)))/\J7 (step s a) (λs'=>body (st s (some (f a)))=some (.nx (st s' (some (f a))))/\P (i+1) s') (∃τ,body (st s (some (f a)))=some (.xc c τ))) ->
  J7 (Ed step s L) (λs'=>(∃y,Bz b body (L.map f) (st s x)=some (.nx (st s' y)))/\P (i+L.length) s') (∃τ,Bz b body (L.map f) (st s x)=some (.xc c τ))
 |[],i,s,x,_,hP,_=>⟨⟨x,rfl⟩,hP⟩
 |a::L,i,s,x,hN,hP,h=>by
  rw[ya6]at hN;obtain⟨h1,h2⟩:=h a (ya3 ..) i s x (by omega) hP
  unfold Ed;cases e:step s a with
  |none =>
   rw[e]at h2;obtain⟨τ,h2⟩:=h2;refine⟨τ,?_⟩;rw[yae];unfold Bz;simp only[h1,h2]
  |some s' =>
   rw[e]at h2;have ih:=Qp f st step P L (i+1) s' (some (f a)) (by omega) h2.2 λa ha=>h a (ya0 _ ha)
   have e2:Bz b body ((a::L).map f) (st s x)=Bz b body (L.map f) (st s' (some (f a))):=by
    rw[yae]
    conv=>lhs;unfold Bz
    simp only[h1,h2.1]
   simp only;rw[e2,ya6,show i+(L.length+1)=i+1+L.length by omega]
   exact ih
theorem RX{w v:W}:Txt.endswith (mk w) (mk v)=true ↔ ∃a,w=a++v:=by
 unfold Txt.endswith;rw[ya2,ye9,yex,yf1,Nat.zero_add];show v.length<=w.length/\(w.drop (w.length - v.length)).take v.length=v ↔ _;constructor
 .rintro⟨h1,h2⟩;rw[ybh (by rw[ycv];omega)]at h2
  exact⟨w.take (w.length - v.length),by conv=>lhs;rw[<- List.take_append_drop (w.length - v.length) w,h2]⟩
 .rintro⟨a,rfl⟩;rw[yag];refine⟨by omega,?_⟩
  rw[Nat.add_sub_cancel,yd8 rfl];exact yeb
theorem n0_mk:Str.ofString ":0"=mk [58,48]:=Tx.cs_ext (by decide +kernel)
theorem Y0:Str.ofString "!"=mk [33]/\Str.ofString "?"=mk [63]:=⟨Tx.cs_ext (by decide +kernel),Tx.cs_ext (by decide +kernel)⟩
theorem WH{w x:W}(h:EI w=some x):w=x++[58,48]:=by
 unfold EI at h;split at h
 .rename_i r e;cases h;rw[<- ycx w,e,ycr,ycr,yc1]
  rfl
 .cases h
theorem enw_0(w:W):Txt.endswith (mk w) (Str.ofString ":0")=(EI w).isSome:=by
 rw[n0_mk,ybm,RX];constructor
 .rintro⟨a,rfl⟩;rw[WI]
  rfl
 .intro h;obtain⟨x,hx⟩:=yda.mp h;exact⟨x,WH hx⟩
theorem Wy{w:W}{c:Nat}:w.getLast?=some c ↔ ∃a,w=a++[c]:=by
 constructor
 .intro h;exact⟨w.dropLast,by rw[List.getLast?_eq_some_iff]at h;obtain⟨a,rfl⟩:=h;rw[ycw]⟩
 .rintro⟨a,rfl⟩;rw[ybz]
  rfl
theorem enw_s(w:W):(Txt.endswith (mk w) (Str.ofString "!") || Txt.endswith (mk w) (Str.ofString "?"))=Er w:=by
 rw[Y0.1,Y0.2,ybm,ybq,RX,RX];unfold Er;rw[yf1,Wy,Wy]
theorem Wl{w:W}(h:Ok w){k:BS}(e:Ck w=some k):ID k:=by
 unfold Ck at e;cases hw:Cb w with
 |none=>rw[hw]at e;cases e
 |some p =>
  obtain⟨a,c,r⟩:=p;obtain⟨ew,_,_⟩:=Rc hw;rw[hw]at e;simp only at e;split at e
  .cases e;have hc:c<128:=h.2 c (by rw[ew];exact yak _ (ya3 ..))
   refine⟨h.sub (by rw[ew];exact List.sublist_append_left ..),?_⟩
   unfold GX;split
   .exact⟨show 2<=50000 by decide,λd hd=>by
     rcases yad.mp hd with rfl|hd
     .exact hc
     .rw[ya7.mp hd]
      decide⟩
   .exact⟨show 1<=50000 by decide,λd hd=>by rw[ya7.mp hd];exact hc⟩
  .cases e
theorem W3{w v:W}{s:Str}(hs:s=mk v)(h:Ok w)(hv:Ok v):CI (.str (mk w)) (.str s)=some (.bl (!decide (w=v))):=by
 rw[hs,KJ (Iq h) (Iq hv)]
 congr 3
 rw[yfc];exact⟨KL,λh=>by rw[h]⟩
theorem KG:Ok []:=DV (by decide) (by decide)
abbrev E1(A:List T)(s:IF)(x:Option T):AB:=[some (.lst A),some (.own (s.1.map Ar)),some (.own (AN s.2.1)),some (.str (mk s.2.2)),x]
structure RdP(i:Nat)(s:IF):Prop where
 gl:s.1.length<=i
 nl:s.2.1.length<=i
 g:∀k∈s.1,ID k
 n:∀x∈s.2.1,Ok x
 z:Ok s.2.2
theorem zi2{A:List T}{i:Nat}{s:IF}{w:W}(h:Ok w)(hi:i<900)(k:RdP i s):J7 (Gk s w) (λs'=>Dv (E1 A s (some (.str (mk w))))=some (.nx (E1 A s' (some (.str (mk w)))))/\RdP (i+1) s') (∃τ,Dv (E1 A s (some (.str (mk w))))=some (.xc "NoText" τ)):=by
 obtain⟨g,n,z⟩:=s;have kz:=W3 Kg k.z KG;have kl:=k.gl;have kn:=k.nl;simp only at kz kl kn;have ll:=Fi h.1;unfold Gk;simp only
 by_cases hz:z=[]
 .subst hz;rw[if_neg λq=>q rfl]
  rw[yer rfl]at kz;have e0:=enw_0 w;have es:=enw_s w;cases hn:EI w with
  |some x =>
   rw[hn]at e0;have ew:=WH hn
   have sl:Txt.slice (mk w) none (some (-2))=mk x:=by
    have hl:(Tx.cs (mk w)).length=x.length+2:=by show w.length=_;rw[ew,yag];rfl
    have e2:Txt.slice (mk w) none (some (-2))=StrLaws.sliceText (mk w) none (some (-2)):=rfl;rw[e2,StrLaws.sliceText_neg_hi _ none (by decide) (by rw[Tx.cs_len,hl];omega)]
    have e3:((-2:Int)+((mk w).length:Int))=((x.length:Nat):Int):=by rw[Tx.cs_len,hl];omega
    rw[e3];refine Tx.cs_ext ?_;show Tx.cs (Txt.slice (mk w) none (some ((x.length:Nat):Int)))=x;rw[Tx.sl_to (by omega)]
    show w.take x.length=x;rw[ew];exact List.take_left' rfl
   refine⟨?_,⟨yc2 kl,by rw[yag];show n.length+1<=_;omega,k.g,λy hy=>?_,k.z⟩⟩
   .have nl:(AN n).length<100000:=by rw[CO];omega
    have e0:Txt.endswith (mk w) (Str.ofString ":0")=true:=e0;have en:AN (n++[x])=AN n++[.str (mk x)]:=by rw[FZ,FZ,yal];rfl
    unfold E1 Dv Hg
    simp![kz,Dp,e0,Au,show(-(2:Int))=-2 from rfl,sl,ll,nl,en]
   .rcases yat.mp hy with hy|hy
    .exact k.n y hy
    .rw[ya7.mp hy];exact h.sub (by rw[ew];exact List.sublist_append_left ..)
  |none =>
   rw[hn]at e0;have e0:Txt.endswith (mk w) (Str.ofString ":0")=false:=e0;simp only;cases hs:Er w with
   |true =>
    rw[hs]at es;refine⟨?_,⟨yc2 kl,yc2 kn,k.g,k.n,h⟩⟩;unfold Dv Hg;cases h1:Txt.endswith (mk w) (Str.ofString "!") with
    |true=>simp![kz,Dp,e0,h1]
    |false =>
     rw[h1,ybp]at es
     simp![kz,Dp,e0,h1,es]
   |false =>
    rw[hs,ybe]at es;rw[if_neg Bool.noConfusion]
    by_cases hn0:n=[]
    .rw[if_neg λq=>q hn0]
     have nl:decide ((0:Int)<((n.length:Nat):Int))=false:=yec (by rw[hn0];decide)
     have e:=UK h;cases hk:Ck w with
     |some q =>
      rw[hk]at e;unfold CT at e;have gl:(g.map Ar).length<100000:=by rw[ya1];omega
      refine⟨?_,⟨by rw[yag];show g.length+1<=_;omega,yc2 kn,λy hy=>?_,k.n,k.z⟩⟩
      .have en:(g++[q]).map Ar=g.map Ar++[Ar q]:=yal;unfold E1 Dv Hg
       simp![kz,Dp,e0,es.1,es.2,e,gl,A8,A7,CO,nl,en]
      .rcases yat.mp hy with hy|hy
       .exact k.g y hy
       .rw[ya7.mp hy];exact Wl h hk
     |none =>
      rw[hk]at e;unfold CT at e;refine⟨E1 A (g,n,[]) (some (.str (mk w))),?_⟩;unfold Dv Hg
      simp![kz,Dp,e0,es.1,es.2,e,A8,A7,CO,nl]
    .rw[if_pos hn0];have nl:decide ((0:Int)<((n.length:Nat):Int))=true:=yer (by have:=yd3.mpr hn0;omega)
     refine⟨E1 A (g,n,[]) (some (.str (mk w))),?_⟩;unfold Dv Hg
     simp![kz,Dp,e0,es.1,es.2,A8,A7,CO,nl]
 .rw[if_pos hz];rw[yec hz]at kz;refine⟨E1 A (g,n,z) (some (.str (mk w))),?_⟩;unfold Dv
  simp![kz]
theorem Ys(a:T)(l:List T):BL (a::l) (some 1) none=l:=by
 unfold BL;rw[show(some (1:Int))=some ((1:Nat):Int) from rfl,HT.sIx_nat,HT.sIx_none,ya6,yco (by omega)]
 exact ybh (by show l.length<=_;omega)
theorem Yr(a b:T)(l:List T):BL (a::b::l) (some 2) none=l:=by
 unfold BL;rw[show(some (2:Int))=some ((2:Nat):Int) from rfl,HT.sIx_nat,HT.sIx_none,ya6,ya6,yco (by omega)]
 exact ybh (by show l.length<=_;omega)
theorem Yq(a b c:T)(l:List T):BL (a::b::c::l) (some 3) none=l:=by
 unfold BL;rw[show(some (3:Int))=some ((3:Nat):Int) from rfl,HT.sIx_nat,HT.sIx_none,ya6,ya6,ya6,yco (by omega)]
 exact ybh (by show l.length<=_;omega)
theorem J1(a:T)(l:List T):Af (a::l) 0=some a:=D0 (by decide) rfl
theorem Hy(a b:T)(l:List T):Af (a::b::l) 1=some b:=D0 (by decide) rfl
theorem SU(a b c:T)(l:List T):Af (a::b::c::l) 2=some c:=D0 (by decide) rfl
theorem zfp{x a b:W}{r:List W}(h:∀w∈x::a::b::r,Ok w)(hl:r.length<=900):(Fz [.lst (AN (x::a::b::r))]=CT Ba (Gn (x::a::b::r)))/\∀d,Gn (x::a::b::r)=some d->DoOk d:=by
 have fo:=Qp (b:=AG 4) (body:=Dv) (c:="NoText") (N:=900) (λw=>T.str (mk w)) (E1 (AN (x::a::b::r))) Gk RdP r 0 ([],[],[]) none (by omega) ⟨yaf _,yaf _,λk hk=>(by cases hk),λk hk=>(by cases hk),KG⟩ λw hw i s x hi k=>⟨rfl,zi2 (h w (ya0 _ (ya0 _ (ya0 _ hw)))) hi k⟩
 rw[<- FZ]at fo;have ha:=h a (ya0 _ (ya3 ..));have hb:=h b (ya0 _ (ya0 _ (ya3 ..)));unfold Gn;simp only
 have fo':Bz (AG 4) Dv (AN r) (E1 (AN (x::a::b::r)) ([],[],[]) none)=Bz (AG 4) Dv (AN r) [some (.lst (AN (x::a::b::r))),some (.own []),some (.own []),some (.str (Str.ofString "")),none]:=by
  rw[Kg]
  rfl
 rw[fo']at fo;generalize hA:AN (x::a::b::r)=A at *;have sA:Aa A=true:=by rw[<- hA];exact A7 _
 have cut:BL A (some 3) none=AN r:=by rw[<- hA];exact Yq _ _ _ _
 have a1:Af A 1=some (.str (mk a)):=by rw[<- hA];exact Hy _ _ _
 have a2:Af A 2=some (.str (mk b)):=by rw[<- hA];exact SU _ _ _ _
 cases hf:Ed Gk ([],[],[]) r with
 |none =>
  rw[hf]at fo;obtain⟨τ,fo⟩:=fo;refine⟨?_,λd hd=>by cases hd⟩
  have key:Iz [some (.lst A),none,none,none,none]=some (.xc "NoText" τ):=by
   unfold Iz;refine sq (τ':=[some (.lst A),some (.own []),none,none,none]) (by simp![]) ?_
   refine sq (τ':=[some (.lst A),some (.own []),some (.own []),none,none]) (by simp![]) ?_
   refine sq (τ':=[some (.lst A),some (.own []),some (.own []),some (.str (Str.ofString "")),none]) (by simp![]) ?_
   refine OC (by
    simp![sA,AW _ sA,cut,A8]
    exact fo)
  unfold Fz
  simp![sA,AW _ sA,key]
  rfl
 |some s =>
  rw[hf]at fo;obtain⟨⟨y,fo⟩,kp⟩:=fo
  refine⟨?_,λd hd=>by
   cases hd;have h1:=kp.gl;have h2:=kp.nl;exact⟨ha,hb,kp.g,by show s.1.length<=1000;omega,kp.n,by show s.2.1.length<1000;omega,kp.z⟩⟩
  have di:J6 [.str (mk a),.str (mk b),.lst (s.1.map Ar),.lst (AN s.2.1),.str (mk s.2.2)]=some (.ok (Ba (a,b,s))):=di_ok (a,b,s)
  have key:Iz [some (.lst A),none,none,none,none]=some (.rt (Ba (a,b,s))):=by
   unfold Iz;refine sq (τ':=[some (.lst A),some (.own []),none,none,none]) (by simp![]) ?_
   refine sq (τ':=[some (.lst A),some (.own []),some (.own []),none,none]) (by simp![]) ?_
   refine sq (τ':=[some (.lst A),some (.own []),some (.own []),some (.str (Str.ofString "")),none]) (by simp![]) ?_
   refine sq (τ':=E1 A s y) (by
    simp![sA,AW _ sA,cut,A8]
    exact fo) ?_
   have lk:=DH s.1;refine sq (τ':=[some (.lst A),some (.lst (s.1.map Ar)),some (.own (AN s.2.1)),some (.str (mk s.2.2)),y]) (by simp![AW _ lk]) ?_
   refine sq (τ':=[some (.lst A),some (.lst (s.1.map Ar)),some (.lst (AN s.2.1)),some (.str (mk s.2.2)),y]) (by simp![A8]) ?_
   simp![sA,a1,a2,lk,AW _ lk,A7,A8,di]
  unfold Fz
  simp![sA,AW _ sA,key]
  rfl
abbrev OM:Stmt:=AV 54
def NI:AB->Option Rs :=
 (Bn (AA 0) (mC (.str " ")))
def EY:AB->Option Out :=
 (Ab (Bo (m2 BC (AM (AA 4) (mC (.int 0))) (mC (.str "room"))) (Bo (m2 (Bp λi j=>decide (j<=i)) (m1 BP (AA 4)) (mC (.int 2))) (m2 BC (m1 BP (AA 3)) (mC (.int 0))))) (Bx 2 (AO (AD (AM (AA 4) (mC (.int 1))) (AD (AR Gu (AD (Ax (Ay (AA 4) (some (mC (.int 2))) none) (Au (AA 4) (some (mC (.int 2))) none)) AE)) AE)))) (Ab (Bo (m2 BC (AM (AA 4) (mC (.int 0))) (mC (.str "door"))) (m2 (Bp λi j=>decide (j<=i)) (m1 BP (AA 4)) (mC (.int 3)))) (Bx 3 (AR Fz (AD (AA 4) AE))) (BR "NoText" (AD (mC (.str "behind the watches are rows of rooms, then of doors")) AE))))
def Fj:AB->Option Out :=
 (AI (Bw (AR FR (AD (AA 0) AE)))
 (AI (AQ (BO 1 [] (B7 (Bn (AA 0) (mC (.str "\n")))) (AG 0) (mC (.bl true)) NI) (AG 1))
 (AI (Ab (m2 CI (AM (AM (AA 1) (mC (.int 0))) (mC (.int 0))) (mC (.str "watches"))) (BR "NoText" (AD (mC (.str "the first row of a machine is that of its watches")) AE)) Aq)
 (AI (Ct 2 (AK AE))
 (AI (Ct 3 (AK AE))
 (AI (EA (B7 (Ax (Ay (AA 1) (some (mC (.int 1))) none) (Au (AA 1) (some (mC (.int 1))) none))) (AG 4) EY)
 (AI (Dj 2) (AI (Dj 3) (A2 (E7 IA [] (AD (Ax (Ay (AM (AA 1) (mC (.int 0))) (some (mC (.int 1))) none) (Au (AM (AA 1) (mC (.int 0))) (some (mC (.int 1))) none)) (AD (AA 2) (AD (AA 3) AE)))))))))))))
def CZ:List T->Option Ru:=An 1 5 Fj
abbrev Qu:Fn:=⟨8,["text"],CZ⟩
abbrev zal:Gx:=⟨[],[],[],[("Machine",YT,[(3,[])])],false,true,true,none,[],[],[],true,[],[],[],[],[]⟩
abbrev X6:Gm:=⟨["text","rows","rooms","doors","words"],(AL OM).names,[],7,[("check_text",JP),("read_looks",Mp),("read_door",Qw)],["len"],["NoText"],["rooms","doors"],[],false,[],[],[],zal⟩
theorem zah:FnScope X6.N Qu.ps (AL OM):=Ap (by decide +kernel)
theorem zan:Aj 200 X6 (Ah OM)=some Fj:=by ext
theorem Tn{c:AB->Option Rs}{a b:AB->Option Out}{τ:AB}{x:Bool}(h:c τ=some (.v (.bl false) x)):Ab c a b τ=b τ:=by
 unfold Ab;rw[h]
abbrev Cv(r:List W):T:=.lst (AN r)
theorem UI(R:List (List W)):Aa (R.map Cv)=true:=by
 rw[Cd,yab];intro t ht;obtain⟨r,_,rfl⟩:=yai.mp ht;show((!false) && Aa (AN r))=true;rw[A7]
 rfl
theorem UJ:∀L:List (List W),Aw (L.map λr=>T.own (AN r))=L.map Cv
 |[]=>rfl
 |r::L=>by
  show T.nd false .lst (Aw (AN r))::Aw (L.map λr=>T.own (AN r))=_
  rw[UJ L,A8]
  rfl
structure RmP(i:Nat)(s:J9):Prop where
 rl:s.1.length<=i
 dl:s.2.length<=i
 r:∀r∈s.1,Sa r
 d:∀d∈s.2,DoOk d
abbrev CG(X:T)(A:List T)(s:J9)(x:Option T):AB:=[some X,some (.lst A),some (.own (s.1.map Ci)),some (.own (s.2.map Ba)),x]
theorem MC:Str.ofString "room"=mk HB/\Str.ofString "door"=mk IL/\Str.ofString "watches"=mk Jb:=⟨Tx.cs_ext (by decide +kernel),Tx.cs_ext (by decide +kernel),Tx.cs_ext (by decide +kernel)⟩
theorem MB:Ok HB/\Ok IL/\Ok Jb:=⟨DV (by decide) (by decide),DV (by decide) (by decide),DV (by decide) (by decide)⟩
theorem zmf{l:List W}(h:∀w∈l,Ok w):∀{q:List BS},Bs l=some q->(∀k∈q,ID k)/\q.length=l.length:=by
 induction l with
 |nil=>intro q e;cases e;exact⟨λk hk=>(by cases hk),rfl⟩
 |cons w l ih =>
  intro q e;unfold Bs at e;cases e1:Ck w with
  |none=>rw[e1]at e;cases e
  |some k =>
   rw[e1]at e;cases e2:Bs l with
   |none=>rw[e2]at e;cases e
   |some q' =>
    rw[e2]at e;cases e;obtain⟨h1,h2⟩:=ih (λw hw=>h w (ya0 _ hw)) e2
    refine⟨λk hk=>?_,by rw[ya6,ya6,h2]⟩
    rcases yad.mp hk with rfl|hk
    .exact Wl (h w (ya3 ..)) e1
    .exact h1 k hk
theorem zi0{X:T}{A B:List T}{rs:List (W×List BS)}{ds:List DM}{a b:W}{r:List W}{q:Option (List BS)}(h0:Af B 0=some (.str (mk a)))(h1:Af B 1=some (.str (mk b)))(hl:B.length=r.length+1+1)(hs:Aa B=true)(hc:BL B (some 2) none=AN r)(e1:BC (.str (mk a)) (.str "room")=some (.bl true))(hd:ds=[])(e:Gu [.lst (AN r)]=CT (λl=>.own (l.map Ar)) q)(rl:(rs.map Ci).length<100000) :
  J7 q (λq=>EY (CG X A (rs,ds) (some (.lst B)))=some (.nx (CG X A (rs++[(b,q)],ds) (some (.lst B))))) (∃τ,EY (CG X A (rs,ds) (some (.lst B)))=some (.xc "NoText" τ)):=by
 subst hd;have d2:decide ((2:Int)<=((r.length+1+1:Nat):Int))=true:=yer (by omega)
 have d0:((0:Int) == 0)=true:=rfl;have hs':=AW _ hs;cases q with
 |some q =>
  unfold CT at e;have eq':=DH q;have en:(rs++[(b,q)]).map Ci=rs.map Ci++[Ci (b,q)]:=yal;show EY _=_;unfold CG EY
  simp![h0,e1,hs,hs',hl,d2,CA,d0,h1,hc,e,A8,A7,eq',AW _ eq',rl,en]
 |none =>
  unfold CT at e;refine⟨CG X A (rs,[]) (some (.lst B)),?_⟩;unfold EY
  simp![h0,e1,hs,hs',hl,d2,CA,d0,h1,hc,e,A8,A7]
theorem Pa{X:T}{A B:List T}{rs:List (W×List BS)}{ds:List DM}{a:W}{n:Nat}(h0:Af B 0=some (.str (mk a)))(hl:B.length=n)(hs:Aa B=true)(ha:Ok a)(hA:¬ (some a=some HB/\2<=n/\ds=[])){u:Option Out}(hu:Ab (Bo (m2 BC (AM (AA 4) (mC (.int 0))) (mC (.str "door"))) (m2 (Bp λi j=>decide (j<=i)) (m1 BP (AA 4)) (mC (.int 3)))) (Bx 3 (AR Fz (AD (AA 4) AE))) (BR "NoText" (AD (mC (.str "behind the watches are rows of rooms, then of doors")) AE)) (CG X A (rs,ds) (some (.lst B)))=u) :
  EY (CG X A (rs,ds) (some (.lst B)))=u:=by
 have e1:=EO MC.1 ha MB.1;have hs':=AW _ hs;have sd:=Mx ds;rw[<- hu];unfold EY;refine Tn (x:=false) ?_
 by_cases q1:a=HB
 .rw[yer q1]at e1
  by_cases q2:2<=n
  .have d2:decide ((2:Int)<=((n:Nat):Int))=true:=yer (by omega)
   have d0:((((ds.map Ba).length:Nat):Int) == 0)=false:=by
    rw[yfd,ya1];have:=yd3.mpr λq3=>hA ⟨by rw[q1],q2,q3⟩
    omega
   simp![h0,e1,hs,hs',hl,d2,CA,d0,sd,AW _ sd]
  .have d2:decide ((2:Int)<=((n:Nat):Int))=false:=yec (by omega)
   simp![h0,e1,hs,hs',hl,d2]
 .rw[yec q1]at e1
  simp![h0,e1,hs,hs']
theorem zi1{X:T}{A B:List T}{rs:List (W×List BS)}{ds:List DM}{a:W}{n:Nat}{q:Option DM}(h0:Af B 0=some (.str (mk a)))(hl:B.length=n)(hs:Aa B=true)(h3:3<=n)(e2:BC (.str (mk a)) (.str "door")=some (.bl true))(e:Fz [.lst B]=CT Ba q)(rl:(ds.map Ba).length<100000) :
  J7 q (λd=>Ab (Bo (m2 BC (AM (AA 4) (mC (.int 0))) (mC (.str "door"))) (m2 (Bp λi j=>decide (j<=i)) (m1 BP (AA 4)) (mC (.int 3)))) (Bx 3 (AR Fz (AD (AA 4) AE))) (BR "NoText" (AD (mC (.str "behind the watches are rows of rooms, then of doors")) AE)) (CG X A (rs,ds) (some (.lst B)))=some (.nx (CG X A (rs,ds++[d]) (some (.lst B)))))
   (∃τ,Ab (Bo (m2 BC (AM (AA 4) (mC (.int 0))) (mC (.str "door"))) (m2 (Bp λi j=>decide (j<=i)) (m1 BP (AA 4)) (mC (.int 3)))) (Bx 3 (AR Fz (AD (AA 4) AE))) (BR "NoText" (AD (mC (.str "behind the watches are rows of rooms, then of doors")) AE)) (CG X A (rs,ds) (some (.lst B)))=some (.xc "NoText" τ)):=by
 have d3:decide ((3:Int)<=((n:Nat):Int))=true:=yer (by omega)
 have hs':=AW _ hs;cases q with
 |some d =>
  unfold CT at e;have en:(ds++[d]).map Ba=ds.map Ba++[Ba d]:=yal;show Ab _ _ _ _=_;unfold CG
  simp![h0,e2,hs,hs',hl,d3,e,rl,en]
 |none =>
  unfold CT at e;refine⟨CG X A (rs,ds) (some (.lst B)),?_⟩
  simp![h0,e2,hs,hs',hl,d3,e]
theorem zhz{X:T}{A:List T}{i:Nat}{s:J9}{ws:List W}(h0:ws≠[])(h:∀w∈ws,Ok w)(hl:ws.length<=900)(hi:i<900)(k:RmP i s):J7 (G5 s ws) (λs'=>EY (CG X A s (some (Cv ws)))=some (.nx (CG X A s' (some (Cv ws))))/\RmP (i+1) s') (∃τ,EY (CG X A s (some (Cv ws)))=some (.xc "NoText" τ)):=by
 obtain⟨rs,ds⟩:=s;cases ws with
 |nil=>exact absurd rfl h0
 |cons a r =>
  have kr:=k.rl;have kd:=k.dl;simp only at kr kd;have ha:=h a (ya3 ..);have a0:Af (AN (a::r)) 0=some (.str (mk a)):=J1 _ _;have l1:(AN (a::r)).length=r.length+1:=CO _;have el:Aa (AN (a::r))=true:=A7 _;unfold G5;rw[yd7,ya6];simp only
  by_cases hA:some a=some HB/\2<=r.length+1/\ds=[]
  .rw[if_pos hA];obtain⟨hq,h2,hd⟩:=hA;cases r with
   |nil=>exact absurd h2 (by decide)
   |cons b r =>
    have e1:=EO MC.1 ha MB.1;rw[yer (ya9 hq)]at e1;have e:=Pb (ws:=r) (λw hw=>h w (ya0 _ (ya0 _ hw))) (by rw[ya6,ya6]at hl;omega)
    have key:=zi0 (X:=X) (A:=A) a0 (Hy (.str (mk a)) (.str (mk b)) (AN r)) l1 el (Yr (.str (mk a)) (.str (mk b)) (AN r)) e1 hd e (rs:=rs) (by rw[ya1];omega)
    rw[yaz,yaz,ybc];cases hk:Bs r with
    |some q =>
     rw[hk]at key;obtain⟨q1,q2⟩:=zmf (λw hw=>h w (ya0 _ (ya0 _ hw))) hk
     refine⟨key,⟨?_,yc2 kd,λy hy=>?_,k.d⟩⟩
     .rw[yag];show rs.length+1<=_
      omega
     .rcases yat.mp hy with hy|hy
      .exact k.r y hy
      .rw[ya7.mp hy];refine⟨h b (ya0 _ (ya3 ..)),q1,?_⟩;show q.length<=1000;rw[ya6,ya6]at hl
       omega
    |none =>
     rw[hk]at key;exact key
  .rw[if_neg hA];have e2:=EO MC.2.1 ha MB.2.1
   by_cases hB:some a=some IL/\3<=r.length+1
   .rw[if_pos hB]
    obtain⟨b,c,r,rfl⟩:∃b c r',r=b::c::r':=by
     match r,hB.2 with
     |[],z=>exact absurd z (by decide)
     |[_],z=>exact absurd z (show ¬ 3<=2 by decide)
     |b::c::r,_=>exact⟨b,c,r,rfl⟩
    .rw[yer (ya9 hB.1)]at e2;obtain⟨e,hdo⟩:=zfp h (by rw[ya6,ya6,ya6]at hl;omega)
     have key:=zi1 (X:=X) (A:=A) (rs:=rs) a0 l1 el hB.2 e2 e (ds:=ds) (by rw[ya1];omega)
     cases hk:Gn (a::b::c::r) with
     |some d =>
      rw[hk]at key;refine⟨Pa a0 l1 el ha hA key,⟨yc2 kr,?_,k.r,λy hy=>?_⟩⟩
      .rw[yag];show ds.length+1<=_
       omega
      .rcases yat.mp hy with hy|hy
       .exact k.d y hy
       .rw[ya7.mp hy];exact hdo d hk
     |none =>
      rw[hk]at key;obtain⟨τ,key⟩:=key;exact⟨τ,Pa a0 l1 el ha hA key⟩
   .rw[if_neg hB];refine⟨CG X A (rs,ds) (some (Cv (a::r))),Pa a0 l1 el ha hA ?_⟩;show Ab _ _ _ (CG X A (rs,ds) (some (.lst (AN (a::r)))))=some (.xc _ (CG X A (rs,ds) (some (.lst (AN (a::r))))));generalize AN (a::r)=B at *;refine(Tn (x:=false) ?_).trans ?_
    .have hs':=AW _ el
     by_cases q1:a=IL
     .rw[yer q1]at e2;have d3:decide ((3:Int)<=((r.length+1:Nat):Int))=false:=yec (λz=>hB ⟨by rw[q1],by omega⟩)
      simp![a0,e2,el,hs',d3,l1]
     .rw[yec q1]at e2
      simp![a0,e2,el,hs']
    .simp![]
theorem MU:Str.ofString "\n"=(⟨#[10]⟩:Str)/\Str.ofString " "=(⟨#[32]⟩:Str):=⟨Tx.cs_ext (by decide +kernel),Tx.cs_ext (by decide +kernel)⟩
theorem La(w:W):Txt.split (mk w) (Str.ofString "\n")=(A6 10 w).map mk/\Txt.split (mk w) (Str.ofString " ")=(A6 32 w).map mk:=by
 rw[MU.1,MU.2];exact⟨OD 10 w,OD 32 w⟩
theorem Lb{w:W}(h:Ok w):(((Str.ofString "\n").length == 0)=false/\(mk w).length+2<=AY)/\((Str.ofString " ").length == 0)=false/\(mk w).length+2<=AY:=by
 have:=Fi h.1;have h2:(mk w).length+2<=AY:=by unfold AY;omega
 exact⟨⟨by decide +kernel,h2⟩,by decide +kernel,h2⟩
theorem zfn{w:W}(h:Ok w)(h1:(A6 10 w).length<=900)(h2:∀p∈A6 10 w,(A6 32 p).length<=900):Bt (Ie ((A6 10 w).map (A6 32))) (CZ [.str (mk w)]):=by
 have hp:∀p∈A6 10 w,Ok p:=λp hp=>h.sub ((IY 10 w).1 p hp)
 have lc:=E9 (b:=AG 0) (me:=NI) (λp=>T.str (mk p)) (λp=>T.own (AN (A6 32 p))) (λτ=>∃a,τ=[a]) (A6 10 w) [none] ⟨none,rfl⟩ λp hpm τ hI=>by
  obtain⟨a,rfl⟩:=hI;refine⟨[some (.str (mk p))],rfl,?_,_,rfl⟩;unfold NI
  simp![Bn,(Lb (hp p hpm)).2,(La p).2]
 rw[<- FZ]at lc;have eo:(A6 10 w).map (λp=>T.own (AN (A6 32 p)))=((A6 10 w).map (A6 32)).map λr=>T.own (AN r):=by rw[yax];rfl
 rw[eo]at lc
 have hR:∀r∈(A6 10 w).map (A6 32),r≠[]/\(∀x∈r,Ok x)/\r.length<=900:=λr hr=>by
  obtain⟨p,hpm,rfl⟩:=yai.mp hr;exact⟨(F6 32 p).1,λx hx=>(hp p hpm).sub ((IY 32 p).1 x hx),h2 p hpm⟩
 have hn:(A6 10 w).map (A6 32)≠[]:=λz=>(F6 10 w).1 (ybl.mp z)
 have hl:((A6 10 w).map (A6 32)).length<=900:=by rw[ya1];exact h1
 have ll:(AN (A6 10 w)).length<=100000:=by rw[CO];omega
 have ct:=JX (mk w)
 have fst:∀R,(A6 10 w).map (A6 32)=R->∀g,(∀τ,g [some (.str (mk w)),some (.lst (R.map Cv)),none,none,none]=τ->AI (Bw (AR FR (AD (AA 0) AE))) (AI (AQ (BO 1 [] (B7 (Bn (AA 0) (mC (.str "\n")))) (AG 0) (mC (.bl true)) NI) (AG 1)) g) [some (.str (mk w)),none,none,none,none]=τ):=λR hR g τ hg=>by
  refine sq (τ':=[some (.str (mk w)),none,none,none,none]) (by simp![ct]) ?_
  refine sq (τ':=[some (.str (mk w)),some (.lst (R.map Cv)),none,none,none]) ?_ hg;rw[<- hR]
  simp![Bn,Lb h,La,ll,lc,A8,UJ]
 cases hr:(A6 10 w).map (A6 32) with
 |nil=>exact absurd hr hn
 |cons r0 rest =>
  rw[hr]at hR hl;obtain⟨n0,o0,l0⟩:=hR r0 (ya3 ..);cases r0 with
  |nil=>exact absurd rfl n0
  |cons hd ws =>
   have fst:=fst _ hr;have sR:=UI ((hd::ws)::rest);have sR':=AW _ sR;have a0:Af (((hd::ws)::rest).map Cv) 0=some (Cv (hd::ws)):=J1 _ _;have cR:BL (((hd::ws)::rest).map Cv) (some 1) none=rest.map Cv:=Ys _ _;have sB:Aa (AN (hd::ws))=true:=A7 _;have b0:Af (AN (hd::ws)) 0=some (.str (mk hd)):=J1 _ _;have cB:BL (AN (hd::ws)) (some 1) none=AN ws:=Ys _ _;have e:=W3 MC.2.2 (o0 hd (ya3 ..)) MB.2.2;have fo:=Qp (b:=AG 4) (body:=EY) (c:="NoText") (N:=900) Cv (CG (.str (mk w)) (((hd::ws)::rest).map Cv)) G5 RmP rest 0 ([],[]) none (by rw[ya6]at hl;omega) ⟨yaf _,yaf _,λk hk=>(by cases hk),λk hk=>(by cases hk)⟩ λr hm i s x hi k=>⟨rfl,zhz (hR r (ya0 _ hm)).1 (hR r (ya0 _ hm)).2.1 (hR r (ya0 _ hm)).2.2 hi k⟩
   unfold Ie;simp only;generalize hA:((hd::ws)::rest).map Cv=A at *;unfold Cv at a0;generalize hB:AN (hd::ws)=B at *
   by_cases hw:hd=Jb
   .rw[if_pos hw];rw[yer hw]at e
    have frame:∀g,(∀τ,g [some (.str (mk w)),some (.lst A),some (.own []),some (.own []),none]=τ->AI (Ab (m2 CI (AM (AM (AA 1) (mC (.int 0))) (mC (.int 0))) (mC (.str "watches"))) (BR "NoText" (AD (mC (.str "the first row of a machine is that of its watches")) AE)) Aq) (AI (Ct 2 (AK AE)) (AI (Ct 3 (AK AE)) g)) [some (.str (mk w)),some (.lst A),none,none,none]=τ):=λg τ hg=>by
     refine sq (τ':=[some (.str (mk w)),some (.lst A),none,none,none]) (by simp![a0,b0,sR,sR',sB,AW _ sB,e]) ?_
     refine sq (τ':=[some (.str (mk w)),some (.lst A),some (.own []),none,none]) (by simp![]) ?_
     exact sq (τ':=[some (.str (mk w)),some (.lst A),some (.own []),some (.own []),none]) (by simp![]) hg
    have sRr:=UI rest;cases hf:Ed G5 ([],[]) rest with
    |none =>
     rw[hf]at fo;obtain⟨τ,fo⟩:=fo
     have key:Fj [some (.str (mk w)),none,none,none,none]=some (.xc "NoText" τ):=by
      unfold Fj;refine fst _ _ (frame _ _ (OC ?_))
      simp![sR,sR',cR,AW _ sRr]
      exact fo
     show CZ _=_;unfold CZ
     simp![key]
    |some s =>
     rw[hf]at fo;obtain⟨⟨y,fo⟩,kp⟩:=fo;have k1:=kp.rl;have mi:=mi_ok (ws:=ws) (λx hx=>o0 x (ya0 _ hx)) (by rw[ya6]at l0;omega) kp.r (by rw[ya6]at hl;omega) kp.d
     have s1:=P9 s.1;have s2:=Mx s.2
     have key:∀u v,IA [.lst (AN ws),EF s.1,.lst (s.2.map Ba)]=v->((∃t,v=some (.ok t)/\u=some (.ok t))\/∃c,v=some (.exc c)/\u=some (.exc c))->CZ [.str (mk w)]=u:=λu v hv hu=>by
      have k2:∀o,A2 (E7 IA [] (AD (Ax (Ay (AM (AA 1) (mC (.int 0))) (some (mC (.int 1))) none) (Au (AM (AA 1) (mC (.int 0))) (some (mC (.int 1))) none)) (AD (AA 2) (AD (AA 3) AE)))) [some (.str (mk w)),some (.lst A),some (EF s.1),some (.lst (s.2.map Ba)),y]=o->Fj [some (.str (mk w)),none,none,none,none]=o:=λo ho=>by
       unfold Fj;refine fst _ _ (frame _ _ ?_)
       refine sq (τ':=CG (.str (mk w)) A s y) (by
        simp![sR,sR',cR,AW _ sRr]
        exact fo) ?_
       refine sq (τ':=[some (.str (mk w)),some (.lst A),some (EF s.1),some (.own (s.2.map Ba)),y]) (by simp![AW _ s1]) ?_
       exact sq (τ':=[some (.str (mk w)),some (.lst A),some (EF s.1),some (.lst (s.2.map Ba)),y]) (by simp![AW _ s2]) ho
      rcases hu with ⟨t,rfl,rfl⟩|⟨c,rfl,rfl⟩
      .have k3:=k2 (some (.rt t)) (by simp![a0,sR,sR',sB,AW _ sB,cB,A8,A7,s1,AW _ s1,s2,AW _ s2,hv])
       unfold CZ
       simp![k3]
      .have k3:=k2 (some (.xc c [some (.str (mk w)),some (.lst A),some (EF s.1),some (.lst (s.2.map Ba)),y])) (by simp![a0,sR,sR',sB,AW _ sB,cB,A8,A7,s1,AW _ s1,s2,AW _ s2,hv])
       unfold CZ
       simp![k3]
     simp only;cases hv:Iw ws s.1 s.2 with
     |read =>
      rw[hv]at mi;obtain⟨t,mi⟩:=mi;exact⟨t,key _ _ mi (.inl ⟨t,rfl,rfl⟩)⟩
     |text =>
      rw[hv]at mi;exact key _ _ mi (.inr ⟨_,rfl,rfl⟩)
     |bad =>
      rw[hv]at mi;exact key _ _ mi (.inr ⟨_,rfl,rfl⟩)
     |many =>
      rw[hv]at mi;exact key _ _ mi (.inr ⟨_,rfl,rfl⟩)
   .rw[if_neg hw];rw[yec hw]at e
    have key:Fj [some (.str (mk w)),none,none,none,none]=some (.xc "NoText" [some (.str (mk w)),some (.lst A),none,none,none]):=by
     unfold Fj;refine fst _ _ (OC ?_)
     simp![a0,b0,sR,sR',sB,AW _ sB,e]
    show CZ _=_;unfold CZ
    simp![key]
abbrev O6:Stmt:=AV 14
def IS:AB->Option Rs :=
 (m2 CI (AA 3) (mC (.int 0)))
def Nj:AB->Option Out :=
 (AI (AQ (m2 Bd (AA 2) (AA 3)) (AG 4))
 (AI (AQ (AA 3) (AG 2))
 (AQ (AA 4) (AG 3))))
def QF:AB->Option Out :=
 (AI (AQ (m1 J2 (AA 0)) (AG 2))
 (AI (AQ (m1 J2 (AA 1)) (AG 3))
 (AI (F7 IS Nj)
 (A2 (AA 2)))))
def N3:List T->Option Ru:=An 2 5 QF
abbrev RF:Fn:=⟨1,["one","other"],N3⟩
abbrev Xn:Gm:=⟨["one","other","greater","lesser","rest"],(AL O6).names,[],0,[],["abs"],[],[],[],false,[],[],[],BW⟩
theorem za0:FnScope Xn.N RF.ps (AL O6):=Ap (by decide +kernel)
theorem za1:Aj 200 Xn (Ah O6)=some QF:=by ext
theorem YH(a b:Int):N3 [.int a,.int b]=some (.ok (.int (Zm.gd a b))):=by
 have loop:=zhq (mc:=IS) (body:=Nj)
  (τ:=[some (.int a),some (.int b),some (.int (if a<0 then -a else a)),some (.int (if b<0 then -b else b)),none])
  (λτ=>∃(g l:Int) (r:Option T),τ=[some (.int a),some (.int b),some (.int g),some (.int l),r]/\0<=g/\0<=l/\Zm.gd g l=Zm.gd a b)
  (λτ=>match τ with|[_,_,_,some (.int l),_]=>l.natAbs|_=>0)
  ⟨_,_,none,rfl,by split<;>omega,by split<;>omega,Zm.gd_abs a b⟩ (by
   rintro τ ⟨g,l,r,rfl,hg,hl,e⟩
   by_cases h0:l=0
   .right;exact⟨false,by unfold IS;simp![DF,h0]⟩
   .left;refine⟨false,by unfold IS;simp![DF];simp[h0],[some (.int a),some (.int b),some (.int l),some (.int (g.fmod l)),some (.int (g.fmod l))],by unfold Nj;simp![h0],⟨_,_,_,rfl,hl,?_,?_⟩,?_⟩
    .exact yb7 g (by omega)
    .exact Zm.gd_turn e
    .exact Zm.fmod_less g h0)
 obtain⟨τ',e1,⟨g,l,r,rfl,hg,hl,e⟩,bb,e2⟩:=loop
 have hl0:l=0:=by
  have e3:IS [some (.int a),some (.int b),some (.int g),some (.int l),r]=some (.v (.bl (!(l == 0))) false):=by unfold IS;simp![DF]
  rw[e3]at e2;exact(by simpa using e2:l=0/\bb=false).1
 have hgd:g=Zm.gd a b:=by
  rw[<- e,hl0];unfold Zm.gd;rw[Int.gcd_zero_right]
  omega
 unfold N3 QF
 simp![e1]
 rw[hgd]
abbrev OP:Stmt:=AV 51
def MZ:AB->Option Out :=
 (AI (Bw (AR FR (AD (AA 0) AE)))
 (AI (AQ (Bn (AA 0) (mC (.str "/"))) (AG 1))
 (AI (Ab (m2 BC (m1 BP (AA 1)) (mC (.int 1))) (A2 (AO (AD (AR Dd (AD (AA 0) AE)) (AD (mC (.int 1)) AE)))) Aq)
 (AI (Ab (m2 (Bp λi j=>decide (j<i)) (m1 BP (AA 1)) (mC (.int 2))) (BR "NoText" (AD (mC (.str "a fraction has one top and one bottom")) AE)) Aq)
 (AI (AQ (AR Dd (AD (AM (AA 1) (mC (.int 0))) AE)) (AG 2))
 (AI (AQ (AR Dd (AD (AM (AA 1) (mC (.int 1))) AE)) (AG 3))
 (AI (Ab (Bi (m2 (Bp λi j=>decide (i<j)) (AA 3) (mC (.int 2))) (m2 (Bp λi j=>decide (j<i)) (AR N3 (AD (AA 2) (AD (AA 3) AE))) (mC (.int 1)))) (BR "NoText" (AD (mC (.str "a fraction is written in lowest terms, without a bottom of 1")) AE)) Aq)
 (A2 (AO (AD (AA 2) (AD (AA 3) AE)))))))))))
def Sb:List T->Option Ru:=An 1 4 MZ
abbrev Qv:Fn:=⟨3,["text"],Sb⟩
abbrev X9:Gm:=⟨["text","parts","top","bottom"],(AL OP).names,[],2,[("check_text",JP),("read_number",JO),("greatest_divisor",RF)],["len"],["NoText"],[],[],false,[],[],[],BW⟩
theorem za7:FnScope X9.N Qv.ps (AL OP):=Ap (by decide +kernel)
theorem zad:Aj 200 X9 (Ah OP)=some MZ:=by ext
theorem sl_is:Str.ofString "/"=(⟨#[47]⟩:Str):=Tx.cs_ext (by decide +kernel)
def Mm(ps:List W):T:=match ps with
 |[a]=>.tup [.int ((NumText.digitsVal a:Nat):Int),.int 1]
 |[a,b]=>.tup [.int ((NumText.digitsVal a:Nat):Int),.int ((NumText.digitsVal b:Nat):Int)]
 |_=>.non
theorem rf_ok{w:W}(h:Ok w):Sb [.str (mk w)]=if Hj (A6 47 w) then some (.ok (Mm (A6 47 w))) else some (.exc "NoText"):=by
 obtain⟨s1,s2,s3⟩:=F6 47 w;have sub:=(IY 47 w).1
 have sc:((Str.ofString "/").length == 0)=false/\(mk w).length+2<=AY:=by
  have:=Fi h.1;exact⟨by decide +kernel,by unfold AY;omega⟩
 have sp:(Txt.split (mk w) (Str.ofString "/")).map T.str=AN (A6 47 w):=by rw[sl_is];exact congrArg _ (OD 47 w)
 show Jr (MZ [some (.str (mk w)),none,none,none])=_;unfold MZ;rw[Cr (τ':=[some (.str (mk w)),none,none,none]) (by simp![JX]),Cr (τ':=[some (.str (mk w)),some (.lst (AN (A6 47 w))),none,none]) (by simp![Bn,sc,sp,A8])]
 generalize A6 47 w=ps at *
 match ps,s1 with
 |[],s1=>exact absurd rfl s1
 |[a],_ =>
  have ew:a=w:=s3;subst ew;have rd:=Ig h.1;show _=if Tx.isNum a then _ else _
  cases hn:Tx.isNum a
  .rw[hn]at rd
   simp![CA,rd]
   rfl
  .rw[hn]at rd
   simp![CA,rd]
   rfl
 |[a,b],_ =>
  have r1:=Ig (h.sub (sub a (ya3 ..))).1;have r2:=Ig (h.sub (sub b (ya0 _ (ya3 ..)))).1;have a1:=J1 (.str (mk a)) [.str (mk b)];have a2:=Hy (.str (mk a)) (.str (mk b)) [];show Jr (AI _ _ [some (.str (mk w)),some (.lst [.str (mk a),.str (mk b)]),none,none])=if Tx.isNum a && (Tx.isNum b && decide (2<=NumText.digitsVal b/\Nat.gcd (NumText.digitsVal a) (NumText.digitsVal b)<=1)) then _ else _
  rw[Cr (τ':=[some (.str (mk w)),some (.lst [.str (mk a),.str (mk b)]),none,none]) (by simp![CA]),Cr (τ':=[some (.str (mk w)),some (.lst [.str (mk a),.str (mk b)]),none,none]) (by simp![])]
  cases h1:Tx.isNum a
  .rw[h1]at r1
   simp![a1,r1]
   rfl
  .rw[h1]at r1;rw[Cr (τ':=[some (.str (mk w)),some (.lst [.str (mk a),.str (mk b)]),some (.int ((NumText.digitsVal a:Nat):Int)),none]) (by simp![a1,r1])]
   cases h2:Tx.isNum b
   .rw[h2]at r2
    simp![a2,r2]
    rfl
   .rw[h2]at r2;rw[Cr (τ':=[some (.str (mk w)),some (.lst [.str (mk a),.str (mk b)]),some (.int ((NumText.digitsVal a:Nat):Int)),some (.int ((NumText.digitsVal b:Nat):Int))]) (by simp![a2,r2])]
    have eg:Zm.gd ((NumText.digitsVal a:Nat):Int) ((NumText.digitsVal b:Nat):Int)=((Nat.gcd (NumText.digitsVal a) (NumText.digitsVal b):Nat):Int):=rfl;have d1:decide (((NumText.digitsVal b:Nat):Int)<2)=!decide (2<=NumText.digitsVal b):=by rw[<- decide_not,yfc];omega
    have d2:decide (1<((Nat.gcd (NumText.digitsVal a) (NumText.digitsVal b):Nat):Int))=!decide (Nat.gcd (NumText.digitsVal a) (NumText.digitsVal b)<=1):=by rw[<- decide_not,yfc];omega
    rw[Bool.decide_and];cases h3:decide (2<=NumText.digitsVal b)
    .rw[h3]at d1
     simp![d1]
     rfl
    .rw[h3]at d1;cases h4:decide (Nat.gcd (NumText.digitsVal a) (NumText.digitsVal b)<=1)
     .rw[h4]at d2
      simp![d1,YH,eg,d2]
      rfl
     .rw[h4]at d2
      simp![d1,YH,eg,d2]
      rfl
 |a::b::c::r,_ =>
  have d1:decide ((2:Int)<((r.length+1+1+1:Nat):Int))=true:=yer (by omega)
  have d0:(((r.length+1+1+1:Nat):Int) == 1)=false:=by rw[yfd];omega
  have hl:(AN (a::b::c::r)).length=r.length+1+1+1:=CO _;have hs:Aa (AN (a::b::c::r))=true:=A7 _;have hs':=AW _ hs;show _=some (Ru.exc "NoText");generalize AN (a::b::c::r)=B at *
  simp![CA,hs,hs',hl,d0,d1]
  rfl
abbrev OJ:Stmt:=AV 57
def G6:AB->Option Out :=
 (AI (AQ (Bn (AA 0) (mC (.str " "))) (AG 1))
 (AI (Ab (m2 CI (m1 BP (AA 1)) (mC (.int 2))) (BR "NoText" (AD (mC (.str "a step is a wait and a door")) AE)) Aq)
 (AI (AQ (Dm (m2 BC (AM (AA 1) (mC (.int 1))) (mC (.str "-"))) (mC .non) (AR Dd (AD (AM (AA 1) (mC (.int 1))) AE))) (AG 2))
 (A2 (AO (AD (AR Sb (AD (AM (AA 1) (mC (.int 0))) AE)) (AD (AA 2) AE)))))))
def FQ:List T->Option Ru:=An 1 3 G6
abbrev Qs:Fn:=⟨4,["text"],FQ⟩
abbrev X3:Gm:=⟨["text","words","door"],(AL OJ).names,[],3,[("read_number",JO),("read_fraction",Qv)],["len"],["NoText"],[],[],false,[],[],[],BW⟩
theorem zbl:FnScope X3.N Qs.ps (AL OJ):=Ap (by decide +kernel)
theorem zbx:Aj 200 X3 (Ah OJ)=some G6:=by ext
def L9(w:W):T:=match A6 32 w with
 |[a,b]=>.tup [Mm (A6 47 a),if b=[45] then .non else .int ((NumText.digitsVal b:Nat):Int)]
 |_=>.non
theorem fr_sh(ps:List W):(Mm ps).sh=true:=by
 unfold Mm;split<;>rfl
theorem mi_mk:Str.ofString "-"=mk [45]:=Tx.cs_ext (by decide +kernel)
theorem zks{w:W}(h:Ok w):FQ [.str (mk w)]=if Dx w then some (.ok (L9 w)) else some (.exc "NoText"):=by
 obtain⟨s1,s2,s3⟩:=F6 32 w;have sub:=(IY 32 w).1;have sc:=(Lb h).2;have sp:=(La w).2;unfold Dx L9;generalize A6 32 w=ps at *
 have bad:∀n:Nat,n≠2->∀l:List T,l.length=n->Aa l=true->(Txt.split (mk w) (Str.ofString " ")).map T.str=l->FQ [.str (mk w)]=some (.exc "NoText"):=λn hn l hl hs e=>by
  have d0:(((n:Nat):Int) == 2)=false:=by rw[yfd];omega
  have hs':=AW _ hs;unfold FQ G6
  simp![Bn,sc,e,DF,hs,hs',hl,d0]
 match ps,s1 with
 |[],s1=>exact absurd rfl s1
 |[a],_=>exact bad 1 (by decide) _ (CO [a]) (A7 _) (by rw[sp])
 |[a,b],_ =>
  have ha:=h.sub (sub a (ya3 ..));have hb:=h.sub (sub b (ya0 _ (ya3 ..)));have a1:=J1 (.str (mk a)) [.str (mk b)];have a2:=Hy (.str (mk a)) (.str (mk b)) [];have e1:=EO mi_mk hb (DV (by decide) (by decide))
  have ef:=rf_ok ha;have fs:=fr_sh (A6 47 a);have lm:(mk b).length<=AY:=by have:=Fi hb.1;unfold AY;omega
  simp only
  by_cases h1:b=[45]
  .rw[yer h1]at e1;rw[yer h1,ydb,yca,if_pos h1];cases hf:Hj (A6 47 a)
   .rw[hf]at ef;unfold FQ G6
    simp![Bn,sc,sp,DF,a1,a2,e1,ef]
   .rw[hf]at ef;unfold FQ G6
    simp![Bn,sc,sp,DF,a1,a2,e1,ef,Dy _ fs]
  .rw[yec h1]at e1;rw[yec h1,ybp,if_neg h1];cases hn:Tx.isNum b
   .have rd:=UO (x:=mk b) lm hn;unfold FQ G6
    simp![Bn,sc,sp,DF,a1,a2,e1,rd]
   .have rd:=UM (x:=mk b) hn;have cb:Tx.cs (mk b)=b:=rfl;rw[cb]at rd;cases hf:Hj (A6 47 a)
    .rw[hf]at ef;unfold FQ G6
     simp![Bn,sc,sp,DF,a1,a2,e1,rd,ef]
    .rw[hf]at ef;unfold FQ G6
     simp![Bn,sc,sp,DF,a1,a2,e1,rd,ef,Dy _ fs]
 |a::b::c::r,_=>exact bad (r.length+3) (by omega) _ (CO (a::b::c::r)) (A7 _) (by rw[sp])
abbrev OK:Stmt:=AV 56
def Ry:AB->Option Rs :=
 (AR FQ (AD (AA 0) AE))
def Iy:AB->Option Out :=
 (AI (Bw (AR FR (AD (AA 0) AE)))
 (AI (Ab (m2 BC (AA 0) (mC (.str ""))) (A2 (AK AE)) Aq)
 (A2 (BO 1 [] (B7 (Bn (AA 0) (mC (.str "; ")))) (AG 0) (mC (.bl true)) Ry))))
def DE:List T->Option Ru:=An 1 1 Iy
abbrev Qt:Fn:=⟨5,["text"],DE⟩
abbrev X4:Gm:=⟨["text"],(AL OK).names,[],4,[("check_text",JP),("read_step",Qs)],[],[],[],[],false,[],[],[],BW⟩
theorem zc6:FnScope X4.N Qt.ps (AL OK):=Ap (by decide +kernel)
theorem zcj:Aj 200 X4 (Ah OK)=some Iy:=by ext
def Dw(b:Bool):Vd:=if b then .read else .text
theorem se_is:Str.ofString "; "=(⟨#[59,32]⟩:Str):=Tx.cs_ext (by decide +kernel)
theorem zkt:Bt (Dw true) (DE [.str (mk [])]):=by
 have e:=EO Kg KG KG;rw[yer rfl]at e;refine⟨.own [],?_⟩;unfold DE Iy
 simp![JX,e]
theorem zhx{w:W}{ps:List W}(h:Ok w)(h0:w≠[])(hs:Txt.split (mk w) ⟨#[59,32]⟩=ps.map mk)(hp:∀p∈ps,Ok p)(hl:ps.length<=1000):Bt (Dw (ps.all Dx)) (DE [.str (mk w)]):=by
 have e:=EO Kg h KG;rw[yec h0]at e
 have sc:((Str.ofString "; ").length == 0)=false/\(mk w).length+2<=AY:=by
  have:=Fi h.1;exact⟨by decide +kernel,by unfold AY;omega⟩
 rw[<- se_is]at hs
 have lc:=QY (b:=AG 0) (me:=Ry) (c:="NoText") (λp=>T.str (mk p)) (λp=>if Dx p then some (L9 p) else none) (λτ=>∃a,τ=[a]) ps [none] ⟨none,rfl⟩ λp hpm τ hI=>by
  obtain⟨a,rfl⟩:=hI;refine⟨[some (.str (mk p))],rfl,⟨_,rfl⟩,?_⟩;have e:=zks (hp p hpm);unfold Ry;cases hk:Dx p
  .rw[hk]at e
   simp![e]
  .rw[hk]at e
   simp![e]
 rw[<- FZ]at lc;have ll:(AN ps).length<=100000:=by rw[CO];omega
 have hs':(Txt.split (mk w) (Str.ofString "; ")).map T.str=AN ps:=by rw[hs]
 unfold Dw
 rcases lc with ⟨l,k1,k2⟩|⟨⟨y,hy,hgy⟩,k2,k3⟩
 .have ha:ps.all Dx=true:=yab.mpr λp hpm=>by
   have:(if Dx p then some (L9 p) else none)∈l.map some:=by rw[<- k1];exact yai.mpr ⟨p,hpm,rfl⟩
   obtain⟨t,_,ht⟩:=yai.mp this;cases hk:Dx p
   .rw[hk]at ht;cases ht
   .rfl
  rw[ha,if_pos rfl];refine⟨.own l,?_⟩;unfold DE Iy
  simp![JX,e,Bn,sc,hs',A8,ll,k2]
 .have ha:ps.all Dx=false:=by
   rw[yar];intro z;have:=yab.mp z y hy;rw[this,if_pos rfl]at hgy;cases hgy
  rw[ha,if_neg Bool.noConfusion];show _=_;unfold DE Iy
  simp![JX,e,Bn,sc,hs',A8,ll,k2,k3]
abbrev Ll:Stmt:=FA 40 0
def QN:AB->Option Out :=
 (AI (CF DO FJ 0 0 (AA 1))
 (CF DO FJ 1 0 (AR Hz (AD (AA 2) AE))))
def Ky:List T->Option Ru:=ED DO FJ 3 3 QN
abbrev YS:Fn:=⟨2,["self","room","guard"],Ky⟩
abbrev zbb:Gx:=⟨[],[],[],[],false,true,true,some (DO,FJ),[],[],[],true,[],[],[],[],[]⟩
abbrev Qj:Gm:=⟨["self","room","guard"],(AL Ll).names,[],1,[("own_copy",K7)],[],[],[],[],false,[],[],[],zbb⟩
theorem zb8:FnScope Qj.N YS.ps (AL Ll):=Ap (by decide +kernel)
theorem zbh:Aj 200 Qj (Ah Ll)=some QN:=by ext
theorem nv_ok(r:W)(l:List BS):Ky [.str (mk r),.lst (l.map Ar)]=some (.ok (.obj (.ins DO FJ) [.str (mk r),.lst (l.map Ar)])):=by
 have hg:=DH l;have e1:=MN (l.map Ar) hg;refine Et λp=>?_
 unfold Cu QN
 simp![e1,hg,AW _ hg]
abbrev Lk:Stmt:=FA 41 0
def QM:AB->Option Out :=
 (AI (CF DN FI 0 0 (AA 1))
 (AI (CF DN FI 1 0 (AR Hz (AD (AA 2) AE)))
 (CF DN FI 2 0 (AA 3))))
def Kx:List T->Option Ru:=ED DN FI 4 4 QM
abbrev YR:Fn:=⟨2,["self","room","guard","number"],Kx⟩
abbrev zac:Gx:=⟨[],[],[],[],false,true,true,some (DN,FI),[],[],[],true,[],[],[],[],[]⟩
abbrev Qi:Gm:=⟨["self","room","guard","number"],(AL Lk).names,[],1,[("own_copy",K7)],[],[],[],[],false,[],[],[],zac⟩
theorem zaa:FnScope Qi.N YR.ps (AL Lk):=Ap (by decide +kernel)
theorem zag:Aj 200 Qi (Ah Lk)=some QM:=by ext
theorem ns_ok(r:W)(l:List BS)(i:Int):Kx [.str (mk r),.lst (l.map Ar),.int i]=some (.ok (.obj (.ins DN FI) [.str (mk r),.lst (l.map Ar),.int i])):=by
 have hg:=DH l;have e1:=MN (l.map Ar) hg;refine Et λp=>?_
 unfold Cu QM
 simp![e1,hg,AW _ hg]
abbrev Lj:Stmt:=FA 42 0
def QL:AB->Option Out :=
 (AI (CF EX Hm 0 0 (AA 1))
 (CF EX Hm 1 0 (AA 2)))
def Kw:List T->Option Ru:=ED EX Hm 3 3 QL
abbrev YQ:Fn:=⟨1,["self","room","number"],Kw⟩
abbrev zax:Gx:=⟨[],[],[],[],false,true,true,some (EX,Hm),[],[],[],true,[],[],[],[],[]⟩
abbrev Qh:Gm:=⟨["self","room","number"],(AL Lj).names,[],0,[],[],[],[],[],false,[],[],[],zax⟩
theorem zau:FnScope Qh.N YQ.ps (AL Lj):=Ap (by decide +kernel)
theorem zb2:Aj 200 Qh (Ah Lj)=some QL:=by ext
theorem wi_ok(r:W)(i:Int):Kw [.str (mk r),.int i]=some (.ok (.obj (.ins EX Hm) [.str (mk r),.int i])):=by
 refine Et λp=>?_
 unfold Cu QL
 simp![]
abbrev OR:Stmt:=AV 58
def KN:AB->Option Out :=
 (AI (Bw (AR FR (AD (AA 0) AE)))
 (AI (AQ (Bn (AA 0) (mC (.str " "))) (AG 1))
 (AI (Ab (Bo (m2 BC (AM (AA 1) (mC (.int 0))) (mC (.str "never"))) (m2 (Bp λi j=>decide (j<=i)) (m1 BP (AA 1)) (mC (.int 2)))) (A2 (E7 Ky [] (AD (AM (AA 1) (mC (.int 1))) (AD (AR Gu (AD (Ax (Ay (AA 1) (some (mC (.int 2))) none) (Au (AA 1) (some (mC (.int 2))) none)) AE)) AE)))) Aq)
 (AI (Ab (Bo (m2 BC (AM (AA 1) (mC (.int 0))) (mC (.str "nosooner"))) (m2 (Bp λi j=>decide (j<=i)) (m1 BP (AA 1)) (mC (.int 3)))) (A2 (E7 Kx [] (AD (AM (AA 1) (mC (.int 1))) (AD (AR Gu (AD (Ax (Ay (AA 1) (some (mC (.int 3))) none) (Au (AA 1) (some (mC (.int 3))) none)) AE)) (AD (AR Dd (AD (AM (AA 1) (mC (.int 2))) AE)) AE))))) Aq)
 (AI (Ab (Bo (m2 BC (AM (AA 1) (mC (.int 0))) (mC (.str "within"))) (m2 BC (m1 BP (AA 1)) (mC (.int 3)))) (A2 (E7 Kw [] (AD (AM (AA 1) (mC (.int 1))) (AD (AR Dd (AD (AM (AA 1) (mC (.int 2))) AE)) AE)))) Aq)
 (BR "NoText" (AD (mC (.str "a claim is written by never, nosooner or within, and what belongs to it")) AE)))))))
def EV:List T->Option Ru:=An 1 2 KN
abbrev Qy:Fn:=⟨5,["text"],EV⟩
abbrev zba:Gx:=⟨[],[],[],[("Never",YS,[(2,[])]),("NoSooner",YR,[(3,[])]),("Within",YQ,[(2,[])])],false,true,true,none,[],[],[],true,[],[],[],[],[]⟩
abbrev Xb:Gm:=⟨["text","words"],(AL OR).names,[],4,[("check_text",JP),("read_looks",Mp),("read_number",JO)],["len"],["NoText"],[],[],false,[],[],[],zba⟩
theorem zb5:FnScope Xb.N Qy.ps (AL OR):=Ap (by decide +kernel)
theorem zbe:Aj 200 Xb (Ah OR)=some KN:=by ext
theorem Ro:Str.ofString "never"=mk IJ/\Str.ofString "nosooner"=mk II/\Str.ofString "within"=mk IK:=⟨Tx.cs_ext (by decide +kernel),Tx.cs_ext (by decide +kernel),Tx.cs_ext (by decide +kernel)⟩
theorem Rn:Ok IJ/\Ok II/\Ok IK:=⟨DV (by decide) (by decide),DV (by decide) (by decide),DV (by decide) (by decide)⟩
theorem vd_ru{r:Option Ru}{o:Option (List BS)}{f:List BS->T}(h:r=CT f o):Bt (Dw o.isSome) r:=by
 cases o with
 |none=>exact h
 |some l=>exact⟨_,h⟩
theorem zku{w:W}(h:Ok w)(hl:(A6 32 w).length<=900):Bt (Dw (Kh (A6 32 w))) (EV [.str (mk w)]):=by
 obtain⟨s1,_,_⟩:=F6 32 w;have sub:∀x∈A6 32 w,Ok x:=λx hx=>h.sub ((IY 32 w).1 x hx)
 have sc:=(Lb h).2;have sp:(Txt.split (mk w) (Str.ofString " ")).map T.str=AN (A6 32 w):=by rw[(La w).2]
 show Bt _ (Jr (KN [some (.str (mk w)),none]));unfold KN;rw[Cr (τ':=[some (.str (mk w)),none]) (by simp![JX]),Cr (τ':=[some (.str (mk w)),some (.lst (AN (A6 32 w)))]) (by simp![Bn,sc,sp,A8])]
 generalize A6 32 w=ws at *;cases ws with
 |nil=>exact absurd rfl s1
 |cons a r =>
  have ha:=sub a (ya3 ..);have e1:=EO Ro.1 ha Rn.1;have e2:=EO Ro.2.1 ha Rn.2.1;have e3:=EO Ro.2.2 ha Rn.2.2;have b0:Af (AN (a::r)) 0=some (.str (mk a)):=J1 _ _;have hB:(AN (a::r)).length=r.length+1:=CO _;have hs:Aa (AN (a::r))=true:=A7 _;have hs':=AW _ hs
  clear sp s1
  unfold Kh;rw[yd7,ya6]
  by_cases hA:some a=some IJ/\2<=r.length+1
  .rw[if_pos hA]
   obtain⟨b,r,rfl⟩:∃b r',r=b::r':=by
    cases r with
    |nil=>exact absurd hA.2 (by decide)
    |cons b r=>exact⟨b,r,rfl⟩
   rw[yer (ya9 hA.1)]at e1;have el:=Pb (ws:=r) (λx hx=>sub x (ya0 _ (ya0 _ hx))) (by rw[ya6,ya6]at hl;omega)
   have d2:decide ((2:Int)<=(((b::r).length+1:Nat):Int))=true:=yer (by omega)
   have b1:Af (AN (a::b::r)) 1=some (.str (mk b)):=Hy _ _ _;have c2:BL (AN (a::b::r)) (some 2) none=AN r:=Yr _ _ _;rw[yaz,yaz,ybc];generalize AN (a::b::r)=B at *;generalize (b::r).length=n at *;refine vd_ru (f:=λl=>.obj (.ins DO FJ) [.str (mk b),.lst (l.map Ar)]) ?_
   unfold CT at el ⊢;cases hk:Bs r with
   |none =>
    rw[hk]at el
    simp![hs,hs',b0,b1,c2,e1,hB,d2,el,A8,A7]
    rfl
   |some l =>
    rw[hk]at el;have lk:=DH l
    simp![hs,hs',b0,b1,c2,e1,hB,d2,el,A8,A7,lk,AW _ lk,nv_ok]
    rfl
  .rw[if_neg hA,Cr (τ':=[some (.str (mk w)),some (.lst (AN (a::r)))]) (by
    generalize AN (a::r)=B at *
    by_cases q:a=IJ
    .rw[yer q]at e1;have d2:decide ((2:Int)<=((r.length+1:Nat):Int))=false:=yec λz=>hA ⟨by rw[q],by omega⟩
     simp![hs,hs',b0,e1,hB,d2]
    .rw[yec q]at e1
     simp![hs,hs',b0,e1])]
   by_cases hC:some a=some II/\3<=r.length+1
   .rw[if_pos hC]
    obtain⟨b,c,r,rfl⟩:∃b c r',r=b::c::r':=by
     match r,hC.2 with
     |[],z=>exact absurd z (by decide)
     |[_],z=>exact absurd z (show ¬ 3<=2 by decide)
     |b::c::r,_=>exact⟨b,c,r,rfl⟩
    rw[yer (ya9 hC.1)]at e2;have el:=Pb (ws:=r) (λx hx=>sub x (ya0 _ (ya0 _ (ya0 _ hx)))) (by rw[ya6,ya6,ya6]at hl;omega)
    have rd:=Ig (sub c (ya0 _ (ya0 _ (ya3 ..)))).1;have d3:decide ((3:Int)<=(((b::c::r).length+1:Nat):Int))=true:=yer (by omega)
    have b1:Af (AN (a::b::c::r)) 1=some (.str (mk b)):=Hy _ _ _;have b2:Af (AN (a::b::c::r)) 2=some (.str (mk c)):=SU _ _ _ _;have c3:BL (AN (a::b::c::r)) (some 3) none=AN r:=Yq _ _ _ _;rw[yaz,yaz,yaz,ybc];show Bt (Dw ((Bs r).isSome && Tx.isNum c)) _;generalize AN (a::b::c::r)=B at *;generalize (b::c::r).length=n at *;unfold CT at el;cases hk:Bs r with
    |none =>
     rw[hk]at el
     simp![hs,hs',b0,b1,b2,c3,e2,hB,d3,el,A8,A7]
     rfl
    |some l =>
     rw[hk]at el;have lk:=DH l;cases hn:Tx.isNum c
     .rw[hn]at rd
      simp![hs,hs',b0,b1,b2,c3,e2,hB,d3,el,A8,A7,lk,AW _ lk,rd]
      rfl
     .rw[hn]at rd
      simp![hs,hs',b0,b1,b2,c3,e2,hB,d3,el,A8,A7,lk,AW _ lk,rd,ns_ok]
      exact⟨_,rfl⟩
   .rw[if_neg hC,Cr (τ':=[some (.str (mk w)),some (.lst (AN (a::r)))]) (by
     generalize AN (a::r)=B at *
     by_cases q:a=II
     .rw[yer q]at e2;have d3:decide ((3:Int)<=((r.length+1:Nat):Int))=false:=yec λz=>hC ⟨by rw[q],by omega⟩
      simp![hs,hs',b0,e2,hB,d3]
     .rw[yec q]at e2
      simp![hs,hs',b0,e2])]
    by_cases hD:some a=some IK/\r.length+1=3
    .rw[if_pos hD]
     obtain⟨b,c,rfl⟩:∃b c,r=[b,c]:=by
      match r,hD.2 with
      |[b,c],_=>exact⟨b,c,rfl⟩
     rw[yer (ya9 hD.1)]at e3;have rd:=Ig (sub c (ya0 _ (ya0 _ (ya3 ..)))).1;have b1:Af (AN [a,b,c]) 1=some (.str (mk b)):=Hy _ _ _;have b2:Af (AN [a,b,c]) 2=some (.str (mk c)):=SU _ _ _ _;have hB:(AN [a,b,c]).length=3:=CO _;have d3:(((3:Nat):Int) == 3)=true:=rfl;show Bt (Dw (Tx.isNum c)) _;generalize AN [a,b,c]=B at *;cases hn:Tx.isNum c
     .rw[hn]at rd
      simp![hs,hs',b0,b1,b2,e3,hB,CA,d3,rd]
      rfl
     .rw[hn]at rd
      simp![hs,hs',b0,b1,b2,e3,hB,CA,d3,rd,wi_ok]
      exact⟨_,rfl⟩
    .rw[if_neg hD];generalize AN (a::r)=B at *
     by_cases q:a=IK
     .rw[yer q]at e3
      have d3:(((r.length+1:Nat):Int) == 3)=false:=by
       rw[yfd];exact λz=>hD ⟨by rw[q],by omega⟩
      simp![hs,hs',b0,e3,hB,CA,d3]
      rfl
     .rw[yec q]at e3
      simp![hs,hs',b0,e3]
      rfl
abbrev Og:Stmt:=AV 62
def M3:AB->Option Out :=
 (AI (AQ (mC (.str "read")) (AG 2))
 (AI (GK 3 IH (Ab (m2 BC (AA 1) (mC (.int 0))) (Bw (AR CZ (AD (AA 0) AE))) (Ab (m2 BC (AA 1) (mC (.int 1))) (Bw (AR DE (AD (AA 0) AE))) (Bw (AR EV (AD (AA 0) AE))))) (AQ (AR IB (AD (AA 3) AE)) (AG 2)))
 (A2 (AA 2))))
def GA:List T->Option Ru:=An 2 4 M3
abbrev RL:Fn:=⟨9,["_law_text_here","_law_way"],GA⟩
abbrev zgq:Gx:=⟨[],[],[],[],false,true,true,none,[("WalkError",IH)],[],[],true,[],[],[],[],[("_law_word",YU)]⟩
abbrev Xw:Gm:=⟨["_law_text_here","_law_way","_law_word_here","_law_e"],(AL Og).names,[],8,[("read_machine",Qu),("read_run",Qt),("read_claim",Qy)],[],[],[],[],false,[],[],[],zgq⟩
theorem zf8:FnScope Xw.N RL.ps (AL Og):=Ap (by decide +kernel)
theorem zh2:Aj 200 Xw (Ah Og)=some M3:=by ext
def BU(v:Vd):Str:=match v with
 |.read=>"read"
 |.text=>"text"
 |.bad=>"bad"
 |.many=>"many"
def uO(r:Option Ru)(τ:AB):Option Out:=match r with
 |some (.ok _)=>some (.nx τ)
 |some (.exc c)=>some (.xc c τ)
 |none=>none
theorem OH{t:T}{w:Int}{r:Option Ru}{v:Vd}(h:Bt v r)(ht:t.sh=true)
  (hU:Ab (m2 BC (AA 1) (mC (.int 0))) (Bw (AR CZ (AD (AA 0) AE))) (Ab (m2 BC (AA 1) (mC (.int 1))) (Bw (AR DE (AD (AA 0) AE))) (Bw (AR EV (AD (AA 0) AE)))) [some t,some (.int w),some (.str "read"),none]=uO r [some t,some (.int w),some (.str "read"),none]):GA [t,.int w]=some (.ok (.str (BU v))):=by
 have key:∀{o:Out} {s:Str},GK 3 IH (Ab (m2 BC (AA 1) (mC (.int 0))) (Bw (AR CZ (AD (AA 0) AE))) (Ab (m2 BC (AA 1) (mC (.int 1))) (Bw (AR DE (AD (AA 0) AE))) (Bw (AR EV (AD (AA 0) AE))))) (AQ (AR IB (AD (AA 3) AE)) (AG 2)) [some t,some (.int w),some (.str "read"),none]=some (.nx [some t,some (.int w),some (.str s),none])->GA [t,.int w]=some (.ok (.str s)):=λ{o s} e=>by
  have k:M3 [some t,some (.int w),none,none]=some (.rt (.str s)):=by
   unfold M3;refine sq (τ':=[some t,some (.int w),some (.str "read"),none]) (by simp![]) ?_
   refine sq e ?_
   simp![]
  unfold GA
  simp![ht,Dy _ ht,k]
 refine key (o:=.nx []) ?_;unfold GK;rw[hU];cases v with
 |read =>
  obtain⟨t,rfl⟩:=h
  rfl
 |text =>
  rw[show r=_ from h];unfold uO;have l:IH.lookup (Str.ofString "NoText")=some 135:=by decide +kernel
  simp only[l]
  simp![zdh]
  rfl
 |bad =>
  rw[show r=_ from h];unfold uO;have l:IH.lookup (Str.ofString "BadMachine")=some 56:=by decide +kernel
  simp only[l]
  simp![zex]
  rfl
 |many =>
  rw[show r=_ from h];unfold uO;have l:IH.lookup (Str.ofString "TooMany")=some 68:=by decide +kernel
  simp only[l]
  simp![zdi]
  rfl
theorem zkg{t:T}{v:Vd}(h:Bt v (CZ [t]))(ht:t.sh=true):GA [t,.int 0]=some (.ok (.str (BU v))):=OH h ht (by
 have e0:((0:Int) == 0)=true:=rfl;cases hr:CZ [t] with
 |none=>rw[hr]at h;cases v<;>first|(obtain⟨_,h⟩:=h;cases h)|cases h
 |some r=>cases r<;>simp![CA,e0,ht,Dy _ ht,hr,uO])
theorem zkf{t:T}{v:Vd}(h:Bt v (DE [t]))(ht:t.sh=true):GA [t,.int 1]=some (.ok (.str (BU v))):=OH h ht (by
 have e0:((1:Int) == 0)=false:=rfl;have e1:((1:Int) == 1)=true:=rfl;cases hr:DE [t] with
 |none=>rw[hr]at h;cases v<;>first|(obtain⟨_,h⟩:=h;cases h)|cases h
 |some r=>cases r<;>simp![CA,e0,e1,ht,Dy _ ht,hr,uO])
theorem zkh{t:T}{v:Vd}(h:Bt v (EV [t]))(ht:t.sh=true):GA [t,.int 2]=some (.ok (.str (BU v))):=OH h ht (by
 have e0:((2:Int) == 0)=false:=rfl;have e1:((2:Int) == 1)=false:=rfl;cases hr:EV [t] with
 |none=>rw[hr]at h;cases v<;>first|(obtain⟨_,h⟩:=h;cases h)|cases h
 |some r=>cases r<;>simp![CA,e0,e1,ht,Dy _ ht,hr,uO])
abbrev Ou:Stmt:=AV 71
def Nn:AB->Option Out :=
 (AI (AQ (AM (AA 0) (m2 Bd (m2 AH (AA 2) (m2 DG (AA 4) (m2 AH (mC (.int 1)) (m2 Bd (AA 2) (mC (.int 5)))))) (m1 BP (AA 0)))) (Cn 2 (BX (AG 5) (BX (AG 6) DD))))
 (Ab (m2 CI (AR GA (AD (AA 5) (AD (AA 1) AE))) (AA 6)) (A2 (mC (.bl false))) Aq))
def QS:AB->Option Out :=
 (AI (EA (DX (AD (AA 3) AE)) (AG 4) Nn)
 (A2 (mC (.bl true))))
def J5:List T->Option Ru:=An 4 7 QS
abbrev RS:Fn:=⟨10,["_law_some","_law_way","_law_start_at","_law_many"],J5⟩
abbrev YF:Gm:=⟨["_law_some","_law_way","_law_start_at","_law_many","_law_k","_law_text_here","_law_word_here"],(AL Ou).names,[],9,[("_law_said",RL)],["range","len"],[],[],[],false,[],[],[],BW⟩
theorem zcx:FnScope YF.N RS.ps (AL Ou):=Ap (by decide +kernel)
theorem zdf:Aj 200 YF (Ah Ou)=some QS:=by ext
abbrev A5(p:T×Vd):T:=.tup [p.1,.str (BU p.2)]
theorem JF{l:List (T×Vd)}(h:∀p∈l,p.1.sh=true):Aa (l.map A5)=true:=by
 rw[Cd,yab];intro t ht;obtain⟨p,hp,rfl⟩:=yai.mp ht;show((!false) && (p.1.sh && (true && true)))=true;rw[h p hp]
 rfl
theorem Su(v:Vd):PyData.strOk (BU v)=true:=by cases v<;>decide +kernel
theorem S7{l:List (T×Vd)}{w s:Int}(h0:l≠[])(hs:∀p∈l,p.1.sh=true)(h:∀p∈l,GA [p.1,.int w]=some (.ok (.str (BU p.2)))):J5 [.lst (l.map A5),.int w,.int s,.int 8]=some (.ok (.bl true)):=by
 have sl:=JF hs;have sl':=AW _ sl;have hp:0<l.length:=yd3.mpr h0
 obtain⟨τ,e,z4,z5,z6,rfl⟩:=Mn (b:=AG 4) (body:=Nn) (ts:=mT 8 λi=>.int (i:Int)) (τ:=[some (.lst (l.map A5)),some (.int w),some (.int s),some (.int 8),none,none,none])
  (λi τ=>∃x4 x5 x6,τ=[some (.lst (l.map A5)),some (.int w),some (.int s),some (.int 8),x4,x5,x6]) ⟨_,_,_,by rfl⟩ λi t τ h1 h2=>by
   obtain⟨hi,rfl⟩:=Mb h1;obtain⟨x4,x5,x6,rfl⟩:=h2;have m1:H9 (i:Int) (1+s.fmod 5)=true:=Pq (P0 (by omega) (by omega))
   have ln:((l.map A5).length:Int)≠0:=by rw[ya1];omega
   have lb:¬ (((l.map A5).length:Int)=0):=ln
   have r0:0<=(s+(i:Int) * (1+s.fmod 5)).fmod ((l.map A5).length:Int)/\(s+(i:Int) * (1+s.fmod 5)).fmod ((l.map A5).length:Int)<((l.map A5).length:Int):=by
    rw[fm (by rw[ya1];omega)]
    exact⟨Int.emod_nonneg _ ln,Int.emod_lt_of_pos _ (by rw[ya1];omega)⟩
   obtain⟨j,hj⟩:=ydi r0.1;have hjl:j<l.length:=by have:=r0.2;rw[hj,ya1]at this;omega
   have ea:Af (l.map A5) ((s+(i:Int) * (1+s.fmod 5)).fmod ((l.map A5).length:Int))=some (A5 l[j]):=by
    rw[hj];refine D0 (yc8 _) ?_;rw[ybi,yaj,ya5 hjl]
    rfl
   have hm:=ydo hjl;have hq:=hs _ hm;have hk:=h _ hm;have hn:=KJ (Su l[j].2) (Su l[j].2);rw[yer rfl]at hn;refine⟨[some (.lst (l.map A5)),some (.int w),some (.int s),some (.int 8),some (.int i),x5,x6],by simp![],[some (.lst (l.map A5)),some (.int w),some (.int s),some (.int 8),some (.int i),some l[j].1,some (.str (BU l[j].2))],?_,_,_,_,rfl⟩
   generalize l.map A5=B at *;unfold Nn
   simp![sl,sl',m1,lb,ea,hq,Dy _ hq,hk,hn]
 have ok:GY (8:Int)=true:=@decide_eq_true _ (Classical.propDecidable _) ⟨by omega,by omega⟩
 have er:E2 0 (8:Int).toNat=mT 8 λi=>.int (i:Int):=Jt
 generalize l.map A5=B at *;unfold J5 QS
 simp![sl,sl',ok,er,e]
abbrev Oj:Stmt:=AV 64
def M6:AB->Option Out :=
 (AI (AQ (m1 CN (m2 Bd (m2 Ee (AA 0) (mC (.int 24))) (m2 GW (mC (.int 10)) (mC (.int 30))))) (AG 2))
 (AI (AQ (AK (AF (mC (.str "")) (AF (AA 1) (AF (m2 AH (AA 1) (AA 2)) (AF (m2 AH (AA 1) (mC (.str "<"))) (AF (m2 AH (AA 1) (mC (.str "<="))) (AF (m2 AH (AA 1) (mC (.str "="))) (AF (m2 AH (m2 AH (AA 1) (mC (.str "<0"))) (AA 2)) (AF (m2 AH (AA 1) (mC (.str "<-1"))) AE))))))))) (AG 3))
 (AI (AQ (m2 AH (AA 3) (AK (AF (m2 AH (AA 1) (mC (.str "=<1"))) (AF (m2 AH (AA 1) (mC (.str "==1"))) (AF (m2 AH (AA 1) (mC (.str "<>1"))) (AF (m2 AH (AA 1) (mC (.str "<=+1"))) AE)))))) (AG 3))
 (AI (AQ (m2 AH (AA 3) (AK (AF (m2 AH (AA 1) (mC (.str "<1.0"))) (AF (m2 AH (AA 1) (mC (.str "<1<2"))) (AF (m2 AH (AA 1) (mC (.str "<a"))) AE))))) (AG 3))
 (AI (AQ (m2 AH (AA 3) (AK (AF (m2 AH (AA 1) (mC (.str ">=1_0"))) (AF (m2 AH (m2 AH (AA 1) (mC (.str "<1"))) (m2 DG (mC (.str "0")) (mC (.int 60)))) (AF (m2 AH (AA 1) (mC (.str ">= 1"))) AE))))) (AG 3))
 (AI (AQ (m2 AH (AA 3) (AK (AF (m2 AH (AA 1) (mC (.str "<1/2"))) (AF (m2 AH (AA 1) (mC (.str ":1"))) (AF (m2 AH (AA 1) (mC (.str "<=1,"))) AE))))) (AG 3))
 (A2 (AM (m2 AH (AA 3) (AK (AF (m2 AH (AA 1) (mC (.str "<1\n"))) (AF (mC (.str "-")) (AF (AA 2) AE))))) (m2 Bd (AA 0) (mC (.int 24)))))))))))
def IC:List T->Option Ru:=An 2 4 M6
abbrev Mv:Fn:=⟨1,["_law_cell","_law_watch"],IC⟩
abbrev Xz:Gm:=⟨["_law_cell","_law_watch","_law_number","_law_some"],(AL Oj).names,[],0,[],["str"],[],[],[],false,[],[],[],BW⟩
theorem zca:FnScope Xz.N Mv.ps (AL Oj):=Ap (by decide +kernel)
theorem zcn:Aj 200 Xz (Ah Oj)=some M6:=by ext
def tx(V:Va)(s:S):Str:=mk (ev V s)
theorem FW(V:Va)(a b:S):tx V a++tx V b=tx V (a++b):=Tx.cs_ext (by
 rw[Tx.cs_app];exact(Kc V a b).symm)
theorem RV(V:Va):∀l:W,ev V (l.map K.c)=l
 |[]=>rfl
 |c::r=>by
  rw[yae,BQ,RV V r]
  rfl
theorem lit(V:Va)(x:String):Str.ofString x=tx V (L x):=Tx.cs_ext (RV V _).symm
theorem LQ(V:Va)(s:S):(tx V s).length<=60 * s.length:=yap (Nh V s) (Sn s)
theorem En(V:Va){a b:S}(h:(a++b).length<=2000):((tx V a).length+(tx V b).length<=AY)=True:=eq_true (by
 have h1:=LQ V a;have h2:=LQ V b;rw[yag]at h;unfold AY
 omega)
theorem dg_tx{V:Va}{n k:Nat}(h:V.u k=Tx.cs (Tx.dg n)):Tx.dg n=tx V [.d k]:=Tx.cs_ext (by
 show _=ev V [.d k];rw[BQ];show _=V.u k++[];rw[yb4,h])
theorem zmd{n:Nat}(h:n<10 ^ 63):(((n:Nat):Int).natAbs).log2<1920:=by
 rw[Int.natAbs_natCast]
 by_cases h0:n=0
 .subst h0
  decide +kernel
 .exact(Nat.log2_lt h0).mpr (yd9 h (by decide +kernel))
theorem IW{V:Va}{i:Int}{k:Nat}(h0:0<=i)(h1:i<10 ^ 60)(h:V.u k=Tx.cs (Tx.dg i.toNat)):CN (.int i)=some (.str (tx V [.d k])):=by
 have e:((i.toNat:Nat):Int)=i:=ydy h0
 have hn:i.toNat<10 ^ 63:=by
  have h2:((i.toNat:Nat):Int)<((10 ^ 63:Nat):Int):=by rw[e];exact ycl h1 (by decide +kernel)
  exact Int.ofNat_lt.mp h2
 have hl:=zmd hn;rw[<- dg_tx h];rw[<- e];unfold CN;simp only;rw[if_pos hl,e];unfold Tx.dg;rw[e]
abbrev sT(V:Va)(l:List S):List T:=l.map λs=>.str (tx V s)
theorem Ce(V:Va)(l:List S):Aa (sT V l)=true:=by
 rw[Cd,yab];intro t ht;obtain⟨k,_,rfl⟩:=yai.mp ht
 rfl
theorem at_sT(V:Va)(l:List S){i:Int}(h0:0<=i)(h1:i<l.length):Af (sT V l) i=some (.str (tx V (l.getD i.toNat []))):=by
 refine D0 h0 ?_;rw[yaj,ya5 (by omega),yaw,ya5 (by omega)]
 rfl
theorem W5(V:Va)(c:Nat){x:Str}(hx:x=mk [c])(n:Nat):Txt.mul x (n:Int)=tx V (List.replicate n (.c c)):=by
 have hm:∀a∈Tx.cs (Txt.mul x (n:Int)),a=c:=λa ha=>by
  have:=Tx.mul_mem ha;rw[hx]at this;exact ya7.mp this
 have hl:(Tx.cs (Txt.mul x (n:Int))).length=n:=by
  show(Txt.mul x (n:Int)).length=n;rw[Tx.mul_len,hx];show 1 * n=n
  omega
 refine Tx.cs_ext ?_
 have e:ev V (List.replicate n (.c c))=List.replicate n c:=by
  have:=RV V (List.replicate n c);rw[List.map_replicate]at this;exact this
 show _=ev V (List.replicate n (.c c));rw[e];exact List.eq_replicate_iff.mpr ⟨hl,hm⟩
def Es(M:Nat->AB->Option Rs):SE->AB->Option Rs
 |.l x=>mC (.str x)
 |.v i=>M i
 |.a x y=>m2 AH (Es M x) (Es M y)
section
variable {V:Va}{M:Nat->AB->Option Rs}{A:Nat->S}{τ:AB}(hM:∀i,M i τ=some (.v (.str (tx V (A i))) false))
include hM
theorem OG:∀e:SE,(e.s A).length<=2000->Es M e τ=some (.v (.str (tx V (e.s A))) false)
 |.l x,_=>by
  show some (Rs.v (.str (Str.ofString x)) false)=_;rw[lit V]
  rfl
 |.v i,_=>hM i
 |.a x y,h=>by
  have h:(x.s A++y.s A).length<=2000:=h;have h':=h;rw[yag]at h';have h1:=OG x (by omega)
  have h2:=OG y (by omega)
  have z:=En V h;show m2 AH (Es M x) (Es M y) τ=some (.v (.str (tx V (x.s A++y.s A))) false)
  simp![h1,h2,z,FW V]
variable (hA:∀i,(A i).length<=100)
include hA
theorem Tp{e:SE}(h:e.b<=2000):Es M e τ=some (.v (.str (tx V (e.s A))) false):=OG hM e (yap (SE.le hA e) h)
def mW(M:Nat->AB->Option Rs):List SE->AB->Option RsL
 |[]=>AE
 |e::r=>AF (Es M e) (mW M r)
theorem We:∀l:List SE,Co l=true->mW M l τ=some (.v (l.map λe=>.str (tx V (e.s A))) false)
 |[],_=>rfl
 |e::r,h=>by
  unfold Co at h;rw[yd0,ya2,yf1]at h;have h1:=Tp hM hA h.1;have h2:=We r h.2;show AF (Es M e) (mW M r) τ=_
  simp![h1,h2]
theorem Ma{l:List SE}(h:Co l=true)(hl:l.length<=1000):AK (mW M l) τ=some (.v (.own (l.map λe=>.str (tx V (e.s A)))) false):=by
 have h1:=We hM hA l h;have h2:(l.map λe=>T.str (tx V (e.s A))).length<=100000:=by rw[ya1];omega
 unfold AK;rw[h1];simp only[h2,KS,yeo]
end
theorem IZ{V:Va}{A:Nat->S}(l:List SE):Aa (l.map λe=>T.str (tx V (e.s A)))=true:=by
 rw[Cd,yab];intro t ht;obtain⟨k,_,rfl⟩:=yai.mp ht
 rfl
theorem Le{τ:AB}{i:Nat}{g:AB->Option Rs}{l:List T}(h:g τ=some (.v (.own l) false))(hl:Aa l=true)(hi:i<τ.length):AQ g (AG i) τ=some (.nx (τ.set i (some (.lst l)))):=by
 simp![h,AW _ hl,hi]
theorem Kp{τ:AB}{i:Nat}{g:AB->Option Rs}{l m:List T}(h0:τ[i]?=some (some (.lst l)))(hl:Aa l=true)(h:g τ=some (.v (.own m) false))(hm:Aa m=true)(hn:l.length+m.length<=AY):m2 AH (AA i) g τ=some (.v (.own (l++m)) false):=by
 simp![h0,hl,h,AW _ hl,AW _ hm,hn]
theorem A4{τ:AB}{i:Nat}{g:AB->Option Rs}{l m:List T}(h0:τ[i]?=some (some (.lst l)))(hl:Aa l=true)(h:g τ=some (.v (.own m) false))(hm:Aa m=true)(hn:l.length+m.length<=AY):AQ (m2 AH (AA i) g) (AG i) τ=some (.nx (τ.set i (some (.lst (l++m))))) :=
 Le (Kp h0 hl h hm hn) (by rw[Cd]at *;rw[List.all_append,hl,hm];rfl) (yac.mp h0).1
theorem Sl(V:Va)(τ:AB):m2 DG (mC (.str "0")) (mC (.int 60)) τ=some (.v (.str (tx V (List.replicate 60 (.c 48)))) false):=by
 have ml:Txt.mul (Str.ofString "0") 60=tx V (List.replicate 60 (.c 48)):=W5 V 48 (x:=Str.ofString "0") (Tx.cs_ext (by decide +kernel)) 60
 have mc:(0:Int)<=60/\(60:Int)<=1000000/\(Str.ofString "0").length<=16:=⟨by decide,by decide,by decide +kernel⟩
 simp![ml,mc]
theorem Lx:EC 10=true:=by unfold EC;exact @decide_eq_true _ (Classical.propDecidable _) ⟨by decide,by decide⟩
theorem WM{V:Va}{c:Int}{j:Nat}(hV:V.u j=Tx.cs (Tx.dg ((c.fdiv 24).fmod (10 ^ 30)).toNat)):IC [.int c,.str (tx V w0)]=some (.ok (.str (tx V ((E4 [.d j]).getD (c.fmod 24).toNat [])))):=by
 have h10:(0:Int)<10 ^ 30:=by decide +kernel
 have hs:=IW (yb7 (c.fdiv 24) h10) (ycl (ybo _ h10) (by decide +kernel)) hV
 have p30:(0:Int)<=30/\(30:Int)<=1000000/\EC 10=true:=⟨by decide,by decide,Lx⟩
 have r30:(30:Int).toNat=30:=rfl;have n30:¬ ((10:Int) ^ 30=0):=by decide +kernel
 have s24:EB 24=true:=HP (by decide) (by decide)
 have r0:=yb7 c (show(0:Int)<24 by decide)
 have r1:=ybo c (show(0:Int)<24 by decide)
 have ha:=at_sT V (E4 [.d j]) r0 (show c.fmod 24<((24:Nat):Int) from r1);have mz:=Sl V
 let M:Nat->AB->Option Rs:=λi=>match i with
  |0=>AA 1
  |1=>AA 2
  |_=>m2 DG (mC (.str "0")) (mC (.int 60))
 let B (y:Option T):AB:=[some (.int c),some (.str (tx V w0)),some (.str (tx V [.d j])),y]
 have hM:∀y i,M i (B y)=some (.v (.str (tx V (nA [.d j] i))) false):=λy i=>match i with
  |0=>rfl
  |1=>rfl
  |i+2=>mz _
 have hA:∀i,(nA [.d j] i).length<=100:=λi=>match i with
  |0=>(show 1<=100 by decide)
  |1=>(show 1<=100 by decide)
  |i+2=>(by decide:(List.replicate 60 (K.c 48)).length<=100)
 let f:SE->T:=λe=>.str (tx V (e.s (nA [.d j])))
 have st:∀P C:List SE,Co C=true->P.length+C.length<=1000->AQ (m2 AH (AA 3) (AK (mW M C))) (AG 3) (B (some (.lst (P.map f))))=some (.nx (B (some (.lst ((P++C).map f))))):=λP C hC hn=>by
  rw[yal];exact A4 (i:=3) rfl (IZ P) (Ma (hM _) hA hC (by omega)) (IZ C) (by rw[ya1,ya1];unfold AY;omega)
 obtain⟨b,_⟩:=b_ok
 have key:M6 [some (.int c),some (.str (tx V w0)),none,none]=some (.rt (.str (tx V ((E4 [.d j]).getD (c.fmod 24).toNat [])))):=by
  unfold M6;refine sq (τ':=B none) (by simp![p30,r30,n30,s24,hs,B]) ?_
  refine sq (Le (Ma (l:=E6) (hM _) hA (by decide +kernel) (by decide)) (IZ E6) (show 3<4 by decide)) ?_
  refine sq (st E6 Fh (by decide +kernel) (by decide)) ?_
  refine sq (st (E6++Fh) G4 (by decide +kernel) (by decide)) ?_
  refine sq (st (E6++Fh++G4) HZ (by decide +kernel) (by decide)) ?_
  refine sq (st (E6++Fh++G4++HZ) Iv (by decide +kernel) (by decide)) ?_
  have e:=Kp (i:=3) (τ:=B (some (.lst ((E6++Fh++G4++HZ++Iv).map f)))) (g:=AK (mW M Iu)) rfl (IZ (E6++Fh++G4++HZ++Iv)) (Ma (l:=Iu) (hM _) hA (by decide +kernel) (by decide)) (IZ Iu) (show 21+3<=16777216 by decide)
  rw[<- yal]at e
  have e2:(E6++Fh++G4++HZ++Iv++Iu).map f=sT V (E4 [.d j]):=by
   show nE.map f=(nE.map (SE.s (nA [.d j]))).map λs=>T.str (tx V s)
   rw[yax]
   rfl
  rw[e2]at e;generalize sT V (E4 [.d j])=D at *;show A2 (AM (m2 AH (AA 3) (AK (mW M Iu))) (m2 Bd (AA 0) (mC (.int 24)))) (B _)=_;have em:m2 Bd (AA 0) (mC (.int 24)) (B (some (.lst ((E6++Fh++G4++HZ++Iv).map f))))=some (.v (.int (c.fmod 24)) false):=by simp![B]
  unfold A2 AM;rw[e,em];simp only[ha]
 unfold IC
 simp![key]
abbrev Oq:Stmt:=AV 70
def M9:AB->Option Out :=
 (AI (AQ (AR C1 (AD (AA 0) (AD (mC (.int 6)) AE))) (AG 2))
 (AI (AQ (m1 CN (m2 Bd (m2 Ee (AA 2) (mC (.int 20))) (m2 GW (mC (.int 10)) (mC (.int 50))))) (AG 3))
 (AI (AQ (m2 AH (m2 AH (AM (AA 1) (mC (.int 0))) (mC (.str ">="))) (AA 3)) (AG 4))
 (AI (AQ (AR IC (AD (m2 Ee (AA 2) (mC (.int 3))) (AD (AM (AA 1) (mC (.int 0))) AE))) (AG 5))
 (AI (AQ (AK (AF (AO (AD (m2 AH (mC (.str "never ")) (AM (AA 1) (mC (.int 2)))) (AD (mC (.str "read")) AE))) (AF (AO (AD (m2 AH (m2 AH (m2 AH (mC (.str "never ")) (AM (AA 1) (mC (.int 2)))) (mC (.str " "))) (AA 4)) (AD (mC (.str "read")) AE))) AE))) (AG 6))
 (AI (AQ (m2 AH (AA 6) (AK (AF (AO (AD (m2 AH (mC (.str "within a ")) (AA 3)) (AD (mC (.str "read")) AE))) AE))) (AG 6))
 (AI (AQ (m2 AH (AA 6) (AK (AF (AO (AD (m2 AH (m2 AH (m2 AH (mC (.str "nosooner ")) (AM (AA 1) (mC (.int 2)))) (mC (.str " "))) (AA 3)) (AD (mC (.str "read")) AE))) AE))) (AG 6))
 (AI (AQ (m2 AH (AA 6) (AK (AF (AO (AD (m2 AH (m2 AH (m2 AH (m2 AH (m2 AH (mC (.str "nosooner a ")) (AA 3)) (mC (.str " "))) (AA 4)) (mC (.str " "))) (AA 4)) (AD (mC (.str "read")) AE))) AE))) (AG 6))
 (AI (AQ (m2 AH (AA 6) (AK (AF (AO (AD (mC (.str "never")) (AD (mC (.str "text")) AE))) (AF (AO (AD (m2 AH (m2 AH (m2 AH (mC (.str "never ")) (AM (AA 1) (mC (.int 2)))) (mC (.str " "))) (AA 5)) (AD (mC (.str "text")) AE))) (AF (AO (AD (m2 AH (mC (.str "nosooner ")) (AM (AA 1) (mC (.int 2)))) (AD (mC (.str "text")) AE))) AE))))) (AG 6))
 (AI (AQ (m2 AH (AA 6) (AK (AF (AO (AD (m2 AH (m2 AH (mC (.str "nosooner ")) (AM (AA 1) (mC (.int 2)))) (mC (.str " x"))) (AD (mC (.str "text")) AE))) AE))) (AG 6))
 (AI (AQ (m2 AH (AA 6) (AK (AF (AO (AD (m2 AH (m2 AH (m2 AH (mC (.str "nosooner ")) (AM (AA 1) (mC (.int 2)))) (mC (.str " "))) (AA 4)) (AD (mC (.str "text")) AE))) (AF (AO (AD (mC (.str "within a")) (AD (mC (.str "text")) AE))) AE)))) (AG 6))
 (AI (AQ (m2 AH (AA 6) (AK (AF (AO (AD (m2 AH (m2 AH (m2 AH (mC (.str "within a ")) (AA 3)) (mC (.str " "))) (AA 4)) (AD (mC (.str "text")) AE))) AE))) (AG 6))
 (AI (AQ (m2 AH (AA 6) (AK (AF (AO (AD (m2 AH (mC (.str "within a 0")) (AA 3)) (AD (mC (.str "text")) AE))) (AF (AO (AD (mC (.str "Never a")) (AD (mC (.str "text")) AE))) AE)))) (AG 6))
 (AI (AQ (m2 AH (AA 6) (AK (AF (AO (AD (mC (.str "nevers a")) (AD (mC (.str "text")) AE))) (AF (AO (AD (mC (.str " never a")) (AD (mC (.str "text")) AE))) (AF (AO (AD (mC (.str "never a ")) (AD (mC (.str "text")) AE))) AE))))) (AG 6))
 (AI (AQ (m2 AH (AA 6) (AK (AF (AO (AD (mC (.str "")) (AD (mC (.str "text")) AE))) (AF (AO (AD (m2 AH (mC (.str "nosooner a 1 ")) (AA 5)) (AD (mC (.str "text")) AE))) AE)))) (AG 6))
 (A2 (m2 AH (AA 6) (AK (AF (AO (AD (mC .non) (AD (mC (.str "text")) AE))) (AF (AO (AD (mC (.int 5)) (AD (mC (.str "text")) AE))) (AF (AO (AD (AK (AF (mC (.str "never")) (AF (mC (.str "a")) AE))) (AD (mC (.str "text")) AE))) (AF (AO (AD (mC (.str "within a  1")) (AD (mC (.str "text")) AE))) AE))))))))))))))))))))))
def Nb:List T->Option Ru:=An 2 7 M9
abbrev RR:Fn:=⟨2,["_law_script","_law_names_here"],Nb⟩
abbrev YD:Gm:=⟨["_law_script","_law_names_here","_law_cell","_law_number","_law_look","_law_wrong","_law_some"],(AL Oq).names,[],1,[("_law_cell_at",Hl),("_law_no_look",Mv)],["str"],[],[],[],false,[],[],[],BW⟩
theorem zcw:FnScope YD.N RR.ps (AL Oq):=Ap (by decide +kernel)
theorem zde:Aj 200 YD (Ah Oq)=some M9:=by ext
abbrev Bc(V:Va):List T:=[.str (tx V w0),.str (tx V w1),.str (tx V w2),.str (tx V w3)]
theorem MT(V:Va):Af (Bc V) 0=some (.str (tx V w0))/\Af (Bc V) 1=some (.str (tx V w1))/\Af (Bc V) 2=some (.str (tx V w2))/\Af (Bc V) 3=some (.str (tx V w3)):=⟨D0 (by decide) rfl,D0 (by decide) rfl,D0 (by decide) rfl,D0 (by decide) rfl⟩
def CQ(V:Va)(A:Nat->S)(p:SE×Bool):T×Vd:=(.str (tx V (p.1.s A)),Dw p.2)
def mI(M:Nat->AB->Option Rs):List (SE×Bool)->AB->Option RsL
 |[]=>AE
 |p::r=>AF (AO (AD (Es M p.1) (AD (mC (.str (BU (Dw p.2)))) AE))) (mI M r)
section
variable {V:Va}{M:Nat->AB->Option Rs}{A:Nat->S}{τ:AB}(hM:∀i,M i τ=some (.v (.str (tx V (A i))) false))(hA:∀i,(A i).length<=100)
include hM hA
theorem Wf:∀l:List (SE×Bool),Co (l.map (·.1))=true->mI M l τ=some (.v ((l.map (CQ V A)).map A5) false)
 |[],_=>rfl
 |p::r,h=>by
  unfold Co at h;rw[yae,yd0,ya2,yf1]at h;have h1:=Tp hM hA h.1;have h2:=Wf r h.2;show AF (AO (AD (Es M p.1) (AD (mC (.str (BU (Dw p.2)))) AE))) (mI M r) τ=_
  simp![h1,h2]
  rfl
theorem KQ{l:List (SE×Bool)}(h:Co (l.map (·.1))=true)(hl:l.length<=1000):AK (mI M l) τ=some (.v (.own ((l.map (CQ V A)).map A5)) false):=by
 have h1:=Wf hM hA l h;have h2:((l.map (CQ V A)).map A5).length<=100000:=by rw[ya1,ya1];omega
 unfold AK;rw[h1];simp only[h2,KS,yeo]
end
theorem FY{V:Va}{A:Nat->S}(l:List (SE×Bool)):Aa ((l.map (CQ V A)).map A5)=true:=JF λq hq=>by
 obtain⟨p,_,rfl⟩:=yai.mp hq
 rfl
theorem Jj(ns:List Int):(BA ns).sh=true/\(BA ns).share=BA ns:=by
 have h:(BA ns).sh=true:=by
  unfold BA
  simp![Ld]
 exact⟨h,Dy _ h⟩
def cX(V:Va):List (T×Vd):=[(.non,.text),(.int 5,.text),(.lst [.str (tx V (L "never")),.str (tx V (L "a"))],.text),(.str (tx V (L "within a  1")),.text)]
def Hx(V:Va)(x:S):List (T×Vd):=cE.map (CQ V (cA x))++cX V
theorem znd{V:Va}{ns:List Int}{x:S}(hx:x.length<=70)(hn:CN (.int (((ns.getD 6 0).fdiv 20).fmod (10 ^ 50)))=some (.str (tx V [.d 4])))(hno:IC [.int ((ns.getD 6 0).fdiv 3),.str (tx V w0)]=some (.ok (.str (tx V x)))):Nb [BA ns,.lst (Bc V)]=some (.ok (.own ((Hx V x).map A5))):=by
 obtain⟨ss,sc⟩:=Jj ns;have c6:=Hv ns (k:=6) (by decide)
 rw[show(6:Int).toNat=6 from rfl]at c6;have p50:(0:Int)<=50/\(50:Int)<=1000000/\EC 10=true:=⟨by decide,by decide,Lx⟩
 have r50:(50:Int).toNat=50:=rfl;have n50:¬ ((10:Int) ^ 50=0):=by decide +kernel
 have s20:EB 20=true:=HP (by decide) (by decide)
 have s3:EB 3=true:=HP (by decide) (by decide)
 obtain⟨a0,a1,a2,a3⟩:=MT V
 let M:Nat->AB->Option Rs:=λi=>match i with
  |0=>AA 3
  |1=>AA 4
  |2=>AA 5
  |_=>AM (AA 1) (mC (.int 2))
 let B (y:Option T):AB:=[some (BA ns),some (.lst (Bc V)),some (.int (ns.getD 6 0)),some (.str (tx V [.d 4])),some (.str (tx V KR)),some (.str (tx V x)),y];have h2:∀y,AM (AA 1) (mC (.int 2)) (B y)=some (.v (.str (tx V w2)) false):=λy=>by simp![a2,B]
 have hM:∀y i,M i (B y)=some (.v (.str (tx V (cA x i))) false):=λy i=>match i with
  |0=>rfl
  |1=>rfl
  |2=>rfl
  |i+3=>h2 y
 have hA:∀i,(cA x i).length<=100:=λi=>match i with
  |0=>(show 1<=100 by decide)
  |1=>(by decide +kernel:KR.length<=100)
  |2=>yap hx (by decide)
  |i+3=>(show 1<=100 by decide)
 have st:∀P C:List (SE×Bool),Co (C.map (·.1))=true->P.length+C.length<=1000->AQ (m2 AH (AA 6) (AK (mI M C))) (AG 6) (B (some (.lst ((P.map (CQ V (cA x))).map A5))))=some (.nx (B (some (.lst (((P++C).map (CQ V (cA x))).map A5))))):=λP C hC hn=>by
  rw[yal,yal];exact A4 (i:=6) rfl (FY P) (KQ (hM _) hA hC (by omega)) (FY C) (by simp only[ya1];unfold AY;omega)
 have key:M9 [some (BA ns),some (.lst (Bc V)),none,none,none,none,none]=some (.rt (.own ((Hx V x).map A5))):=by
  unfold M9;refine sq (τ':=[some (BA ns),some (.lst (Bc V)),some (.int (ns.getD 6 0)),none,none,none,none]) (by simp![ss,sc,c6]) ?_
  refine sq (τ':=[some (BA ns),some (.lst (Bc V)),some (.int (ns.getD 6 0)),some (.str (tx V [.d 4])),none,none,none]) (by simp![p50,r50,n50,s20,hn]) ?_
  refine sq (τ':=[some (BA ns),some (.lst (Bc V)),some (.int (ns.getD 6 0)),some (.str (tx V [.d 4])),some (.str (tx V KR)),none,none]) (by simp_arith! [a0,lit V,FW V,En V,KR]) ?_
  refine sq (τ':=B none) (by simp![a0,s3,hno,B]) ?_
  refine sq (Le (KQ (l:=DZ) (hM _) hA (by decide +kernel) (by decide)) (FY DZ) (show 6<7 by decide)) ?_
  refine sq (st DZ Eg (by decide +kernel) (by decide)) ?_
  refine sq (st (DZ++Eg) FO (by decide +kernel) (by decide)) ?_
  refine sq (st (DZ++Eg++FO) Fu (by decide +kernel) (by decide)) ?_
  refine sq (st (DZ++Eg++FO++Fu) Gs (by decide +kernel) (by decide)) ?_
  refine sq (st (DZ++Eg++FO++Fu++Gs) Hw (by decide +kernel) (by decide)) ?_
  refine sq (st (DZ++Eg++FO++Fu++Gs++Hw) JZ (by decide +kernel) (by decide)) ?_
  refine sq (st (DZ++Eg++FO++Fu++Gs++Hw++JZ) Kk (by decide +kernel) (by decide)) ?_
  refine sq (st (DZ++Eg++FO++Fu++Gs++Hw++JZ++Kk) NN (by decide +kernel) (by decide)) ?_
  refine sq (st (DZ++Eg++FO++Fu++Gs++Hw++JZ++Kk++NN) SO (by decide +kernel) (by decide)) ?_
  refine sq (st (DZ++Eg++FO++Fu++Gs++Hw++JZ++Kk++NN++SO) ZE (by decide +kernel) (by decide)) ?_
  have sQ:=FY (V:=V) (A:=cA x) cE;have lQ:((cE.map (CQ V (cA x))).map A5).length=19:=by rw[ya1,ya1];rfl
  have eC:(Hx V x).map A5=(cE.map (CQ V (cA x))).map A5++(cX V).map A5:=yal;rw[eC];show A2 _ (B (some (.lst ((cE.map (CQ V (cA x))).map A5))))=_;generalize (cE.map (CQ V (cA x))).map A5=Q at *
  simp![sQ,AW _ sQ,lQ,lit V,A5,BU,cX,B]
 unfold Nb
 simp![ss,sc,key]
abbrev Oh:Stmt:=AV 69
def M4:AB->Option Out :=
 (AI (AQ (AR C1 (AD (AA 0) (AD (mC (.int 4)) AE))) (AG 1))
 (AI (AQ (m1 CN (m2 Bd (m2 Ee (AA 1) (mC (.int 20))) (m2 GW (mC (.int 10)) (mC (.int 50))))) (AG 2))
 (AI (AQ (m1 CN (m2 AH (mC (.int 2)) (m2 Bd (AR C1 (AD (AA 0) (AD (mC (.int 5)) AE))) (mC (.int 9))))) (AG 3))
 (AI (AQ (m2 AH (m2 AH (m2 AH (m2 AH (m2 AH (m2 AH (mC (.str "1/")) (AA 3)) (mC (.str " "))) (AA 2)) (mC (.str "; "))) (AA 2)) (mC (.str " -"))) (AG 4))
 (AI (AQ (AK (AF (AO (AD (AA 4) (AD (mC (.str "read")) AE))) (AF (AO (AD (mC (.str "")) (AD (mC (.str "read")) AE))) (AF (AO (AD (m2 AH (AA 4) (mC (.str "; 0 0"))) (AD (mC (.str "read")) AE))) (AF (AO (AD (m2 AH (AA 4) (mC (.str "; "))) (AD (mC (.str "text")) AE))) (AF (AO (AD (m2 AH (mC (.str "; ")) (AA 4)) (AD (mC (.str "text")) AE))) AE)))))) (AG 5))
 (AI (AQ (m2 AH (AA 5) (AK (AF (AO (AD (m2 AH (AA 4) (mC (.str ";"))) (AD (mC (.str "text")) AE))) (AF (AO (AD (m2 AH (AA 4) (mC (.str ";0 0"))) (AD (mC (.str "text")) AE))) AE)))) (AG 5))
 (AI (AQ (m2 AH (AA 5) (AK (AF (AO (AD (m2 AH (AA 4) (mC (.str " "))) (AD (mC (.str "text")) AE))) (AF (AO (AD (AA 2) (AD (mC (.str "text")) AE))) (AF (AO (AD (mC (.str "-")) (AD (mC (.str "text")) AE))) AE))))) (AG 5))
 (AI (AQ (m2 AH (AA 5) (AK (AF (AO (AD (m2 AH (AA 2) (mC (.str " 0 0"))) (AD (mC (.str "text")) AE))) (AF (AO (AD (mC (.str "- 0")) (AD (mC (.str "text")) AE))) (AF (AO (AD (mC (.str "-1 0")) (AD (mC (.str "text")) AE))) AE))))) (AG 5))
 (AI (AQ (m2 AH (AA 5) (AK (AF (AO (AD (mC (.str "1/1 0")) (AD (mC (.str "text")) AE))) (AF (AO (AD (m2 AH (AA 4) (mC (.str "; 1 --"))) (AD (mC (.str "text")) AE))) AE)))) (AG 5))
 (AI (AQ (m2 AH (AA 5) (AK (AF (AO (AD (m2 AH (mC (.str "2/4 0; ")) (AA 4)) (AD (mC (.str "text")) AE))) (AF (AO (AD (m2 AH (AA 2) (mC (.str " 01"))) (AD (mC (.str "text")) AE))) AE)))) (AG 5))
 (AI (AQ (m2 AH (AA 5) (AK (AF (AO (AD (m2 AH (AA 2) (mC (.str " -1"))) (AD (mC (.str "text")) AE))) (AF (AO (AD (m2 AH (AA 2) (mC (.str " +1"))) (AD (mC (.str "text")) AE))) AE)))) (AG 5))
 (AI (AQ (m2 AH (AA 5) (AK (AF (AO (AD (m2 AH (AA 2) (mC (.str "  0"))) (AD (mC (.str "text")) AE))) (AF (AO (AD (m2 AH (mC (.str " ")) (AA 4)) (AD (mC (.str "text")) AE))) AE)))) (AG 5))
 (AI (AQ (m2 AH (AA 5) (AK (AF (AO (AD (m2 AH (AA 4) (mC (.str "\n"))) (AD (mC (.str "text")) AE))) (AF (AO (AD (m2 AH (mC (.str "1 1")) (m2 DG (mC (.str "0")) (mC (.int 60)))) (AD (mC (.str "text")) AE))) AE)))) (AG 5))
 (AI (AQ (m2 AH (AA 5) (AK (AF (AO (AD (mC .non) (AD (mC (.str "text")) AE))) (AF (AO (AD (mC (.int 7)) (AD (mC (.str "text")) AE))) (AF (AO (AD (AK (AF (AA 4) AE)) (AD (mC (.str "text")) AE))) AE))))) (AG 5))
 (A2 (m2 AH (AA 5) (AK (AF (AO (AD (mC (.str "none")) (AD (mC (.str "text")) AE))) (AF (AO (AD (mC (.str ";")) (AD (mC (.str "text")) AE))) (AF (AO (AD (m2 AH (AA 4) (mC (.str "; ; 0 0"))) (AD (mC (.str "text")) AE))) AE))))))))))))))))))))
def N8:List T->Option Ru:=An 1 6 M4
abbrev RM:Fn:=⟨2,["_law_script"],N8⟩
abbrev Xx:Gm:=⟨["_law_script","_law_cell","_law_number","_law_other","_law_good","_law_some"],(AL Oh).names,[],1,[("_law_cell_at",Hl)],["str"],[],[],[],false,[],[],[],BW⟩
theorem zf9:FnScope Xx.N RM.ps (AL Oh):=Ap (by decide +kernel)
theorem zh3:Aj 200 Xx (Ah Oh)=some M4:=by ext
def Il(V:Va):List (T×Vd):=Fc.map (CQ V DR)++[(.non,.text),(.int 7,.text),(.lst [.str (tx V Hi)],.text)]++HR.map (CQ V DR)
theorem zhw{V:Va}{ns:List Int}(hn:CN (.int (((ns.getD 4 0).fdiv 20).fmod (10 ^ 50)))=some (.str (tx V [.d 3])))(ho:CN (.int (2+(ns.getD 5 0).fmod 9))=some (.str (tx V [.d 6]))):N8 [BA ns]=some (.ok (.own ((Il V).map A5))):=by
 obtain⟨ss,sc⟩:=Jj ns;have c4:=Hv ns (k:=4) (by decide)
 rw[show(4:Int).toNat=4 from rfl]at c4;have c5:=Hv ns (k:=5) (by decide)
 rw[show(5:Int).toNat=5 from rfl]at c5;have p50:(0:Int)<=50/\(50:Int)<=1000000/\EC 10=true:=⟨by decide,by decide,Lx⟩
 have r50:(50:Int).toNat=50:=rfl;have n50:¬ ((10:Int) ^ 50=0):=by decide +kernel
 have s20:EB 20=true:=HP (by decide) (by decide)
 have mz:=Sl V
 let M:Nat->AB->Option Rs:=λi=>match i with
  |0=>AA 2
  |1=>AA 4
  |_=>m2 DG (mC (.str "0")) (mC (.int 60))
 let B (y:Option T):AB:=[some (BA ns),some (.int (ns.getD 4 0)),some (.str (tx V [.d 3])),some (.str (tx V [.d 6])),some (.str (tx V Hi)),y]
 have hM:∀y i,M i (B y)=some (.v (.str (tx V (DR i))) false):=λy i=>match i with
  |0=>rfl
  |1=>rfl
  |i+2=>mz _
 have hA:∀i,(DR i).length<=100:=λi=>match i with
  |0=>(show 1<=100 by decide)
  |1=>(by decide +kernel:Hi.length<=100)
  |i+2=>(by decide:(List.replicate 60 (K.c 48)).length<=100)
 have st:∀P C:List (SE×Bool),Co (C.map (·.1))=true->P.length+C.length<=1000->AQ (m2 AH (AA 5) (AK (mI M C))) (AG 5) (B (some (.lst ((P.map (CQ V DR)).map A5))))=some (.nx (B (some (.lst (((P++C).map (CQ V DR)).map A5))))):=λP C hC hn=>by
  rw[yal,yal];exact A4 (i:=5) rfl (FY P) (KQ (hM _) hA hC (by omega)) (FY C) (by simp only[ya1];unfold AY;omega)
 have key:M4 [some (BA ns),none,none,none,none,none]=some (.rt (.own ((Il V).map A5))):=by
  unfold M4;refine sq (τ':=[some (BA ns),some (.int (ns.getD 4 0)),none,none,none,none]) (by simp![ss,sc,c4]) ?_
  refine sq (τ':=[some (BA ns),some (.int (ns.getD 4 0)),some (.str (tx V [.d 3])),none,none,none]) (by simp![p50,r50,n50,s20,hn]) ?_
  refine sq (τ':=[some (BA ns),some (.int (ns.getD 4 0)),some (.str (tx V [.d 3])),some (.str (tx V [.d 6])),none,none]) (by simp![ss,sc,c5,ho]) ?_
  refine sq (τ':=B none) (by simp_arith! [lit V,FW V,En V,Hi,B]) ?_
  refine sq (Le (KQ (l:=EG) (hM _) hA (by decide +kernel) (by decide)) (FY EG) (show 5<6 by decide)) ?_
  refine sq (st EG Fd (by decide +kernel) (by decide)) ?_
  refine sq (st (EG++Fd) GV (by decide +kernel) (by decide)) ?_
  refine sq (st (EG++Fd++GV) HS (by decide +kernel) (by decide)) ?_
  refine sq (st (EG++Fd++GV++HS) Ik (by decide +kernel) (by decide)) ?_
  refine sq (st (EG++Fd++GV++HS++Ik) Jw (by decide +kernel) (by decide)) ?_
  refine sq (st (EG++Fd++GV++HS++Ik++Jw) MH (by decide +kernel) (by decide)) ?_
  refine sq (st (EG++Fd++GV++HS++Ik++Jw++MH) Pe (by decide +kernel) (by decide)) ?_
  refine sq (st (EG++Fd++GV++HS++Ik++Jw++MH++Pe) Uh (by decide +kernel) (by decide)) ?_
  have sQ:=FY (V:=V) (A:=DR) Fc;have lQ:((Fc.map (CQ V DR)).map A5).length=23:=by rw[ya1,ya1];rfl
  let X:List (T×Vd):=[(.non,.text),(.int 7,.text),(.lst [.str (tx V Hi)],.text)];refine sq (A4 (i:=5) (l:=(Fc.map (CQ V DR)).map A5) (m:=X.map A5) rfl sQ (by simp![lit V,A5,BU,X];rfl) rfl (by rw[lQ];exact(show 23+3<=16777216 by decide))) ?_
  have e:=Kp (i:=5) (τ:=B (some (.lst ((Fc.map (CQ V DR)).map A5++X.map A5)))) (g:=AK (mI M HR)) rfl (by rw[Cd]at *;rw[List.all_append,sQ];rfl) (KQ (l:=HR) (hM _) hA (by decide +kernel) (by decide)) (FY HR) (by rw[yag,lQ];exact(show 23+3+3<=16777216 by decide))
  rw[<- yal,<- yal]at e;show A2 (m2 AH (AA 5) (AK (mI M HR))) (B (some (.lst ((Fc.map (CQ V DR)).map A5++X.map A5))))=_;unfold A2;rw[<- yal,e]
  rfl
 unfold N8
 simp![ss,sc,key]
abbrev Oi:Stmt:=AV 65
def M5:AB->Option Out :=
 (AI (AQ (m1 CN (m2 Bd (AR C1 (AD (AA 0) (AD (mC (.int 1)) AE))) (m2 GW (mC (.int 10)) (mC (.int 50))))) (AG 2))
 (AI (AQ (AK (AF (AK (AF (mC (.str "watches")) (AF (AM (AA 1) (mC (.int 0))) (AF (AM (AA 1) (mC (.int 1))) AE)))) (AF (AK (AF (mC (.str "room")) (AF (AM (AA 1) (mC (.int 2))) (AF (m2 AH (m2 AH (AM (AA 1) (mC (.int 0))) (mC (.str "<="))) (AA 2)) AE)))) (AF (AK (AF (mC (.str "room")) (AF (AM (AA 1) (mC (.int 3))) AE))) AE)))) (AG 3))
 (AI (AQ (AK (AF (mC (.str "door")) (AF (AM (AA 1) (mC (.int 2))) (AF (AM (AA 1) (mC (.int 3))) (AF (m2 AH (m2 AH (AM (AA 1) (mC (.int 0))) (mC (.str ">="))) (AA 2)) (AF (m2 AH (AM (AA 1) (mC (.int 1))) (mC (.str "=0"))) (AF (m2 AH (AM (AA 1) (mC (.int 1))) (mC (.str ":0"))) (AF (mC (.str "go!")) AE)))))))) (AG 4))
 (A2 (m2 AH (AA 3) (AK (AF (Ax (Ay (AA 4) none (some (m2 AH (mC (.int 3)) (m2 Bd (AR C1 (AD (AA 0) (AD (mC (.int 2)) AE))) (mC (.int 5)))))) (Au (AA 4) none (some (m2 AH (mC (.int 3)) (m2 Bd (AR C1 (AD (AA 0) (AD (mC (.int 2)) AE))) (mC (.int 5))))))) (AF (AK (AF (mC (.str "door")) (AF (AM (AA 1) (mC (.int 3))) (AF (AM (AA 1) (mC (.int 2))) (AF (m2 AH (AM (AA 1) (mC (.int 0))) (mC (.str ":0"))) AE))))) AE))))))))
def Kz:List T->Option Ru:=An 2 5 M5
abbrev RN:Fn:=⟨2,["_law_script","_law_names_here"],Kz⟩
abbrev Xy:Gm:=⟨["_law_script","_law_names_here","_law_size","_law_rows_here","_law_words"],(AL Oi).names,[],1,[("_law_cell_at",Hl)],["str"],[],[],[],false,[],[],[],BW⟩
theorem zfa:FnScope Xy.N RN.ps (AL Oi):=Ap (by decide +kernel)
theorem zh4:Aj 200 Xy (Ah Oi)=some M5:=by ext
abbrev AU(V:Va)(r:List S):T:=.lst (sT V r)
abbrev Bb(V:Va)(R:List (List S)):List T:=R.map (AU V)
theorem GR(V:Va)(R:List (List S)):Aa (Bb V R)=true:=by
 rw[Cd,yab];intro t ht;obtain⟨r,_,rfl⟩:=yai.mp ht;show((!false) && Aa (sT V r))=true;rw[Ce]
 rfl
theorem zna{α:Type}(l:List α)(n:Nat):BL l none (some (n:Int))=l.take n:=by
 unfold BL;rw[HT.sIx_nat,HT.sIx_none,ybc,Nat.sub_zero]
 by_cases h:n<=l.length
 .rw[yco h]
 .rw[Nat.min_eq_right (by omega),yeb,ybh (by omega)]
theorem zgw{α:Type}(l:List α)(n:Nat):BL l (some (n:Int)) none=l.drop n:=by
 unfold BL;rw[HT.sIx_nat,HT.sIx_none]
 by_cases h:n<=l.length
 .rw[yco h];exact ybh (by rw[ycv];omega)
 .rw[Nat.min_eq_right (by omega),Nat.sub_self,ybv,List.drop_of_length_le (by omega)]
theorem zhy{V:Va}{ns:List Int}(hn:CN (.int ((ns.getD 1 0).fmod (10 ^ 50)))=some (.str (tx V [.d 0]))):Kz [BA ns,.lst (Bc V)]=some (.ok (.own (Bb V (Am ((ns.getD 2 0).fmod 5).toNat)))):=by
 obtain⟨ss,sc⟩:=Jj ns;have c1:=Hv ns (k:=1) (by decide)
 rw[show(1:Int).toNat=1 from rfl]at c1;have c2:=Hv ns (k:=2) (by decide)
 rw[show(2:Int).toNat=2 from rfl]at c2;have p50:(0:Int)<=50/\(50:Int)<=1000000/\EC 10=true:=⟨by decide,by decide,Lx⟩
 have r50:(50:Int).toNat=50:=rfl;have n50:¬ ((10:Int) ^ 50=0):=by decide +kernel
 obtain⟨a0,a1,a2,a3⟩:=MT V;have r0:=yb7 (ns.getD 2 0) (show(0:Int)<5 by decide)
 obtain⟨k,hk⟩:=ydi r0;rw[hk,ybi]
 have cu:BL (sT V [L "door",w2,w3,w0++L ">="++[.d 0],w1++L "=0",w1++L ":0",L "go!"]) none (some (3+(k:Int)))=sT V (Cf k):=by
  rw[show(3+(k:Int))=((3+k:Nat):Int) by omega,zna,<- List.map_take]
  rfl
 have sh3:Aw (sT V (Cf k))=sT V (Cf k):=AW _ (Ce V _);have s0:=Ce V BN;have s1:=Ce V B9;have s2:=Ce V B3;have e:Bb V (Am k)=[.lst (sT V BN),.lst (sT V B9),.lst (sT V B3),.lst (sT V (Cf k)),.lst [.str (tx V (L "door")),.str (tx V w3),.str (tx V w2),.str (tx V (w0++L ":0"))]]:=rfl;rw[e]
 have key:M5 [some (BA ns),some (.lst (Bc V)),none,none,none]=some (.rt (.own [.lst (sT V BN),.lst (sT V B9),.lst (sT V B3),.lst (sT V (Cf k)),.lst [.str (tx V (L "door")),.str (tx V w3),.str (tx V w2),.str (tx V (w0++L ":0"))]])):=by
  unfold M5;refine sq (τ':=[some (BA ns),some (.lst (Bc V)),some (.str (tx V [.d 0])),none,none]) (by simp![ss,sc,c1,p50,r50,n50,hn]) ?_
  refine sq (τ':=[some (BA ns),some (.lst (Bc V)),some (.str (tx V [.d 0])),some (.lst [AU V BN,AU V B9,AU V B3]),none]) (by simp_arith! [a0,a1,a2,a3,lit V,FW V,En V,AU,BN,B9,B3]) ?_
  refine sq (τ':=[some (BA ns),some (.lst (Bc V)),some (.str (tx V [.d 0])),some (.lst [AU V BN,AU V B9,AU V B3]),some (.lst (sT V [L "door",w2,w3,w0++L ">="++[.d 0],w1++L "=0",w1++L ":0",L "go!"]))]) (by simp_arith! [a0,a1,a2,a3,lit V,FW V,En V]) ?_
  generalize hB:sT V [L "door",w2,w3,w0++L ">="++[.d 0],w1++L "=0",w1++L ":0",L "go!"]=B at *;have sB:Aa B=true:=by rw[<- hB];exact Ce V _
  simp_arith! [ss,sc,c2,hk,sB,AW _ sB,cu,a0,a1,a2,a3,lit V,FW V,En V,s0,s1,s2,AW _ s0,AW _ s1,AW _ s2,sh3]
 unfold Kz
 simp![ss,sc,key]
abbrev Of:Stmt:=AV 66
def NK:AB->Option Rs :=
 (G9 (mC (.str " ")) (AA 0))
def QO:AB->Option Out :=
 (A2 (G9 (mC (.str "\n")) (BO 1 [] (B7 (AA 0)) (AG 0) (mC (.bl true)) NK)))
def FT:List T->Option Ru:=An 1 1 QO
abbrev RK:Fn:=⟨1,["_law_rows_here"],FT⟩
abbrev Xv:Gm:=⟨["_law_rows_here"],(AL Of).names,[],0,[],[],[],[],[],false,[],[],[],BW⟩
theorem zf7:FnScope Xv.N RK.ps (AL Of):=Ap (by decide +kernel)
theorem zh1:Aj 200 Xv (Ah Of)=some QO:=by ext
theorem Nz:∀{ys:List Str} {m:Nat},(∀y∈ys,y.length<=m)->(ys.map (·.length)).sum<=ys.length * m
 |[],m,_=>ycf _
 |y::r,m,h=>by
  have h1:=h y (ya3 ..);have h2:=Nz (ys:=r) λz hz=>h z (ya0 _ hz)
  rw[yae,List.sum_cons,ya6,Nat.succ_mul]
  omega
theorem XH(c:Nat):∀{l:List S} {m:Nat},(∀s∈l,s.length<=m)->(jn c l).length<=l.length * (m+1)
 |[],m,_=>ycf _
 |[x],m,h=>by
  have:=h x (ya3 ..);show x.length<=1 * (m+1)
  omega
 |x::y::r,m,h=>by
  have h1:=h x (ya3 ..);have h2:=XH c (l:=y::r) λs hs=>h s (ya0 _ hs)
  show(x++.c c::jn c (y::r)).length<=_;rw[yag,ya6,ya6 (a:=x),Nat.succ_mul]
  omega
theorem XI(V:Va)(c:Nat):∀l:List S,ev V (jn c l)=Tx.joinL c (l.map (ev V))
 |[]=>rfl
 |[x]=>rfl
 |x::y::r=>by
  show ev V (x++.c c::jn c (y::r))=ev V x++c::Tx.joinL c ((y::r).map (ev V));rw[Kc,BQ,XI V c (y::r)]
  rfl
theorem XG(V:Va){c:Nat}{x:Str}(hx:x=⟨#[c]⟩)(l:List S):Txt.join x (l.map (tx V))=tx V (jn c l):=by
 have e:Txt.join x (l.map (tx V))=Str.join x (l.map (tx V)):=by
  show Builtin.Str.glued _ _=_;rw[StrLaws.glued_eq_join]
 refine Tx.cs_ext ?_;rw[e,hx,Tx.cs_join];show _=ev V (jn c l);rw[XI,yax]
 rfl
theorem sT_eq(V:Va)(l:List S):sT V l=(l.map (tx V)).map T.str:=by rw[yax];rfl
theorem Nu(V:Va){R:List (List S)}(h:Eo R=true):FT [.lst (Bb V R)]=some (.ok (.str (tx V (BV R)))):=by
 unfold Eo at h;rw[ya2,yf1]at h;obtain⟨hl,hr⟩:=h
 have hr:∀r∈R,r.length<=10/\∀s∈r,s.length<=70:=λr hm=>by
  have:=yab.mp hr r hm;rw[ya2,yf1]at this;exact⟨this.1,λs hs=>yf5 (yab.mp this.2 s hs)⟩
 have one:(Str.ofString " ").length=1/\(Str.ofString "\n").length=1:=by decide +kernel
 have lc:=E9 (b:=AG 0) (me:=NK) (AU V) (λr=>T.str (tx V (jn 32 r))) (λτ=>∃a,τ=[a]) R [none] ⟨none,rfl⟩ λr hm τ hI=>by
  obtain⟨a,rfl⟩:=hI;obtain⟨h1,h2⟩:=hr r hm;refine⟨[some (AU V r)],rfl,?_,_,rfl⟩
  have hs:=Nz (ys:=r.map (tx V)) (m:=4200) λy hy=>by
   obtain⟨s,hs,rfl⟩:=yai.mp hy;have:=LQ V s;have:=h2 s hs
   omega
  have hb:((r.map (tx V)).map (·.length)).sum+(r.map (tx V)).length * (Str.ofString " ").length<=100000:=by
   rw[one.1,ya1]at *
   omega
  have hj:=XG V MU.2 r;have s0:=Ce V r;unfold AU;rw[sT_eq]at s0 ⊢;unfold NK
  simp![G9,s0,AW _ s0,L7,hb,hj]
 have em:(R.map λr=>T.str (tx V (jn 32 r)))=((R.map (jn 32)).map (tx V)).map T.str:=by rw[yax,yax];rfl
 rw[em]at lc
 have hs:=Nz (ys:=(R.map (jn 32)).map (tx V)) (m:=42600) λy hy=>by
  obtain⟨s,hs,rfl⟩:=yai.mp hy;obtain⟨r,hm,rfl⟩:=yai.mp hs;obtain⟨h1,h2⟩:=hr r hm;have h3:=LQ V (jn 32 r);have h4:=XH 32 h2
  omega
 have hb:(((R.map (jn 32)).map (tx V)).map (·.length)).sum+((R.map (jn 32)).map (tx V)).length * (Str.ofString "\n").length<=AY:=by
  rw[one.2,ya1,ya1]at *;unfold AY
  omega
 have hj:=XG V MU.1 (R.map (jn 32));have s0:=GR V R;have ll:(Bb V R).length<=100000:=by rw[ya1];omega
 have ht:tx V (BV R)=tx V (jn 10 (R.map (jn 32))):=rfl;rw[ht];have lc:Bg (AG 0) (mC (.bl true)) NK (Bb V R) [none]=some (((R.map (jn 32)).map (tx V)).map T.str):=lc;generalize Bb V R=B at *;unfold FT QO
 simp![G9,s0,AW _ s0,ll,lc,L7,hb,hj]
abbrev Oo:Stmt:=AV 67
def SN:AB->Option Rs :=
 (AO (AD (m2 AH (Ax (Ay (AA 2) none (some (mC (.int 3)))) (Au (AA 2) none (some (mC (.int 3))))) (AK (AF (AA 0) AE))) (AD (AA 1) AE)))
def M8:AB->Option Out :=
 (AI (Ct 4 (AK (AF (AO (AD (AK (AF (mC (.str "door")) (AF (AM (AA 1) (mC (.int 2))) AE))) (AD (mC (.str "text")) AE))) (AF (AO (AD (AK (AF (mC (.str "door")) (AF (AM (AA 1) (mC (.int 2))) (AF (AM (AA 1) (mC (.int 0))) AE)))) (AD (mC (.str "bad")) AE))) AE))))
 (AI (Bx 4 (AO (AD (AK (AF (mC (.str "door")) (AF (AM (AA 1) (mC (.int 2))) (AF (AM (AA 1) (mC (.int 3))) (AF (AA 2) (AF (m2 AH (AM (AA 1) (mC (.int 0))) (mC (.str ":0"))) AE)))))) (AD (mC (.str "text")) AE))))
 (AI (Bx 4 (AO (AD (AK (AF (mC (.str "door")) (AF (AM (AA 1) (mC (.int 2))) (AF (AM (AA 1) (mC (.int 3))) (AF (m2 AH (AM (AA 1) (mC (.int 0))) (mC (.str ":0"))) (AF (m2 AH (AM (AA 1) (mC (.int 0))) (mC (.str "<1"))) AE)))))) (AD (mC (.str "text")) AE))))
 (AI (Bx 4 (AO (AD (AK (AF (mC (.str "door")) (AF (AM (AA 1) (mC (.int 2))) (AF (AM (AA 1) (mC (.int 3))) (AF (mC (.str "go!")) (AF (m2 AH (AM (AA 1) (mC (.int 0))) (mC (.str "<1"))) AE)))))) (AD (mC (.str "text")) AE))))
 (AI (Bx 4 (AO (AD (AK (AF (mC (.str "door")) (AF (AM (AA 1) (mC (.int 2))) (AF (AM (AA 1) (mC (.int 3))) (AF (mC (.str "go!")) (AF (mC (.str "go?")) AE)))))) (AD (mC (.str "text")) AE))))
 (AI (Bx 4 (AO (AD (AK (AF (mC (.str "door")) (AF (AM (AA 1) (mC (.int 2))) (AF (AM (AA 1) (mC (.int 3))) (AF (mC (.str "go!")) (AF (m2 AH (AM (AA 1) (mC (.int 0))) (mC (.str ":0"))) AE)))))) (AD (mC (.str "text")) AE))))
 (AI (Dj 4) (AI (Ct 4 (m2 AH (AA 4) (AK (AF (AO (AD (AK (AF (mC (.str "door")) (AF (AM (AA 1) (mC (.int 2))) (AF (AM (AA 1) (mC (.int 3))) (AF (mC (.str "!")) AE))))) (AD (mC (.str "bad")) AE))) (AF (AO (AD (AK (AF (mC (.str "door")) (AF (mC (.str "")) (AF (mC (.str "")) (AF (mC (.str ":0")) AE))))) (AD (mC (.str "bad")) AE))) AE)))))
 (AI (Bx 4 (AO (AD (AK (AF (mC (.str "door")) (AF (AM (AA 1) (mC (.int 2))) (AF (AM (AA 1) (mC (.int 3))) (AF (m2 AH (m2 AH (mC (.str "z<")) (m1 CN (m2 Bd (AA 3) (mC (.int 7))))) (mC (.str "?"))) AE))))) (AD (mC (.str "bad")) AE))))
 (AI (Dj 4) (A2 (BO 2 [0] (B7 (AA 4)) (Cn 2 (BX (AG 0) (BX (AG 1) DD))) (mC (.bl true)) SN))))))))))))
def Na:List T->Option Ru:=An 4 5 M8
abbrev RQ:Fn:=⟨1,["_law_rows_here","_law_names_here","_law_wrong","_law_cell"],Na⟩
abbrev YC:Gm:=⟨["_law_rows_here","_law_names_here","_law_wrong","_law_cell","_law_doors_here"],(AL Oo).names,["_law_rows_here"],0,[],["str"],[],["_law_doors_here"],[],false,[],[],[],BW⟩
theorem zds:FnScope YC.N RQ.ps (AL Oo):=Ap (by decide +kernel)
theorem zei:Aj 200 YC (Ah Oo)=some M8:=by ext
abbrev B8(V:Va)(p:List (List S)×Vd):T:=.tup [.lst (Bb V p.1),.str (BU p.2)]
abbrev Hs(V:Va)(p:List S×Vd):T:=.tup [AU V p.1,.str (BU p.2)]
theorem GL(V:Va)(l:List S):Aw (sT V l)=sT V l:=AW _ (Ce V l)
theorem Ly(V:Va)(R:List (List S)):Aw (Bb V R)=Bb V R:=AW _ (GR V R)
theorem Pc(V:Va)(l:List (List (List S)×Vd)):Aa (l.map (B8 V))=true:=by
 rw[Cd,yab];intro t ht;obtain⟨r,_,rfl⟩:=yai.mp ht;show((!false) && (((!false) && Aa (Bb V r.1)) && (true && true)))=true;rw[GR]
 rfl
theorem Y6(V:Va)(l:List (List S×Vd)):Aa (l.map (Hs V))=true:=by
 rw[Cd,yab];intro t ht;obtain⟨r,_,rfl⟩:=yai.mp ht;show((!false) && (((!false) && Aa (sT V r.1)) && (true && true)))=true;rw[Ce]
 rfl
def mD(M:Nat->AB->Option Rs)(p:List SE×Vd):AB->Option Rs:=AO (AD (AK (mW M p.1)) (AD (mC (.str (BU p.2))) AE))
def Mc(M:Nat->AB->Option Rs):List (List SE×Vd)->AB->Option RsL
 |[]=>AE
 |p::r=>AF (mD M p) (Mc M r)
def HI(V:Va)(A:Nat->S)(p:List SE×Vd):T:=Hs V (p.1.map (SE.s A),p.2)
section
variable {V:Va}{M:Nat->AB->Option Rs}{A:Nat->S}{τ:AB}(hM:∀i,M i τ=some (.v (.str (tx V (A i))) false))(hA:∀i,(A i).length<=100)
include hM hA
theorem Wh{p:List SE×Vd}(h:Co p.1=true)(hl:p.1.length<=1000):mD M p τ=some (.v (HI V A p) false):=by
 have h1:=Ma hM hA h hl;have h2:=IZ (V:=V) (A:=A) p.1
 have e:HI V A p=.tup [.lst (p.1.map λe=>.str (tx V (e.s A))),.str (BU p.2)]:=by
  unfold HI Hs AU sT;rw[yax]
  rfl
 rw[e];unfold mD;generalize (p.1.map λe=>T.str (tx V (e.s A)))=D at *
 generalize AK (mW M p.1)=g at *
 simp![h1,AW _ h2]
theorem Wg:∀l:List (List SE×Vd),(∀p∈l,Co p.1=true/\p.1.length<=1000)->Mc M l τ=some (.v (l.map (HI V A)) false)
 |[],_=>rfl
 |p::r,h=>by
  have h1:=Wh hM hA (h p (ya3 ..)).1 (h p (ya3 ..)).2;have h2:=Wg r λq hq=>h q (ya0 _ hq)
  show AF (mD M p) (Mc M r) τ=_
  simp![h1,h2]
end
theorem Lg{V:Va}{A:Nat->S}(l:List (List SE×Vd)):Aa (l.map (HI V A))=true:=by
 rw[Cd,yab];intro t ht;obtain⟨r,_,rfl⟩:=yai.mp ht;have:=Y6 V [(r.1.map (SE.s A),r.2)];rw[Cd,yab]at this;exact this _ (ya7.mpr rfl)
theorem VE{τ:AB}{i:Nat}{g:AB->Option Rs}{t:T}(h:g τ=some (.v t false))(hi:i<τ.length):Ct i g τ=some (.nx (τ.set i (some t))):=by
 simp![h,hi]
theorem app_l{τ:AB}{i:Nat}{g:AB->Option Rs}{l:List T}{t:T}(h0:τ[i]?=some (some (.own l)))(h:g τ=some (.v t false))(hl:l.length<100000):Bx i g τ=some (.nx (τ.set i (some (.own (l++[t]))))):=by
 simp![h0,h,hl]
theorem YK{τ:AB}{i:Nat}{l:List T}(h0:τ[i]?=some (some (.own l)))(hl:Aa l=true):Dj i τ=some (.nx (τ.set i (some (.lst l)))):=by
 simp![h0,AW _ hl]
theorem zgu{V:Va}{A:List T}{c:Int}{x:S}(hx:x.length<=70)(sA:Aa A=true)(hA:BL A none (some 3)=Bb V [BN,B9,B3])(hz:CN (.int (c.fmod 7))=some (.str (tx V [.d 2]))):Na [.lst A,.lst (Bc V),.str (tx V x),.int c]=some (.ok (.own ((rD x).map (B8 V)))):=by
 obtain⟨a0,a1,a2,a3⟩:=MT V
 have lc:=E9 (b:=Cn 2 (BX (AG 0) (BX (AG 1) DD))) (me:=SN) (Hs V) (λp=>B8 V ([BN,B9,B3]++[p.1],p.2)) (λτ=>∃a b,τ=[a,b,some (.lst A)]) (Gp x) [none,none,some (.lst A)] ⟨none,none,rfl⟩ λp hm τ hI=>by
  obtain⟨a,b,rfl⟩:=hI;refine⟨[some (AU V p.1),some (.str (BU p.2)),some (.lst A)],by simp![],?_,_,_,rfl⟩
  unfold SN
  simp![sA,AW _ sA,hA,Ce,GL,B8,AU]
 have sd:=Y6 V (Gp x);have ll:((Gp x).map (Hs V)).length<=100000:=by rw[ya1];exact(show 10<=100000 by decide)
 have em:(rD x).map (B8 V)=(Gp x).map λp=>B8 V ([BN,B9,B3]++[p.1],p.2):=by unfold rD;rw[yax];rfl
 rw[em]
 let M:Nat->AB->Option Rs:=λi=>match i with
  |0=>AM (AA 1) (mC (.int 0))
  |2=>AM (AA 1) (mC (.int 2))
  |3=>AM (AA 1) (mC (.int 3))
  |4=>AA 2
  |_=>m1 CN (m2 Bd (AA 3) (mC (.int 7)))
 let B (y:Option T):AB:=[some (.lst A),some (.lst (Bc V)),some (.str (tx V x)),some (.int c),y];have h0:∀y,AM (AA 1) (mC (.int 0)) (B y)=some (.v (.str (tx V w0)) false):=λy=>by simp![a0,B]
 have h2:∀y,AM (AA 1) (mC (.int 2)) (B y)=some (.v (.str (tx V w2)) false):=λy=>by simp![a2,B]
 have h3:∀y,AM (AA 1) (mC (.int 3)) (B y)=some (.v (.str (tx V w3)) false):=λy=>by simp![a3,B]
 have h5:∀y,m1 CN (m2 Bd (AA 3) (mC (.int 7))) (B y)=some (.v (.str (tx V [.d 2])) false):=λy=>by simp![hz,B]
 have hM:∀y i,M i (B y)=some (.v (.str (tx V (dA x i))) false):=λy i=>match i with
  |0=>h0 y
  |1=>h5 y
  |2=>h2 y
  |3=>h3 y
  |4=>rfl
  |i+5=>h5 y
 have hL:∀i,(dA x i).length<=100:=λi=>match i with
  |0=>(show 1<=100 by decide)
  |1=>(show 1<=100 by decide)
  |2=>(show 1<=100 by decide)
  |3=>(show 1<=100 by decide)
  |4=>yap hx (by decide)
  |i+5=>(show 1<=100 by decide)
 let F:List (List SE×Vd)->List T:=List.map (HI V (dA x))
 have ap:∀(P:List (List SE×Vd)) (q:List SE×Vd),Co q.1=true->q.1.length<=1000->P.length<=1000->Bx 4 (mD M q) (B (some (.own (F P))))=some (.nx (B (some (.own (F (P++[q])))))):=λP q h1 h2 h3=>by
  show _=some (Out.nx (B (some (.own (List.map _ (P++[q]))))));rw[yal];exact app_l (i:=4) rfl (Wh (hM _) hL h1 h2) (by show(List.map _ P).length<_;rw[ya1];omega)
 have ls:∀(P:List (List SE×Vd)) y,(∀p∈P,Co p.1=true/\p.1.length<=1000)->P.length<=1000->AK (Mc M P) (B y)=some (.v (.own (F P)) false):=λP y h1 h2=>by
  have h3:=Wg (hM y) hL P h1;have h4:(P.map (HI V (dA x))).length<=100000:=by rw[ya1];omega
  unfold AK;rw[h3];simp only[h4,KS,yeo]
  rfl
 have Al:F Ht=(Gp x).map (Hs V):=by
  show Ht.map _=(Ht.map _).map _;rw[yax]
  rfl
 have key:M8 [some (.lst A),some (.lst (Bc V)),some (.str (tx V x)),some (.int c),none]=some (.rt (.own ((Gp x).map λp=>B8 V ([BN,B9,B3]++[p.1],p.2)))):=by
  unfold M8;refine sq (VE (t:=.own (F DY)) (τ:=B none) (ls DY none (by decide +kernel) (by decide)) (show 4<5 by decide)) ?_
  refine sq (ap DY ER (by decide +kernel) (by decide) (by decide)) ?_
  refine sq (ap (DY++[ER]) Ef (by decide +kernel) (by decide) (by decide)) ?_
  refine sq (ap (DY++[ER]++[Ef]) FL (by decide +kernel) (by decide) (by decide)) ?_
  refine sq (ap (DY++[ER]++[Ef]++[FL]) Fq (by decide +kernel) (by decide) (by decide)) ?_
  refine sq (ap (DY++[ER]++[Ef]++[FL]++[Fq]) Gr (by decide +kernel) (by decide) (by decide)) ?_
  refine sq (YK (i:=4) rfl (Lg (DY++[ER]++[Ef]++[FL]++[Fq]++[Gr]))) ?_;refine sq (VE (τ:=B (some (.lst (F (DY++[ER]++[Ef]++[FL]++[Fq]++[Gr]))))) (Kp (i:=4) rfl (Lg _) (ls Hu _ (by decide +kernel) (by decide)) (Lg Hu) (show 7+2<=16777216 by decide)) (show 4<5 by decide)) ?_
  have ea:F (DY++[ER]++[Ef]++[FL]++[Fq]++[Gr])++F Hu=F (DY++[ER]++[Ef]++[FL]++[Fq]++[Gr]++Hu):=yal.symm;refine(congrArg (AI _ _) (show _=B (some (.own (F (DY++[ER]++[Ef]++[FL]++[Fq]++[Gr]++Hu)))) by rw[<- ea];rfl)).trans ?_
  refine sq (ap (DY++[ER]++[Ef]++[FL]++[Fq]++[Gr]++Hu) Yk (by decide +kernel) (by decide) (by decide)) ?_
  refine sq (YK (i:=4) rfl (Lg Ht)) ?_;show A2 _ (B (some (.lst (F Ht))))=_;rw[Al];generalize (Gp x).map (Hs V)=Q at *
  simp![sd,AW _ sd,ll,sA,lc,B]
 unfold Na
 simp![sA,AW _ sA,key]
abbrev Om:Stmt:=AV 68
def NM:AB->Option Rs :=
 (AK (AF (mC (.str "room")) (AF (m2 DG (mC (.str "a")) (m2 AH (mC (.int 1)) (AA 0))) AE)))
def NL:AB->Option Rs :=
 (AK (AF (mC (.str "room")) (AF (m2 DG (mC (.str "b")) (m2 AH (mC (.int 1)) (AA 0))) AE)))
def SM:AB->Option Rs :=
 (AO (AD (AR FT (AD (AA 0) AE)) (AD (AA 1) AE)))
def M7:AB->Option Out :=
 (AI (AQ (AR C1 (AD (AA 0) (AD (mC (.int 3)) AE))) (AG 2))
 (AI (AQ (AR Kz (AD (AA 0) (AD (AA 1) AE))) (AG 3))
 (AI (AQ (AR IC (AD (m2 Ee (AA 2) (mC (.int 12))) (AD (AM (AA 1) (mC (.int 0))) AE))) (AG 4))
 (AI (AQ (AK (AF (AO (AD (AA 3) (AD (mC (.str "read")) AE))) (AF (AO (AD (Ax (Ay (AA 3) none (some (mC (.int 3)))) (Au (AA 3) none (some (mC (.int 3))))) (AD (mC (.str "read")) AE))) (AF (AO (AD (Ax (Ay (AA 3) none (some (mC (.int 1)))) (Au (AA 3) none (some (mC (.int 1))))) (AD (mC (.str "bad")) AE))) (AF (AO (AD (Ax (Ay (AA 3) (some (mC (.int 1))) none) (Au (AA 3) (some (mC (.int 1))) none)) (AD (mC (.str "text")) AE))) (AF (AO (AD (AK (AF (AM (AA 3) (mC (.int 1))) (AF (AM (AA 3) (mC (.int 0))) AE))) (AD (mC (.str "text")) AE))) AE)))))) (AG 5))
 (AI (AQ (m2 AH (AA 5) (AK (AF (AO (AD (m2 AH (Ax (Ay (AA 3) none (some (mC (.int 3)))) (Au (AA 3) none (some (mC (.int 3))))) (AK (AF (AM (AA 3) (mC (.int 3))) (AF (AM (AA 3) (mC (.int 2))) AE)))) (AD (mC (.str "text")) AE))) (AF (AO (AD (m2 AH (AA 3) (AK (AF (AK (AF (mC (.str "rooms")) (AF (mC (.str "a")) AE))) AE))) (AD (mC (.str "text")) AE))) (AF (AO (AD (m2 AH (AA 3) (AK (AF (AK (AF (mC (.str "")) AE)) AE))) (AD (mC (.str "text")) AE))) AE))))) (AG 5))
 (AI (AQ (m2 AH (AA 5) (AK (AF (AO (AD (m2 AH (m2 AH (Ax (Ay (AA 3) none (some (mC (.int 2)))) (Au (AA 3) none (some (mC (.int 2))))) (AK (AF (AK (AF (mC (.str "room")) AE)) AE))) (Ax (Ay (AA 3) (some (mC (.int 3))) none) (Au (AA 3) (some (mC (.int 3))) none))) (AD (mC (.str "text")) AE))) (AF (AO (AD (m2 AH (AK (AF (AK (AF (mC (.str "Watches")) AE)) AE)) (Ax (Ay (AA 3) (some (mC (.int 1))) none) (Au (AA 3) (some (mC (.int 1))) none))) (AD (mC (.str "text")) AE))) AE)))) (AG 5))
 (AI (AQ (m2 AH (AA 5) (AK (AF (AO (AD (m2 AH (AK (AF (AK (AF (mC (.str "watches")) (AF (mC (.str "")) AE))) AE)) (Ax (Ay (AA 3) (some (mC (.int 1))) (some (mC (.int 3)))) (Au (AA 3) (some (mC (.int 1))) (some (mC (.int 3)))))) (AD (mC (.str "bad")) AE))) (AF (AO (AD (AK (AF (AM (AA 3) (mC (.int 0))) (AF (AK (AF (mC (.str "room")) (AF (mC (.str "")) AE))) AE))) (AD (mC (.str "bad")) AE))) AE)))) (AG 5))
 (AI (AQ (m2 AH (AA 5) (AK (AF (AO (AD (m2 AH (Ax (Ay (AA 3) none (some (mC (.int 1)))) (Au (AA 3) none (some (mC (.int 1))))) (AK (AF (AK (AF (mC (.str "room")) (AF (AM (AA 1) (mC (.int 2))) (AF (m2 AH (AM (AA 1) (mC (.int 0))) (mC (.str ">=1"))) AE)))) AE))) (AD (mC (.str "bad")) AE))) (AF (AO (AD (m2 AH (AA 3) (AK (AF (AK (AF (mC (.str "watches")) AE)) AE))) (AD (mC (.str "text")) AE))) AE)))) (AG 5))
 (AI (AQ (m2 AH (AA 5) (AK (AF (AO (AD (m2 AH (m2 AH (AK (AF (Ax (Ay (AM (AA 3) (mC (.int 0))) none (some (mC (.int 2)))) (Au (AM (AA 3) (mC (.int 0))) none (some (mC (.int 2))))) AE)) (Ax (Ay (AA 3) (some (mC (.int 1))) (some (mC (.int 2)))) (Au (AA 3) (some (mC (.int 1))) (some (mC (.int 2)))))) (Ax (Ay (AA 3) (some (mC (.int 1))) (some (mC (.int 2)))) (Au (AA 3) (some (mC (.int 1))) (some (mC (.int 2)))))) (AD (mC (.str "bad")) AE))) AE))) (AG 5))
 (AI (AQ (m2 AH (AA 5) (AK (AF (AO (AD (m2 AH (m2 AH (Ax (Ay (AA 3) none (some (mC (.int 1)))) (Au (AA 3) none (some (mC (.int 1))))) (AK (AF (AK (AF (mC (.str "room")) (AF (AM (AA 1) (mC (.int 2))) (AF (AA 4) AE)))) AE))) (Ax (Ay (AA 3) (some (mC (.int 2))) (some (mC (.int 3)))) (Au (AA 3) (some (mC (.int 2))) (some (mC (.int 3)))))) (AD (mC (.str "text")) AE))) AE))) (AG 5))
 (AI (AQ (m2 AH (AA 5) (AR Na (AD (AA 3) (AD (AA 1) (AD (AA 4) (AD (AA 2) AE)))))) (AG 5))
 (AI (AQ (m2 AH (BO 1 [] (DX (AD (mC (.int 59)) AE)) (AG 0) (mC (.bl true)) NM) (BO 1 [] (DX (AD (mC (.int 6)) AE)) (AG 0) (mC (.bl true)) NL)) (AG 6))
 (AI (AQ (m2 AH (AA 5) (AK (AF (AO (AD (m2 AH (AK (AF (AK (AF (mC (.str "watches")) AE)) AE)) (AA 6)) (AD (mC (.str "many")) AE))) (AF (AO (AD (m2 AH (AK (AF (AK (AF (mC (.str "watches")) AE)) AE)) (Ax (Ay (AA 6) (some (mC (.int 1))) none) (Au (AA 6) (some (mC (.int 1))) none))) (AD (mC (.str "read")) AE))) AE)))) (AG 5))
 (AI (AQ (m2 AH (AA 5) (AK (AF (AO (AD (m2 AH (AK (AF (AK (AF (mC (.str "watches")) (AF (mC (.str "x")) (AF (mC (.str "x")) AE)))) AE)) (AA 6)) (AD (mC (.str "bad")) AE))) AE))) (AG 5))
 (AI (AQ (BO 2 [] (B7 (AA 5)) (Cn 2 (BX (AG 0) (BX (AG 1) DD))) (mC (.bl true)) SM) (AG 7))
 (AI (AQ (m2 AH (AA 7) (AK (AF (AO (AD (mC .non) (AD (mC (.str "text")) AE))) (AF (AO (AD (mC (.int 5)) (AD (mC (.str "text")) AE))) (AF (AO (AD (AK (AF (AR FT (AD (AA 3) AE)) AE)) (AD (mC (.str "text")) AE))) AE))))) (AG 7))
 (AI (AQ (m2 AH (AA 7) (AK (AF (AO (AD (mC (.str "")) (AD (mC (.str "text")) AE))) (AF (AO (AD (m2 AH (AR FT (AD (AA 3) AE)) (mC (.str "\n"))) (AD (mC (.str "text")) AE))) AE)))) (AG 7))
 (A2 (m2 AH (AA 7) (AK (AF (AO (AD (m2 AH (mC (.str " ")) (AR FT (AD (AA 3) AE))) (AD (mC (.str "text")) AE))) (AF (AO (AD (m2 AH (AR FT (AD (Ax (Ay (AA 3) none (some (mC (.int 3)))) (Au (AA 3) none (some (mC (.int 3))))) AE)) (mC (.str " "))) (AD (mC (.str "text")) AE))) AE))))))))))))))))))))))
def N9:List T->Option Ru:=An 2 8 M7
abbrev RP:Fn:=⟨3,["_law_script","_law_names_here"],N9⟩
abbrev YB:Gm:=⟨["_law_script","_law_names_here","_law_cell","_law_rows_here","_law_wrong","_law_some","_law_many","_law_found"],(AL Om).names,[],2,[("_law_cell_at",Hl),("_law_rows",RN),("_law_no_look",Mv),("_law_doors",RQ),("_law_text",RK)],["range"],[],[],[],false,[],[],[],BW⟩
theorem zbp:FnScope YB.N RP.ps (AL Om):=Ap (by decide +kernel)
theorem zc1:Aj 200 YB (Ah Om)=some M7:=by ext
theorem five(a b c d e:T):(BL [a,b,c,d,e] none (some 3)=[a,b,c]/\BL [a,b,c,d,e] none (some 2)=[a,b]/\BL [a,b,c,d,e] none (some 1)=[a])/\(BL [a,b,c,d,e] (some 1) none=[b,c,d,e]/\BL [a,b,c,d,e] (some 3) none=[d,e])/\(BL [a,b,c,d,e] (some 1) (some 3)=[b,c]/\BL [a,b,c,d,e] (some 1) (some 2)=[b]/\BL [a,b,c,d,e] (some 2) (some 3)=[c])
  /\ Af [a,b,c,d,e] 0=some a/\Af [a,b,c,d,e] 1=some b/\Af [a,b,c,d,e] 2=some c/\Af [a,b,c,d,e] 3=some d:=⟨⟨rfl,rfl,rfl⟩,⟨rfl,rfl⟩,⟨rfl,rfl,rfl⟩,rfl,rfl,rfl,rfl⟩
theorem zj7(V:Va):∃t u,BO 1 [] (DX (AD (mC (.int 59)) AE)) (AG 0) (mC (.bl true)) NM=(λτ=>some (.v (.own t) false))/\BO 1 [] (DX (AD (mC (.int 6)) AE)) (AG 0) (mC (.bl true)) NL=(λτ=>some (.v (.own u) false))/\t.length=59/\u.length=6/\Aw t++Aw u=Bb V Cz:=by
 have mul:∀{n:Nat} {s:String} {c:Nat},Str.ofString s=mk [c]->Txt.mul (tx V (L s)) (1+(n:Int))=tx V (List.replicate (1+n) (.c c)):=λ{n s c} h=>by
  rw[show(1+(n:Int))=((1+n:Nat):Int) by omega]
  exact W5 V c (by rw[<- lit];exact h) _
 have la:(tx V (L "a")).length=1/\(tx V (L "b")).length=1:=by rw[<- lit,<- lit];decide +kernel
 have mc:∀{n:Nat} {s:String},n<100->(tx V (L s)).length=1->(0:Int)<=1+(n:Int)/\1+(n:Int)<=1000000/\(tx V (L s)).length<=16:=λ{n s} h1 h2=>⟨by omega,by omega,by rw[h2];decide⟩
 have l1:=Wv (n:=59) (me:=NM) (x:=none) (cs:=[]) (g:=λi=>.int (i:Int)) (f:=λi=>.own [.str (tx V (L "room")),.str (tx V (List.replicate (1+i) (.c 97)))]) λi hi=>by
  have m1:=mul (n:=i) (s:="a") (c:=97) (Tx.cs_ext (by decide +kernel))
  have m2':=mc (n:=i) (by omega) la.1
  unfold NM
  simp![lit V,m1,m2']
 have l2:=Wv (n:=6) (me:=NL) (x:=none) (cs:=[]) (g:=λi=>.int (i:Int)) (f:=λi=>.own [.str (tx V (L "room")),.str (tx V (List.replicate (1+i) (.c 98)))]) λi hi=>by
  have m1:=mul (n:=i) (s:="b") (c:=98) (Tx.cs_ext (by decide +kernel))
  have m2':=mc (n:=i) (by omega) la.2
  unfold NL
  simp![lit V,m1,m2']
 have o1:GY (59:Int)=true:=@decide_eq_true _ (Classical.propDecidable _) ⟨by omega,by omega⟩
 have o2:GY (6:Int)=true:=@decide_eq_true _ (Classical.propDecidable _) ⟨by omega,by omega⟩
 have e1:E2 0 (59:Int).toNat=mT 59 λi=>.int (i:Int):=Jt
 have e2:E2 0 (6:Int).toNat=mT 6 λi=>.int (i:Int):=Jt
 refine⟨mT 59 λi=>.own [.str (tx V (L "room")),.str (tx V (List.replicate (1+i) (.c 97)))],mT 6 λi=>.own [.str (tx V (L "room")),.str (tx V (List.replicate (1+i) (.c 98)))],funext λτ=>?_,funext λτ=>?_,by rw[FC],by rw[FC],?_⟩
 .simp![o1,e1,l1]
 .simp![o2,e2,l2]
 .rw[Dh,Dh];unfold Cz mT Bb;rw[yal,yax,yax,yax,yax]
  rfl
def G8(V:Va)(k:Nat):List (T×Vd):=[(.non,.text),(.int 5,.text),(.lst [.str (tx V (BV (Am k)))],.text)]
def Hb(V:Va)(k:Nat):List (T×Vd):=[(.str (tx V (L "")),.text),(.str (tx V (BV (Am k)++L "\n")),.text)]
def JA(V:Va)(k:Nat):List (T×Vd):=[(.str (tx V (L " "++BV (Am k))),.text),(.str (tx V (BV ((Am k).take 3)++L " ")),.text)]
def Hf(V:Va)(k:Nat)(x:S):List (T×Vd):=(Cg k x).map (λp=>(.str (tx V (BV p.1)),p.2))++G8 V k++Hb V k++JA V k
theorem zgg{V:Va}{ns:List Int}{x:S}{k:Nat}(hx:x.length<=70)(hr:Kz [BA ns,.lst (Bc V)]=some (.ok (.own (Bb V (Am k)))))(hno:IC [.int ((ns.getD 3 0).fdiv 12),.str (tx V w0)]=some (.ok (.str (tx V x))))(hz:CN (.int ((ns.getD 3 0).fmod 7))=some (.str (tx V [.d 2])))(ht:∀p∈Cg k x,Eo p.1=true)(h5:Eo (Am k)=true)(h3:Eo ((Am k).take 3)=true)(hl:(BV (Am k)).length<=1000/\(BV ((Am k).take 3)).length<=1000) :
  N9 [BA ns,.lst (Bc V)]=some (.ok (.own ((Hf V k x).map A5))):=by
 obtain⟨ss,sc⟩:=Jj ns;have c3:=Hv ns (k:=3) (by decide)
 rw[show(3:Int).toNat=3 from rfl]at c3;have s12:EB 12=true:=HP (by decide) (by decide)
 obtain⟨a0,a1,a2,a3⟩:=MT V;have t5:=Nu V h5;have t3:=Nu V h3;have e5:Bb V (Am k)=[AU V BN,AU V B9,AU V B3,AU V (Cf k),AU V EZ]:=rfl;have e3:Bb V ((Am k).take 3)=[AU V BN,AU V B9,AU V B3]:=rfl;rw[e5]at hr t5;rw[e3]at t3;obtain⟨⟨f1,f2,f3⟩,⟨f4,f5⟩,⟨f6,f7,f8⟩,f9,f10,f11,f12⟩:=five (AU V BN) (AU V B9) (AU V B3) (AU V (Cf k)) (AU V EZ);have dd:=zgu (V:=V) (x:=x) hx (A:=[AU V BN,AU V B9,AU V B3,AU V (Cf k),AU V EZ]) (GR V (Am k)) f1 hz;obtain⟨mt,mu,my1,my2,my3,my4,my5⟩:=zj7 V;have c02:BL (sT V BN) none (some 2)=sT V (BN.take 2):=rfl;let B (y5 y6 y7:Option T):AB:=[some (BA ns),some (.lst (Bc V)),some (.int (ns.getD 3 0)),some (.lst [AU V BN,AU V B9,AU V B3,AU V (Cf k),AU V EZ]),some (.str (tx V x)),y5,y6,y7]
 have st:∀(P C:List (List (List S)×Vd)) {g:AB->Option Rs} {y6 y7:Option T},P.length+C.length<=1000->g (B (some (.lst (P.map (B8 V)))) y6 y7)=some (.v (.own (C.map (B8 V))) false)->AQ (m2 AH (AA 5) g) (AG 5) (B (some (.lst (P.map (B8 V)))) y6 y7)=some (.nx (B (some (.lst ((P++C).map (B8 V)))) y6 y7)):=λP C {g y6 y7} hn h=>by
  rw[yal];exact A4 (i:=5) rfl (Pc V P) h (Pc V C) (by rw[ya1,ya1];unfold AY;omega)
 have sR:=GR V (Am k);rw[e5]at sR;have sR':=AW _ sR
 have key:M7 [some (BA ns),some (.lst (Bc V)),none,none,none,none,none,none]=some (.rt (.own ((Hf V k x).map A5))):=by
  unfold M7;refine sq (τ':=[some (BA ns),some (.lst (Bc V)),some (.int (ns.getD 3 0)),none,none,none,none,none]) (by simp![ss,sc,c3]) ?_
  refine sq (τ':=[some (BA ns),some (.lst (Bc V)),some (.int (ns.getD 3 0)),some (.lst [AU V BN,AU V B9,AU V B3,AU V (Cf k),AU V EZ]),none,none,none,none]) (by
   generalize [AU V BN,AU V B9,AU V B3,AU V (Cf k),AU V EZ]=A at *
   simp![ss,sc,hr,sR']) ?_
  refine sq (τ':=B none none none) (by simp![a0,s12,hno,B]) ?_
  refine sq (τ':=B (some (.lst ((Fe k).map (B8 V)))) none none) (by simp_arith! [lit V,Ce,GL,f1,f3,f4,f9,f10,Fe,Am,B8,AU,BU,ybk,ybv,yaz,ybc,B]) ?_
  refine sq (st (Fe k) (HU k) (show 5+3<=1000 by decide) (by simp_arith! [lit V,Ce,GL,f1,f11,f12,HU,Am,B8,AU,BU,ybk,ybv,yaz,ybc,B])) ?_
  refine sq (st (Fe k++HU k) (Im k) (show 8+2<=1000 by decide) (by simp_arith! [lit V,Ce,GL,f2,f4,f5,Im,Am,B8,AU,BU,ybk,ybv,yaz,ybc,B])) ?_
  refine sq (st (Fe k++HU k++Im k) (Jx k) (show 10+2<=1000 by decide) (by simp_arith! [lit V,Ce,GL,f6,f9,Jx,Am,B8,AU,BU,ybk,ybv,yaz,ybc,B])) ?_
  refine sq (st (Fe k++HU k++Im k++Jx k) (MI k) (show 12+2<=1000 by decide) (by simp_arith! [lit V,FW V,En V,a0,a2,Ce,GL,f3,MI,Am,B8,AU,BU,ybk,ybv,yaz,ybc,B])) ?_
  refine sq (st (Fe k++HU k++Im k++Jx k++MI k) (Pg k) (show 14+1<=1000 by decide) (by simp_arith! [lit V,Ce,GL,f7,f9,c02,Pg,Am,B8,AU,BU,ybk,ybv,yaz,ybc,B])) ?_
  refine sq (st (rA k) (rX x) (show 15+1<=1000 by decide) (by simp_arith! [lit V,a2,Ce,GL,f3,f8,rX,Am,B8,AU,BU,ybk,ybv,yaz,ybc,B])) ?_
  refine sq (st (rA k++rX x) (rD x) (show 16+10<=1000 by decide) (by
   unfold B;generalize [AU V BN,AU V B9,AU V B3,AU V (Cf k),AU V EZ]=A at *
   simp![sR,sR',dd])) ?_
  refine sq (τ':=B (some (.lst ((rA k++rX x++rD x).map (B8 V)))) (some (.lst (Bb V Cz))) none) (by
   rw[my1,my2];have ll:mt.length+mu.length<=100000:=by omega
   have sh:Aw (Aw mt++Aw mu)=Bb V Cz:=by rw[my5,Ly]
   have l1:(Aw mt).length+(Aw mu).length<=100000:=by rw[Dh,Dh,ya1,ya1];exact ll
   simp![l1,sh,B]) ?_
  have sM:=GR V Cz;have shM:=Ly V Cz;have lM:(Bb V Cz).length=65:=by rw[ya1];rfl
  have cM:BL (Bb V Cz) (some 1) none=Bb V (Cz.drop 1):=by rw[show(some (1:Int))=some ((1:Nat):Int) from rfl,zgw,<- ye2]
  have sN:=Ly V (Cz.drop 1);have lN:(Bb V (Cz.drop 1)).length=64:=by rw[ya1];rfl
  refine sq (st (rA k++rX x++rD x) Ij (show 26+2<=1000 by decide) (by simp_arith! [lit V,sM,shM,lM,cM,sN,lN,Ij,B8,AU,BU,B])) ?_
  refine sq (st (rA k++rX x++rD x++Ij) Jv (show 28+1<=1000 by decide) (by simp_arith! [lit V,sM,shM,lM,Jv,B8,AU,BU,B])) ?_
  have lc:=E9 (b:=Cn 2 (BX (AG 0) (BX (AG 1) DD))) (me:=SM) (B8 V) (λp=>A5 (.str (tx V (BV p.1)),p.2)) (λτ=>∃a b,τ=[a,b]) (Cg k x) [none,none] ⟨none,none,rfl⟩ λp hm τ hI=>by
   obtain⟨a,b,rfl⟩:=hI;refine⟨[some (.lst (Bb V p.1)),some (.str (BU p.2))],by simp![],?_,_,_,rfl⟩
   have e:=Nu V (ht p hm);unfold SM
   simp![GR,Ly,e,A5]
  have eQ:((Cg k x).map λp=>A5 (.str (tx V (BV p.1)),p.2))=((Cg k x).map λp=>((.str (tx V (BV p.1)):T),p.2)).map A5:=by rw[yax];rfl
  rw[eQ]at lc;have sI:=Pc V (Cg k x);have lI:((Cg k x).map (B8 V)).length<=100000:=by rw[ya1];exact(show 29<=100000 by decide)
  have sQ:=JF (l:=(Cg k x).map λp=>((.str (tx V (BV p.1)):T),p.2)) λq hq=>by
   obtain⟨p,_,rfl⟩:=yai.mp hq
   rfl
  have lQ:((Cg k x).map λp=>((.str (tx V (BV p.1)):T),p.2)).length=29:=by rw[ya1];rfl
  have mA:Hf V k x=(Cg k x).map (λp=>((.str (tx V (BV p.1)):T),p.2))++G8 V k++Hb V k++JA V k:=rfl
  rw[mA];generalize (Cg k x).map (λp=>((.str (tx V (BV p.1)):T),p.2))=Q at *
  have hR:(rA k++rX x++rD x++Ij++Jv)=Cg k x:=rfl;rw[hR]
  refine sq (τ':=B (some (.lst ((Cg k x).map (B8 V)))) (some (.lst (Bb V Cz))) (some (.lst (Q.map A5)))) (by
   generalize (Cg k x).map (B8 V)=D at *
   simp![sI,AW _ sI,lI,lc,AW _ sQ,B]) ?_
  have st7:∀{y5 y6:Option T} (P C:List (T×Vd)) {g:AB->Option Rs},Aa (P.map A5)=true->Aa (C.map A5)=true->P.length+C.length<=1000->g (B y5 y6 (some (.lst (P.map A5))))=some (.v (.own (C.map A5)) false)->AQ (m2 AH (AA 7) g) (AG 7) (B y5 y6 (some (.lst (P.map A5))))=some (.nx (B y5 y6 (some (.lst ((P++C).map A5))))):=λ{y5 y6} P C {g} h1 h2 hn h=>by
   rw[yal];exact A4 (i:=7) rfl h1 h h2 (by rw[ya1,ya1];unfold AY;omega)
  generalize (Cg k x).map (B8 V)=D at *;generalize Bb V Cz=M at *;have za:((tx V (BV (Am k))).length+(tx V (L "\n")).length<=AY)=True:=En V (by rw[yag,show(L "\n").length=1 by decide +kernel];omega)
  have zb:((tx V (L " ")).length+(tx V (BV (Am k))).length<=AY)=True:=En V (by rw[yag,show(L " ").length=1 by decide +kernel];omega)
  have zc:((tx V (BV ((Am k).take 3))).length+(tx V (L " ")).length<=AY)=True:=En V (by rw[yag,show(L " ").length=1 by decide +kernel];omega)
  have shA:∀{P C:List (T×Vd)},Aa (P.map A5)=true->Aa (C.map A5)=true->Aa ((P++C).map A5)=true:=λ{P C} h1 h2=>by
   rw[Cd]at *;rw[yal,List.all_append,h1,h2]
   rfl
  refine sq (st7 Q (G8 V k) sQ rfl (by rw[lQ];exact(show 29+3<=1000 by decide)) (by
   unfold B;generalize [AU V BN,AU V B9,AU V B3,AU V (Cf k),AU V EZ]=A at *
   simp![t5,sR,sR',A5,BU,G8])) ?_
  refine sq (st7 (Q++G8 V k) (Hb V k) (shA sQ rfl) rfl (by rw[yag,lQ];exact(show 29+3+2<=1000 by decide)) (by
   unfold B;generalize [AU V BN,AU V B9,AU V B3,AU V (Cf k),AU V EZ]=A at *
   simp![lit V,FW V,za,t5,sR,sR',A5,BU,Hb])) ?_
  have last:=Kp (i:=7) (τ:=B (some (.lst D)) (some (.lst M)) (some (.lst ((Q++G8 V k++Hb V k).map A5)))) (l:=(Q++G8 V k++Hb V k).map A5) (m:=(JA V k).map A5)
   (g:=AK (AF (AO (AD (m2 AH (mC (.str " ")) (AR FT (AD (AA 3) AE))) (AD (mC (.str "text")) AE))) (AF (AO (AD (m2 AH (AR FT (AD (Ax (Ay (AA 3) none (some (mC (.int 3)))) (Au (AA 3) none (some (mC (.int 3))))) AE)) (mC (.str " "))) (AD (mC (.str "text")) AE))) AE))) rfl (shA (shA sQ rfl) rfl) (by
   unfold B;have sT3:Aa [AU V BN,AU V B9,AU V B3]=true:=GR V [BN,B9,B3];generalize [AU V BN,AU V B9,AU V B3,AU V (Cf k),AU V EZ]=A at *;generalize [AU V BN,AU V B9,AU V B3]=A3 at *
   simp![lit V,FW V,zb,zc,t5,t3,f1,sT3,AW _ sT3,sR,sR',A5,BU,JA]) rfl (by rw[ya1,ya1,yag,yag,lQ];exact(show 29+3+2+2<=16777216 by decide))
  unfold A2;rw[last,yal (l₂:=JA V k)]
 unfold N9
 simp![ss,sc,key]
abbrev Jl:Stmt:=AV 72
def Pw:AB->Option Out :=
 (AI (AQ (AR LA (AD (AR C1 (AD (AA 0) (AD (mC (.int 0)) AE))) (AD (mC (.int 4)) AE))) (AG 1))
 (AI (Ab (BF (AR J5 (AD (AR N9 (AD (AA 0) (AD (AA 1) AE))) (AD (mC (.int 0)) (AD (AR C1 (AD (AA 0) (AD (mC (.int 7)) AE))) (AD (mC (.int 8)) AE)))))) (A2 (mC (.bl false))) Aq)
 (AI (Ab (BF (AR J5 (AD (AR N8 (AD (AA 0) AE)) (AD (mC (.int 1)) (AD (AR C1 (AD (AA 0) (AD (mC (.int 8)) AE))) (AD (mC (.int 8)) AE)))))) (A2 (mC (.bl false))) Aq)
 (A2 (AR J5 (AD (AR Nb (AD (AA 0) (AD (AA 1) AE))) (AD (mC (.int 2)) (AD (AR C1 (AD (AA 0) (AD (mC (.int 9)) AE))) (AD (mC (.int 8)) AE)))))))))
def NY:List T->Option Ru:=An 1 2 Pw
abbrev zn1:Fn:=⟨11,["_law_script"],NY⟩
abbrev Qg:Gm:=⟨["_law_script","_law_names_here"],(AL Jl).names,[],10,[("_law_names",RO),("_law_cell_at",Hl),("_law_all_so",RS),("_law_machines",RP),("_law_runs",RM),("_law_claims",RR)],[],[],[],[],false,[],[],[],BW⟩
theorem zke:FnScope Qg.N zn1.ps (AL Jl):=Ap (by decide +kernel)
theorem zne:Aj 200 Qg (Ah Jl)=some Pw:=by ext
theorem ziz{t:T}(h:LG t):t.sh=true:=by
 rcases h with rfl|⟨i,rfl⟩|⟨l,rfl⟩
 .rfl
 .rfl
 .show((!false) && Aa (l.map T.str))=true;rw[A7]
  rfl
theorem zm3{t:T}(h:LG t):CZ [t]=some (.exc "NoText")/\DE [t]=some (.exc "NoText")/\EV [t]=some (.exc "NoText"):=by
 have e:=ct_no h;have s:=ziz h;refine⟨?_,?_,?_⟩
 .unfold CZ Fj
  simp![s,Dy _ s,e]
 .unfold DE Iy
  simp![s,Dy _ s,e]
 .unfold EV KN
  simp![s,Dy _ s,e]
theorem KP(V:Va){p:S×Vd}(h:Me p=true):Bt p.2 (CZ [.str (tx V p.1)]):=by
 unfold Me at h;rw[ya2,ya2,ya2,yf1,yf1]at h;obtain⟨h1,h2,h3,h4⟩:=h;have e:=GN V (c:=10) (by decide) (by decide) p.1
 have k:=zfn (Mw V h2) (by rw[e,ya1];exact h3) λq hq=>by
  rw[e]at hq;obtain⟨r,hr,rfl⟩:=yai.mp hq;rw[GN V (by decide) (by decide),ya1]
  exact yf5 (yab.mp h4 r hr)
 rw[zfc V h1]at k;exact k
theorem U3(V:Va){p:S×Bool}(h:Pf p=true):Bt (Dw p.2) (DE [.str (tx V p.1)]):=by
 unfold Pf at h;rw[ya2,ya2,ya2,yf1,yf1]at h;obtain⟨h1,h2,h3,h4⟩:=h;obtain⟨s,b⟩:=p
 by_cases h0:s=[]
 .subst h0
  have hb:b=true:=by
   have h1:some true=some b:=h1;exact(ya9 h1).symm
  rw[hb];exact zkt
 .obtain⟨k1,k2⟩:=zhr V h1 h0
  have k:=zhx (Mw V h2) (λz=>h0 (Hn V z)) k1 (λq hq=>by
   obtain⟨r,hr,rfl⟩:=yai.mp hq;exact Mw V (yab.mp h4 r hr)) (by rw[ya1];simp only at h3;omega)
  rw[k2]at k;exact k
theorem ZD(V:Va){p:S×Bool}(h:SQ p=true):Bt (Dw p.2) (EV [.str (tx V p.1)]):=by
 unfold SQ at h;rw[ya2,ya2,yf1,yf1]at h;obtain⟨h1,h2,h3⟩:=h;have k:=zku (Mw V h2) (by rw[GN V (by decide) (by decide),ya1];exact h3)
 rw[zdt V h1]at k;exact k
noncomputable def vf(ns:List Int):Nat->Nat
 |0=>((ns.getD 1 0).fmod (10 ^ 50)).toNat
 |1=>((((ns.getD 3 0).fdiv 12).fdiv 24).fmod (10 ^ 30)).toNat
 |2=>((ns.getD 3 0).fmod 7).toNat
 |3=>(((ns.getD 4 0).fdiv 20).fmod (10 ^ 50)).toNat
 |4=>(((ns.getD 6 0).fdiv 20).fmod (10 ^ 50)).toNat
 |5=>((((ns.getD 6 0).fdiv 3).fdiv 24).fmod (10 ^ 30)).toNat
 |_=>(2+(ns.getD 5 0).fmod 9).toNat
theorem FH(a:Int){b:Int}(h:0<b)(h2:b<=10 ^ 59):0<=a.fmod b/\a.fmod b<10 ^ 60/\(a.fmod b).toNat<10 ^ 60:=by
 have h0:=yb7 a h;have h1:a.fmod b<10 ^ 60:=ycl (ycl (ybo a h) h2) (by decide +kernel)
 refine⟨h0,h1,?_⟩;have h3:(((a.fmod b).toNat:Nat):Int)<((10 ^ 60:Nat):Int):=by rw[ydy h0];exact h1
 exact Int.ofNat_lt.mp h3
theorem f9(ns:List Int):2<=2+(ns.getD 5 0).fmod 9/\2+(ns.getD 5 0).fmod 9<11:=by
 have h0:=yb7 (ns.getD 5 0) (show(0:Int)<9 by decide)
 have h1:=ybo (ns.getD 5 0) (show(0:Int)<9 by decide)
 omega
theorem vf_lt(ns:List Int)(k:Nat):vf ns k<10 ^ 60:=by
 unfold vf;split
 .exact(FH _ (by decide +kernel) (by decide +kernel)).2.2
 .exact(FH _ (by decide +kernel) (by decide +kernel)).2.2
 .exact(FH _ (by decide +kernel) (by decide +kernel)).2.2
 .exact(FH _ (by decide +kernel) (by decide +kernel)).2.2
 .exact(FH _ (by decide +kernel) (by decide +kernel)).2.2
 .exact(FH _ (by decide +kernel) (by decide +kernel)).2.2
 .have:=f9 ns;exact yam (show _<11 by omega) (by decide +kernel)
theorem nm_nb(c:Int)(k:Nat):EJ (Tx.cs (CW c k))=true:=by
 unfold EJ;rw[ya2];exact⟨yer ⟨zm4 c k,zj4 c k⟩,yab.mpr λd hd=>yer (zm5 c k d hd)⟩
def vv(ns:List Int):Va where
 n:=λk=>Tx.cs (CW (ns.getD 0 0) k)
 u:=λk=>Tx.cs (Tx.dg (vf ns k))
 hn:=λk=>nm_nb _ k
 hi:=λj k hj hk e=>zgb (c:=ns.getD 0 0) (by omega) (by omega) (Tx.cs_ext e)
 hu:=λk=>Tx.dg_num (vf_lt ns k)
 h6:=by
  rw[Tx.dg_val];have:=f9 ns;show 2<=(2+(ns.getD 5 0).fmod 9).toNat
  omega
theorem MR(ns:List Int)(k:Nat):CW (ns.getD 0 0) k=tx (vv ns) [.w k]:=Tx.cs_ext (by
 show _=ev (vv ns) [.w k];rw[BQ];show _=Tx.cs (CW (ns.getD 0 0) k)++[];rw[yb4])
theorem law_true(ns:List Int)(h:ns.length<=63):NY [BA ns]=some (.ok (.bl true)):=by
 obtain⟨ss,sc⟩:=Jj ns
 have cell:∀k:Nat,C1 [BA ns,.int (k:Int)]=some (.ok (.int (ns.getD k 0))):=λk=>by
  have:=Hv ns (k:=(k:Int)) (yc8 k);rw[ybi]at this;exact this
 have c0:C1 [BA ns,.int 0]=some (.ok (.int (ns.getD 0 0))):=cell 0;have c7:C1 [BA ns,.int 7]=some (.ok (.int (ns.getD 7 0))):=cell 7;have c8:C1 [BA ns,.int 8]=some (.ok (.int (ns.getD 8 0))):=cell 8;have c9:C1 [BA ns,.int 9]=some (.ok (.int (ns.getD 9 0))):=cell 9;generalize hV:vv ns=V;have hu:∀k,V.u k=Tx.cs (Tx.dg (vf ns k)):=λk=>by rw[<- hV];rfl
 have nm:LA [.int (ns.getD 0 0),.int 4]=some (.ok (.own (Bc V))):=by
  have e:=zgd (ns.getD 0 0) (m:=4) (by decide)
  have e2:(mT 4 λk=>T.str (CW (ns.getD 0 0) k))=Bc V:=by
   show [T.str (CW (ns.getD 0 0) 0),.str (CW (ns.getD 0 0) 1),.str (CW (ns.getD 0 0) 2),.str (CW (ns.getD 0 0) 3)]=_;rw[MR,MR,MR,MR,hV]
   rfl
  rw[e2]at e;exact e
 have q0:=FH (ns.getD 1 0) (b:=10 ^ 50) (by decide +kernel) (by decide +kernel)
 have q2:=FH (ns.getD 3 0) (b:=7) (by decide +kernel) (by decide +kernel)
 have q3:=FH ((ns.getD 4 0).fdiv 20) (b:=10 ^ 50) (by decide +kernel) (by decide +kernel)
 have q4:=FH ((ns.getD 6 0).fdiv 20) (b:=10 ^ 50) (by decide +kernel) (by decide +kernel)
 have q6:=f9 ns;have s0:=IW (V:=V) (k:=0) q0.1 q0.2.1 (hu 0);have s2:=IW (V:=V) (k:=2) q2.1 q2.2.1 (hu 2);have s3:=IW (V:=V) (k:=3) q3.1 q3.2.1 (hu 3);have s4:=IW (V:=V) (k:=4) q4.1 q4.2.1 (hu 4);have s6:=IW (V:=V) (k:=6) (i:=2+(ns.getD 5 0).fmod 9) (by omega) (Int.lt_trans q6.2 (by decide +kernel)) (hu 6)
 have n1:=WM (V:=V) (c:=(ns.getD 3 0).fdiv 12) (j:=1) (hu 1);have n5:=WM (V:=V) (c:=(ns.getD 6 0).fdiv 3) (j:=5) (hu 5)
 have lt:∀a:Int,(a.fmod 24).toNat<24:=λa=>by
  have h0:=yb7 a (show(0:Int)<24 by decide)
  have h1:=ybo a (show(0:Int)<24 by decide)
  omega
 have i1:=lt ((ns.getD 3 0).fdiv 12);have i5:=lt ((ns.getD 6 0).fdiv 3);generalize ((((ns.getD 3 0).fdiv 12).fmod 24).toNat)=j1 at n1 i1;generalize ((((ns.getD 6 0).fdiv 3).fmod 24).toNat)=j5 at n5 i5
 have k5:((ns.getD 2 0).fmod 5).toNat<5:=by
  have h0:=yb7 (ns.getD 2 0) (show(0:Int)<5 by decide)
  have h1:=ybo (ns.getD 2 0) (show(0:Int)<5 by decide)
  omega
 have rr:=zhy (V:=V) s0;generalize ((ns.getD 2 0).fmod 5).toNat=k at rr k5;have rA':=yab.mp (rA_ok k k5);obtain⟨mE',mE2,mE3⟩:=mE_ok k k5;have mE':=yab.mp mE';obtain⟨rX',rD'⟩:=rX_ok j1 i1;have rX':=yab.mp rX';have rD':=yab.mp rD';have rM1':=yab.mp Ub.1;have rM2':=yab.mp Ub.2;have rI':=yab.mp rI_ok;have cI':=yab.mp (cI_ok j5 i5);have l5:=WN j5 i5 5 (.inr rfl);have l1:=WN j1 i1 1 (.inl rfl);generalize (E4 [.d 1]).getD j1 []=x1 at *;generalize (E4 [.d 5]).getD j5 []=x5 at *
 have all:∀p∈Cg k x1,IQ p=true:=λp hp=>by
  rcases yat.mp hp with hp|hp
  .rcases yat.mp hp with hp|hp
   .rcases yat.mp hp with hp|hp
    .rcases yat.mp hp with hp|hp
     .exact rA' p hp
     .exact rX' p hp
    .exact rD' p hp
   .exact rM1' p hp
  .exact rM2' p hp
 have ma:=zgg (V:=V) l1 rr n1 s2 (λp hp=>(ya2 _ _▸all p hp:Eo p.1=true/\_).1) mE2.1 mE2.2 mE3
 have ra:=zhw (V:=V) s3 s6;have ca:=znd (V:=V) l5 s4 n5;have nt:∀{t:T},LG t->Bt .text (CZ [t])/\Bt .text (DE [t])/\Bt .text (EV [t]):=λh=>zm3 h
 have stn:∀l:List S,LG (.lst (l.map λs=>T.str (tx V s))):=λl=>.inr (.inr ⟨l.map (tx V),by rw[yax];rfl⟩)
 have gm:∀p∈Hf V k x1,Bt p.2 (CZ [p.1])/\p.1.sh=true:=λp hp=>by
  rcases yat.mp hp with hp|hp
  .rcases yat.mp hp with hp|hp
   .rcases yat.mp hp with hp|hp
    .obtain⟨q,hq,rfl⟩:=yai.mp hp;exact⟨KP V (p:=(BV q.1,q.2)) (ya2 _ _▸all q hq:Eo q.1=true/\_).2,rfl⟩
    .simp only[G8,yad,yb3,yf6]at hp
     rcases hp with rfl|rfl|rfl
     .exact⟨(nt (.inl rfl)).1,rfl⟩
     .exact⟨(nt (.inr (.inl ⟨5,rfl⟩))).1,rfl⟩
     .exact⟨(nt (stn [BV (Am k)])).1,rfl⟩
   .simp only[Hb,yad,yb3,yf6]at hp
    rcases hp with rfl|rfl
    .exact⟨KP V (mE' (L "",.text) (by unfold mE;simp)),rfl⟩
    .exact⟨KP V (mE' (BV (Am k)++L "\n",.text) (by unfold mE;simp)),rfl⟩
  .simp only[JA,yad,yb3,yf6]at hp
   rcases hp with rfl|rfl
   .exact⟨KP V (mE' (L " "++BV (Am k),.text) (by unfold mE;simp)),rfl⟩
   .exact⟨KP V (mE' (BV ((Am k).take 3)++L " ",.text) (by unfold mE;simp)),rfl⟩
 have gr:∀p∈Il V,Bt p.2 (DE [p.1])/\p.1.sh=true:=λp hp=>by
  rcases yat.mp hp with hp|hp
  .rcases yat.mp hp with hp|hp
   .obtain⟨q,hq,rfl⟩:=yai.mp hp;exact⟨U3 V (rI' (q.1.s DR,q.2) (yai.mpr ⟨q,ybd _ hq,rfl⟩)),rfl⟩
   .simp only[yad,yb3,yf6]at hp
    rcases hp with rfl|rfl|rfl
    .exact⟨(nt (.inl rfl)).2.1,rfl⟩
    .exact⟨(nt (.inr (.inl ⟨7,rfl⟩))).2.1,rfl⟩
    .exact⟨(nt (stn [Hi])).2.1,rfl⟩
  .obtain⟨q,hq,rfl⟩:=yai.mp hp;exact⟨U3 V (rI' (q.1.s DR,q.2) (yai.mpr ⟨q,yak _ hq,rfl⟩)),rfl⟩
 have gc:∀p∈Hx V x5,Bt p.2 (EV [p.1])/\p.1.sh=true:=λp hp=>by
  rcases yat.mp hp with hp|hp
  .obtain⟨q,hq,rfl⟩:=yai.mp hp;exact⟨ZD V (cI' (q.1.s (cA x5),q.2) (yai.mpr ⟨q,ybd _ hq,rfl⟩)),rfl⟩
  .simp only[cX,yad,yb3,yf6]at hp
   rcases hp with rfl|rfl|rfl|rfl
   .exact⟨(nt (.inl rfl)).2.2,rfl⟩
   .exact⟨(nt (.inr (.inl ⟨5,rfl⟩))).2.2,rfl⟩
   .exact⟨(nt (stn [L "never",L "a"])).2.2,rfl⟩
   .exact⟨ZD V (cI' (L "within a  1",false) (yai.mpr ⟨_,yak _ (ya7.mpr rfl),rfl⟩)),rfl⟩
 have am:=S7 (l:=Hf V k x1) (w:=0) (s:=ns.getD 7 0) (λz=>by unfold Hf Cg rA Fe at z;cases z) (λp hp=>(gm p hp).2) λp hp=>zkg (gm p hp).1 (gm p hp).2
 have ar:=S7 (l:=Il V) (w:=1) (s:=ns.getD 8 0) (λz=>by unfold Il Fc EG at z;cases z) (λp hp=>(gr p hp).2) λp hp=>zkf (gr p hp).1 (gr p hp).2
 have ac:=S7 (l:=Hx V x5) (w:=2) (s:=ns.getD 9 0) (λz=>by unfold Hx cE DZ at z;cases z) (λp hp=>(gc p hp).2) λp hp=>zkh (gc p hp).1 (gc p hp).2
 have hm:=JF λp hp=>(gm p hp).2
 have hr:=JF λp hp=>(gr p hp).2
 have hc:=JF λp hp=>(gc p hp).2
 generalize (Hf V k x1).map A5=M at *;generalize (Il V).map A5=R at *;generalize (Hx V x5).map A5=C at *;unfold NY Pw
 simp![ss,sc,c0,c7,c8,c9,nm,ma,ra,ca,am,ar,ac,hm,hr,hc,AW _ hm,AW _ hr,AW _ hc]
end
end Zl
namespace Zl
open PySem PySem.W L2 Zw Zx Pu Hd
abbrev pw:Program:=PySem.Challenge.pw_zonewalk_k84_texts_refused
abbrev P5:OpenLaw:=PySem.Challenge.rw_zonewalk_k84_texts_refused
abbrev md:String:="__module__"
abbrev fl:String:="__firstlineno__"
abbrev sa:String:="__static_attributes__"
abbrev dc:String:="__doc__"
noncomputable abbrev cf:Str:="/claim/cut.py"
noncomputable def tO(l:List Value):Obj:=⟨(.type "tuple"),none,(.seq (Array.mk l) 0),Array.mk []⟩
noncomputable def dO(l:List DictEntry)(n:Nat):Obj:=⟨(.type "dict"),none,(.dict (Array.mk l) n),Array.mk []⟩
def eb:List Value:=[(.type "ValueError"),(.type "Exception"),(.type "BaseException"),(.type "object")]
noncomputable def yO(a:Str)(b c:List Value)(n:Addr)(d:List Value)(r ta tb:Nat)(w:String):Obj:=⟨(.type "type"),none,(.cls ⟨a,b,c,n,a,true,[],d,false,none,false⟩),Array.mk [(some (.ref r)),none,(some (.str a ta)),(some (.str a tb)),(some (.builtin w)),(some (.bool true))]⟩
def cP(a:Str)(ta:Nat)(b:Str)(tb tf:Nat)(r n k:Int)(r1:Nat)(z:Int)(v1 v2 v3 v4 v5:Value)(x y:Int)(tg:Nat):Obj:=⟨(.type "code"),none,(.fields (Array.mk [(.str a ta),(.str b tb),(.str cf tf),(.int r 0),(.int n 0),(.int 0 0),(.int 0 0),(.int k 0),(.ref r1),(.bool true),(.int z 0),v1,v2,v3,v4,v5,(.int x 0),(.int y 0),(.str cf tg)])),Array.mk []⟩
noncomputable def cO(a:Str)(ta tb tf:Nat)(r n k:Int)(r1:Nat)(z:Int)(r2 r3 r4 r5:Nat)(x y:Int)(tg:Nat):Obj:=cP a ta a tb tf r n k r1 z (.ref r2) .none (.ref r3) (.ref r4) (.ref r5) x y tg
def fO(a b:Str)(s:Stmt)(d:Value)(m:Str)(t c:Nat)(y:Value):Obj:=⟨(.type "function"),none,(.func (fnOf a b (JU s) (Ah s) (AL s) d .none .none (.str m t) none (.ref c) y)),Array.mk []⟩
def gO(a:Str)(s:Stmt)(m:Str)(t c:Nat):Obj:=fO a a s .none m t c .none
def o2(P:Params):Obj:=⟨.none,none,(.dict (Array.mk []) 0),Array.mk []⟩
def o3(P:Params):Obj:=dO [en P "__name__" 165 (.str "law_zonewalk_k84_texts_refused" 889),en P "__doc__" 166 .none,en P "__package__" 167 .none,en P "__loader__" 168 (.builtin "__main__.__loader__#opaque"),en P "__spec__" 169 .none,en P "__annotations__" 170 (.ref 6),en P "__builtins__" 171 (.ref 4),en P "__file__" 173 (.str "/claim/cut.py" 172),en P "__cached__" 174 .none,en P "_wall" 193 (.ref 21),en P "WalkError" 213 (.ref 31),en P "NoNumber" 229 (.ref 44),en P "BadMachine" 245 (.ref 56),en P "TooMany" 261 (.ref 68),en P "NoRun" 286 (.ref 87),en P "NoMark" 302 (.ref 99),en P "NoRoad" 318 (.ref 111),en P "NoRoom" 334 (.ref 123),en P "NoText" 350 (.ref 135),en P "NoRow" 366 (.ref 147),en P "is_whole" 375 (.ref 156),en P "greatest_divisor" 386 (.ref 163),en P "WORDS" 394 (.ref 164),en P "STAY_WORDS" 397 (.ref 165),en P "is_look" 406 (.ref 172),en P "is_number" 413 (.ref 179),en P "is_guard" 419 (.ref 184),en P "MOST_WATCHES" 423 (.int 7 422),en P "MOST_ROOMS" 425 (.int 64 424),en P "MOST_DOORS" 427 (.int 200 426),en P "is_small_letter" 434 (.ref 191),en P "is_name" 440 (.ref 196),en P "is_watch_name" 447 (.ref 203),en P "is_room_name" 453 (.ref 208),en P "is_sign" 460 (.ref 215),en P "own_copy" 467 (.ref 222),en P "Door" 519 (.ref 254),en P "Machine" 585 (.ref 308),en P "check_watches" 591 (.ref 317),en P "are_unlike" 598 (.ref 324),en P "check_rooms" 604 (.ref 329),en P "check_doors" 614 (.ref 336),en P "are_noughts" 620 (.ref 341),en P "Claim" 642 (.ref 351),en P "Never" 692 (.ref 393),en P "NoSooner" 744 (.ref 433),en P "Within" 794 (.ref 473),en P "FIGURES" 798 (.str "0123456789" 797),en P "MOST_FIGURES" 800 (.int 60 799),en P "LOOK_SIGNS" 804 (.ref 476),en P "NOUGHT_END" 806 (.str ":0" 805),en P "check_text" 813 (.ref 483),en P "is_number_text" 819 (.ref 488),en P "read_number" 826 (.ref 495),en P "read_fraction" 836 (.ref 502),en P "read_look" 842 (.ref 507),en P "read_looks" 848 (.ref 512),en P "read_machine" 854 (.ref 517),en P "read_door" 865 (.ref 524),en P "read_run" 871 (.ref 529),en P "read_step" 880 (.ref 536),en P "read_claim" 888 (.ref 543),en P "_law_cell_at" 898 (.ref 550),en P "_law_word" 904 (.ref 555),en P "_law_said" 914 (.ref 562),en P "_law_names" 930 (.ref 569),en P "_law_no_look" 940 (.ref 576),en P "_law_rows" 951 (.ref 583),en P "_law_text" 957 (.ref 588),en P "_law_doors" 963 (.ref 593),en P "_law_machines" 969 (.ref 598),en P "_law_runs" 981 (.ref 605),en P "_law_claims" 994 (.ref 612),en P "_law_all_so" 1007 (.ref 619),en P "law" 1015 (.ref 626)] 75
def o22(P:Params):Obj:=tO [(.type "ValueError")]
def o29(P:Params):Obj:=tO []
def o30(P:Params):Obj:=dO [en P md 203 (.str "zonewalk.errors" 194),en P fl 207 (.int 5 206),en P sa 208 (.ref 29),en P "__weakref__" 210 (.ref 32),en P dc 211 .none] 3
def o31(P:Params):Obj:=yO "WalkError" [(.type "ValueError")] ([(.ref 31)]++eb) 30 [(.ref 44),(.ref 56),(.ref 68),(.ref 87),(.ref 99),(.ref 111),(.ref 123),(.ref 135),(.ref 147)] 22 196 204 "ValueError.__new__"
def o32(P:Params):Obj:=⟨(.type "getset_descriptor"),none,(.fields (Array.mk [(.str "__weakref__" 209),(.ref 31),(.builtin "ExceptionGroup.__weakref__"),.none])),Array.mk []⟩
def o35(P:Params):Obj:=tO [(.ref 31)]
def o42(P:Params):Obj:=tO []
def o43(P:Params):Obj:=dO [en P md 221 (.str "zonewalk.errors" 194),en P fl 225 (.int 7 224),en P sa 226 (.ref 42),en P dc 227 .none] 2
def o44(P:Params):Obj:=yO "NoNumber" [(.ref 31)] ([(.ref 44),(.ref 31)]++eb) 43 [] 35 214 222 "ValueError.__new__"
def o47(P:Params):Obj:=tO [(.ref 31)]
def o54(P:Params):Obj:=tO []
def o55(P:Params):Obj:=dO [en P md 237 (.str "zonewalk.errors" 194),en P fl 241 (.int 9 240),en P sa 242 (.ref 54),en P dc 243 .none] 2
def o56(P:Params):Obj:=yO "BadMachine" [(.ref 31)] ([(.ref 56),(.ref 31)]++eb) 55 [] 47 230 238 "ValueError.__new__"
def o59(P:Params):Obj:=tO [(.ref 31)]
def o66(P:Params):Obj:=tO []
def o67(P:Params):Obj:=dO [en P md 253 (.str "zonewalk.errors" 194),en P fl 257 (.int 11 256),en P sa 258 (.ref 66),en P dc 259 .none] 2
def o68(P:Params):Obj:=yO "TooMany" [(.ref 31)] ([(.ref 68),(.ref 31)]++eb) 67 [] 59 246 254 "ValueError.__new__"
def o71(P:Params):Obj:=tO [(.ref 31)]
def o85(P:Params):Obj:=tO [(.str "step" 282)]
def o86(P:Params):Obj:=dO [en P md 269 (.str "zonewalk.errors" 194),en P fl 273 (.int 13 272),en P "__init__" 281 (.ref 84),en P sa 283 (.ref 85),en P dc 284 .none] 2
def o87(P:Params):Obj:=yO "NoRun" [(.ref 31)] ([(.ref 87),(.ref 31)]++eb) 86 [] 71 262 270 "ValueError.__new__"
def o90(P:Params):Obj:=tO [(.ref 31)]
def o97(P:Params):Obj:=tO []
def o98(P:Params):Obj:=dO [en P md 294 (.str "zonewalk.errors" 194),en P fl 298 (.int 17 297),en P sa 299 (.ref 97),en P dc 300 .none] 2
def o99(P:Params):Obj:=yO "NoMark" [(.ref 31)] ([(.ref 99),(.ref 31)]++eb) 98 [] 90 287 295 "ValueError.__new__"
def o102(P:Params):Obj:=tO [(.ref 31)]
def o109(P:Params):Obj:=tO []
def o110(P:Params):Obj:=dO [en P md 310 (.str "zonewalk.errors" 194),en P fl 314 (.int 19 313),en P sa 315 (.ref 109),en P dc 316 .none] 2
def o111(P:Params):Obj:=yO "NoRoad" [(.ref 31)] ([(.ref 111),(.ref 31)]++eb) 110 [] 102 303 311 "ValueError.__new__"
def o114(P:Params):Obj:=tO [(.ref 31)]
def o121(P:Params):Obj:=tO []
def o122(P:Params):Obj:=dO [en P md 326 (.str "zonewalk.errors" 194),en P fl 330 (.int 21 329),en P sa 331 (.ref 121),en P dc 332 .none] 2
def o123(P:Params):Obj:=yO "NoRoom" [(.ref 31)] ([(.ref 123),(.ref 31)]++eb) 122 [] 114 319 327 "ValueError.__new__"
def o126(P:Params):Obj:=tO [(.ref 31)]
def o133(P:Params):Obj:=tO []
def o134(P:Params):Obj:=dO [en P md 342 (.str "zonewalk.errors" 194),en P fl 346 (.int 23 345),en P sa 347 (.ref 133),en P dc 348 .none] 2
def o135(P:Params):Obj:=yO "NoText" [(.ref 31)] ([(.ref 135),(.ref 31)]++eb) 134 [] 126 335 343 "ValueError.__new__"
def o138(P:Params):Obj:=tO [(.ref 31)]
def o145(P:Params):Obj:=tO []
def o146(P:Params):Obj:=dO [en P md 358 (.str "zonewalk.errors" 194),en P fl 362 (.int 25 361),en P sa 363 (.ref 145),en P dc 364 .none] 2
def o147(P:Params):Obj:=yO "NoRow" [(.ref 31)] ([(.ref 147),(.ref 31)]++eb) 146 [] 138 351 359 "ValueError.__new__"
def o155(_:Params):=cO "is_whole" 369 370 371 28 1 3 150 181 151 152 153 154 373 28 374
def WE(_:Params):=gO "is_whole" (AV 13) "zonewalk.fractions" 367 155
def o162(_:Params):=cO "greatest_divisor" 376 377 378 30 2 3 157 181 158 159 160 161 384 30 385
def WD(_:Params):=gO "greatest_divisor" (AV 14) "zonewalk.fractions" 367 162
def WC(P:Params):Obj:=tO [(.str "<" 389),(.str "<=" 390),(.str ">" 391),(.str ">=" 392),(.str "=" 393)]
def WB(P:Params):Obj:=tO [(.str "<" 395),(.str "<=" 396)]
def o171(_:Params):=cO "is_look" 398 399 400 41 3 3 166 181 167 168 169 170 404 41 405
def WA(_:Params):=gO "is_look" (AV 18) "zonewalk.looks" 387 171
def o178(_:Params):=cO "is_number" 407 408 409 45 1 3 173 181 174 175 176 177 411 45 412
def Vz(_:Params):=gO "is_number" (AV 19) "zonewalk.looks" 387 178
def o183(P:Params):Obj:=cP "is_guard" 414 "is_guard" 415 416 47 3 3 180 181 (.ref 181) .none .none .none (.ref 182) 417 47 418
def Vy(_:Params):=gO "is_guard" (AV 20) "zonewalk.looks" 387 183
def o190(_:Params):=cO "is_small_letter" 428 429 430 53 1 3 185 181 186 187 188 189 432 53 433
def Vx(_:Params):=gO "is_small_letter" (AV 25) "zonewalk.machines" 420 190
def o195(P:Params):Obj:=cP "is_name" 435 "is_name" 436 437 55 1 3 192 181 (.ref 193) .none .none .none (.ref 194) 438 55 439
def Vw(_:Params):=gO "is_name" (AV 26) "zonewalk.machines" 420 195
def o202(_:Params):=cO "is_watch_name" 441 442 443 57 1 3 197 181 198 199 200 201 445 57 446
def Vv(_:Params):=gO "is_watch_name" (AV 27) "zonewalk.machines" 420 202
def o207(P:Params):Obj:=cP "is_room_name" 448 "is_room_name" 449 450 59 1 3 204 181 (.ref 205) .none .none .none (.ref 206) 451 59 452
def Vu(_:Params):=gO "is_room_name" (AV 28) "zonewalk.machines" 420 207
def o214(_:Params):=cO "is_sign" 454 455 456 63 1 3 209 181 210 211 212 213 458 63 459
def Vt(_:Params):=gO "is_sign" (AV 29) "zonewalk.machines" 420 214
def o221(_:Params):=cO "own_copy" 461 462 463 67 1 3 216 181 217 218 219 220 465 67 466
def Vs(_:Params):=gO "own_copy" (AV 30) "zonewalk.machines" 420 221
def Vr(P:Params):Obj:=tO [(.str "" 480)]
def o236(P:Params):Obj:=cP "__init__" 481 "Door.__init__" 482 483 71 6 3 231 181 (.ref 232) .none (.ref 233) (.ref 234) (.ref 235) 490 71 491
def Vq(_:Params):=fO "__init__" "Door.__init__" (FA 31 0) (.ref 230) "zonewalk.machines" 420 236 .none
def o252(P:Params):Obj:=tO [(.str "end" 507),(.str "guard" 508),(.str "noughts" 509),(.str "sign" 510),(.str "start" 511)]
def o253(P:Params):Obj:=dO [en P md 475 (.str "zonewalk.machines" 420),en P fl 479 (.int 69 478),en P "__init__" 492 (.ref 237),en P "asks" 499 (.ref 244),en P "sets" 506 (.ref 251),en P sa 512 (.ref 252),en P "__dict__" 514 (.ref 255),en P "__weakref__" 516 (.ref 256),en P dc 517 .none] 4
noncomputable def o254(P:Params):Obj:=⟨(.type "type"),none,(.cls ⟨"Door",[(.type "object")],[(.ref 254),(.type "object")],253,"Door",true,[],[],false,none,false⟩),Array.mk [none,none,(some (.str "Door" 468)),(some (.str "Door" 476)),(some (.builtin "object.__new__")),(some (.bool true))]⟩
def o255(P:Params):Obj:=⟨(.type "getset_descriptor"),none,(.fields (Array.mk [(.str "__dict__" 513),(.ref 254),(.builtin "function.__dict__"),(.builtin "function.__dict__#set")])),Array.mk []⟩
def o256(P:Params):Obj:=⟨(.type "getset_descriptor"),none,(.fields (Array.mk [(.str "__weakref__" 515),(.ref 254),(.builtin "ExceptionGroup.__weakref__"),.none])),Array.mk []⟩
def o269(P:Params):Obj:=cP "__init__" 532 "Machine.__init__" 533 534 85 4 3 266 181 (.ref 267) .none .none .none (.ref 268) 535 85 536
def Vp(_:Params):=fO "__init__" "Machine.__init__" (FA 32 0) .none "zonewalk.machines" 420 269 .none
def o306(P:Params):Obj:=tO [(.str "door_list" 575),(.str "stays" 576),(.str "watch_names" 577)]
def o307(P:Params):Obj:=dO [en P md 527 (.str "zonewalk.machines" 420),en P fl 531 (.int 83 530),en P "__init__" 537 (.ref 270),en P "watches" 544 (.ref 277),en P "rooms" 551 (.ref 284),en P "doors" 558 (.ref 291),en P "stay" 566 (.ref 298),en P "watch_number" 574 (.ref 305),en P sa 578 (.ref 306),en P "__dict__" 580 (.ref 309),en P "__weakref__" 582 (.ref 310),en P dc 583 .none] 4
noncomputable def o308(P:Params):Obj:=⟨(.type "type"),none,(.cls ⟨"Machine",[(.type "object")],[(.ref 308),(.type "object")],307,"Machine",true,[],[],false,none,false⟩),Array.mk [none,none,(some (.str "Machine" 520)),(some (.str "Machine" 528)),(some (.builtin "object.__new__")),(some (.bool true))]⟩
def o309(P:Params):Obj:=⟨(.type "getset_descriptor"),none,(.fields (Array.mk [(.str "__dict__" 579),(.ref 308),(.builtin "function.__dict__"),(.builtin "function.__dict__#set")])),Array.mk []⟩
def o310(P:Params):Obj:=⟨(.type "getset_descriptor"),none,(.fields (Array.mk [(.str "__weakref__" 581),(.ref 308),(.builtin "ExceptionGroup.__weakref__"),.none])),Array.mk []⟩
def o316(P:Params):Obj:=cP "check_watches" 586 "check_watches" 587 588 111 1 3 313 181 (.ref 314) .none .none .none (.ref 315) 589 111 590
def Vo(_:Params):=gO "check_watches" (AV 33) "zonewalk.machines" 420 316
def o323(_:Params):=cO "are_unlike" 592 593 594 116 1 3 318 181 319 320 321 322 596 116 597
def Vn(_:Params):=gO "are_unlike" (AV 34) "zonewalk.machines" 420 323
def o328(P:Params):Obj:=cP "check_rooms" 599 "check_rooms" 600 601 118 2 3 325 181 (.ref 326) .none .none .none (.ref 327) 602 118 603
def Vm(_:Params):=gO "check_rooms" (AV 35) "zonewalk.machines" 420 328
def o335(_:Params):=cO "check_doors" 605 606 607 128 3 3 330 181 331 332 333 334 612 128 613
def Vl(_:Params):=gO "check_doors" (AV 36) "zonewalk.machines" 420 335
def o340(P:Params):Obj:=cP "are_noughts" 615 "are_noughts" 616 617 140 2 3 337 181 (.ref 338) .none .none .none (.ref 339) 618 140 619
def Vk(_:Params):=gO "are_noughts" (AV 37) "zonewalk.machines" 420 340
def o349(P:Params):Obj:=tO []
def o350(P:Params):Obj:=dO [en P md 630 (.str "zonewalk.claims" 621),en P fl 634 (.int 145 633),en P sa 635 (.ref 349),en P "__dict__" 637 (.ref 352),en P "__weakref__" 639 (.ref 353),en P dc 640 .none] 4
noncomputable def o351(P:Params):Obj:=⟨(.type "type"),none,(.cls ⟨"Claim",[(.type "object")],[(.ref 351),(.type "object")],350,"Claim",true,[],[(.ref 393),(.ref 433),(.ref 473)],false,none,false⟩),Array.mk [none,none,(some (.str "Claim" 623)),(some (.str "Claim" 631)),(some (.builtin "object.__new__")),(some (.bool true))]⟩
def o352(P:Params):Obj:=⟨(.type "getset_descriptor"),none,(.fields (Array.mk [(.str "__dict__" 636),(.ref 351),(.builtin "function.__dict__"),(.builtin "function.__dict__#set")])),Array.mk []⟩
def o353(P:Params):Obj:=⟨(.type "getset_descriptor"),none,(.fields (Array.mk [(.str "__weakref__" 638),(.ref 351),(.builtin "ExceptionGroup.__weakref__"),.none])),Array.mk []⟩
def o356(P:Params):Obj:=tO [(.ref 351)]
def o368(P:Params):Obj:=cP "__init__" 655 "Never.__init__" 656 657 149 3 3 363 181 (.ref 364) .none (.ref 365) (.ref 366) (.ref 367) 661 149 662
def Vj(_:Params):=fO "__init__" "Never.__init__" (FA 40 0) .none "zonewalk.claims" 621 368 .none
def o391(P:Params):Obj:=tO [(.str "guard" 687),(.str "room" 688)]
def o392(P:Params):Obj:=dO [en P md 650 (.str "zonewalk.claims" 621),en P fl 654 (.int 147 653),en P "__init__" 663 (.ref 369),en P "asked_of" 671 (.ref 376),en P "goal_on" 679 (.ref 383),en P "free_watch" 686 (.ref 390),en P sa 689 (.ref 391),en P dc 690 .none] 2
def o393(P:Params):Obj:=yO "Never" [(.ref 351)] [(.ref 393),(.ref 351),(.type "object")] 392 [] 356 643 651 "object.__new__"
def o396(P:Params):Obj:=tO [(.ref 351)]
def o408(P:Params):Obj:=cP "__init__" 705 "NoSooner.__init__" 706 707 163 4 3 403 181 (.ref 404) .none (.ref 405) (.ref 406) (.ref 407) 712 163 713
def Vi(_:Params):=fO "__init__" "NoSooner.__init__" (FA 41 0) .none "zonewalk.claims" 621 408 .none
def o431(P:Params):Obj:=tO [(.str "guard" 738),(.str "number" 739),(.str "room" 740)]
def o432(P:Params):Obj:=dO [en P md 700 (.str "zonewalk.claims" 621),en P fl 704 (.int 161 703),en P "__init__" 714 (.ref 409),en P "asked_of" 722 (.ref 416),en P "goal_on" 730 (.ref 423),en P "free_watch" 737 (.ref 430),en P sa 741 (.ref 431),en P dc 742 .none] 2
def o433(P:Params):Obj:=yO "NoSooner" [(.ref 351)] [(.ref 433),(.ref 351),(.type "object")] 432 [] 396 693 701 "object.__new__"
def o436(P:Params):Obj:=tO [(.ref 351)]
def o448(P:Params):Obj:=cP "__init__" 757 "Within.__init__" 758 759 178 3 3 443 181 (.ref 444) .none (.ref 445) (.ref 446) (.ref 447) 763 178 764
def Vh(_:Params):=fO "__init__" "Within.__init__" (FA 42 0) .none "zonewalk.claims" 621 448 .none
def o471(P:Params):Obj:=tO [(.str "number" 789),(.str "room" 790)]
def o472(P:Params):Obj:=dO [en P md 752 (.str "zonewalk.claims" 621),en P fl 756 (.int 176 755),en P "__init__" 765 (.ref 449),en P "asked_of" 773 (.ref 456),en P "goal_on" 781 (.ref 463),en P "free_watch" 788 (.ref 470),en P sa 791 (.ref 471),en P dc 792 .none] 2
def o473(P:Params):Obj:=yO "Within" [(.ref 351)] [(.ref 473),(.ref 351),(.type "object")] 472 [] 436 745 753 "object.__new__"
def Vg(P:Params):Obj:=tO [(.str "<" 801),(.str ">" 802),(.str "=" 803)]
def o482(_:Params):=cO "check_text" 807 808 809 195 1 3 477 181 478 479 480 481 811 195 812
def Vf(_:Params):=gO "check_text" (AV 48) "zonewalk.texts" 795 482
def o487(P:Params):Obj:=cP "is_number_text" 814 "is_number_text" 815 816 198 1 3 484 181 (.ref 485) .none .none .none (.ref 486) 817 198 818
def Ve(_:Params):=gO "is_number_text" (AV 49) "zonewalk.texts" 795 487
def o494(_:Params):=cO "read_number" 820 821 822 202 1 3 489 181 490 491 492 493 824 202 825
def Vc(_:Params):=gO "read_number" (AV 50) "zonewalk.texts" 795 494
def o501(_:Params):=cO "read_fraction" 827 828 829 206 1 3 496 181 497 498 499 500 834 206 835
def Vb(_:Params):=gO "read_fraction" (AV 51) "zonewalk.texts" 795 501
def o506(P:Params):Obj:=cP "read_look" 837 "read_look" 838 839 218 1 3 503 181 (.ref 504) .none .none .none (.ref 505) 840 218 841
def V9(_:Params):=gO "read_look" (AV 52) "zonewalk.texts" 795 506
def o511(P:Params):Obj:=cP "read_looks" 843 "read_looks" 844 845 227 1 3 508 181 (.ref 509) .none .none .none (.ref 510) 846 227 847
def V8(_:Params):=gO "read_looks" (AV 53) "zonewalk.texts" 795 511
def o516(P:Params):Obj:=cP "read_machine" 849 "read_machine" 850 851 229 1 3 513 181 (.ref 514) .none .none .none (.ref 515) 852 229 853
def V7(_:Params):=gO "read_machine" (AV 54) "zonewalk.texts" 795 516
def o523(_:Params):=cO "read_door" 855 856 857 244 1 3 518 181 519 520 521 522 863 244 864
def V6(_:Params):=gO "read_door" (AV 55) "zonewalk.texts" 795 523
def o528(P:Params):Obj:=cP "read_run" 866 "read_run" 867 868 260 1 3 525 181 (.ref 526) .none .none .none (.ref 527) 869 260 870
def V5(_:Params):=gO "read_run" (AV 56) "zonewalk.texts" 795 528
def o535(_:Params):=cO "read_step" 872 873 874 265 1 3 530 181 531 532 533 534 878 265 879
def V4(_:Params):=gO "read_step" (AV 57) "zonewalk.texts" 795 535
def o542(_:Params):=cO "read_claim" 881 882 883 271 1 3 537 181 538 539 540 541 886 271 887
def V3(_:Params):=gO "read_claim" (AV 58) "zonewalk.texts" 795 542
def o549(_:Params):=cO "_law_cell_at" 891 892 893 282 2 3 544 181 545 546 547 548 896 282 897
def V2(_:Params):=gO "_law_cell_at" (AV 60) "law_zonewalk_k84_texts_refused" 889 549
def o554(P:Params):Obj:=cP "_law_word" 899 "_law_word" 900 901 286 1 3 551 181 (.ref 552) .none .none .none (.ref 553) 902 286 903
def V1(_:Params):=gO "_law_word" (AV 61) "law_zonewalk_k84_texts_refused" 889 554
def o561(_:Params):=cO "_law_said" 905 906 907 293 2 3 556 181 557 558 559 560 912 293 913
def V0(_:Params):=gO "_law_said" (AV 62) "law_zonewalk_k84_texts_refused" 889 561
def o568(_:Params):=cO "_law_names" 915 916 917 305 2 3 563 181 564 565 566 567 928 305 929
def VZ(_:Params):=gO "_law_names" (AV 63) "law_zonewalk_k84_texts_refused" 889 568
def o575(_:Params):=cO "_law_no_look" 931 932 933 317 2 3 570 181 571 572 573 574 938 317 939
def VY(_:Params):=gO "_law_no_look" (AV 64) "law_zonewalk_k84_texts_refused" 889 575
def o582(_:Params):=cO "_law_rows" 941 942 943 325 2 3 577 181 578 579 580 581 949 325 950
def VX(_:Params):=gO "_law_rows" (AV 65) "law_zonewalk_k84_texts_refused" 889 582
def o587(P:Params):Obj:=cP "_law_text" 952 "_law_text" 953 954 330 1 3 584 181 (.ref 585) .none .none .none (.ref 586) 955 330 956
def VW(_:Params):=gO "_law_text" (AV 66) "law_zonewalk_k84_texts_refused" 889 587
def o592(P:Params):Obj:=cP "_law_doors" 958 "_law_doors" 959 960 332 4 3 589 181 (.ref 590) .none .none .none (.ref 591) 961 332 962
def VV(_:Params):=gO "_law_doors" (AV 67) "law_zonewalk_k84_texts_refused" 889 592
def o597(P:Params):Obj:=cP "_law_machines" 964 "_law_machines" 965 966 342 2 3 594 181 (.ref 595) .none .none .none (.ref 596) 967 342 968
def VU(_:Params):=gO "_law_machines" (AV 68) "law_zonewalk_k84_texts_refused" 889 597
def o604(_:Params):=cO "_law_runs" 970 971 972 361 1 3 599 181 600 601 602 603 979 361 980
def VT(_:Params):=gO "_law_runs" (AV 69) "law_zonewalk_k84_texts_refused" 889 604
def o611(_:Params):=cO "_law_claims" 982 983 984 377 2 3 606 181 607 608 609 610 992 377 993
def VS(_:Params):=gO "_law_claims" (AV 70) "law_zonewalk_k84_texts_refused" 889 611
def o618(_:Params):=cO "_law_all_so" 995 996 997 394 4 3 613 181 614 615 616 617 1005 394 1006
def VR(_:Params):=gO "_law_all_so" (AV 71) "law_zonewalk_k84_texts_refused" 889 618
def o625(_:Params):=cO "law" 1008 1009 1010 400 1 3 620 181 621 622 623 624 1013 400 1014
def VQ(_:Params):=gO "law" (AV 72) "law_zonewalk_k84_texts_refused" 889 625
def JN(P:Params):Frag:=[(2,o2 P),(3,o3 P),(22,o22 P),(29,o29 P),(30,o30 P),(31,o31 P),(32,o32 P),(35,o35 P),(42,o42 P),(43,o43 P),(44,o44 P),(47,o47 P),(54,o54 P),(55,o55 P),(56,o56 P),(59,o59 P),(66,o66 P),(67,o67 P),(68,o68 P),(71,o71 P),(85,o85 P),(86,o86 P),(87,o87 P),(90,o90 P),(97,o97 P),(98,o98 P),(99,o99 P),(102,o102 P),(109,o109 P),(110,o110 P),(111,o111 P),(114,o114 P),(121,o121 P),(122,o122 P),(123,o123 P),(126,o126 P),(133,o133 P),(134,o134 P),(135,o135 P),(138,o138 P),(145,o145 P),(146,o146 P),(147,o147 P),(155,o155 P),(156,WE P),(162,o162 P),(163,WD P),(164,WC P),(165,WB P),(171,o171 P),(172,WA P),(178,o178 P),(179,Vz P),(183,o183 P),(184,Vy P),(190,o190 P),(191,Vx P),(195,o195 P),(196,Vw P),(202,o202 P),(203,Vv P),(207,o207 P),(208,Vu P),(214,o214 P),(215,Vt P),(221,o221 P),(222,Vs P),(230,Vr P),(236,o236 P),(237,Vq P),(252,o252 P),(253,o253 P),(254,o254 P),(255,o255 P),(256,o256 P),(269,o269 P),(270,Vp P),(306,o306 P),(307,o307 P),(308,o308 P),(309,o309 P),(310,o310 P),(316,o316 P),(317,Vo P),(323,o323 P),(324,Vn P),(328,o328 P),(329,Vm P),(335,o335 P),(336,Vl P),(340,o340 P),(341,Vk P),(349,o349 P),(350,o350 P),(351,o351 P),(352,o352 P),(353,o353 P),(356,o356 P),(368,o368 P),(369,Vj P),(391,o391 P),(392,o392 P),(393,o393 P),(396,o396 P),(408,o408 P),(409,Vi P),(431,o431 P),(432,o432 P),(433,o433 P),(436,o436 P),(448,o448 P),(449,Vh P),(471,o471 P),(472,o472 P),(473,o473 P),(476,Vg P),(482,o482 P),(483,Vf P),(487,o487 P),(488,Ve P),(494,o494 P),(495,Vc P),(501,o501 P),(502,Vb P),(506,o506 P),(507,V9 P),(511,o511 P),(512,V8 P),(516,o516 P),(517,V7 P),(523,o523 P),(524,V6 P),(528,o528 P),(529,V5 P),(535,o535 P),(536,V4 P),(542,o542 P),(543,V3 P),(549,o549 P),(550,V2 P),(554,o554 P),(555,V1 P),(561,o561 P),(562,V0 P),(568,o568 P),(569,VZ P),(575,o575 P),(576,VY P),(582,o582 P),(583,VX P),(587,o587 P),(588,VW P),(592,o592 P),(593,VV P),(597,o597 P),(598,VU P),(604,o604 P),(605,VT P),(611,o611 P),(612,VS P),(618,o618 P),(619,VR P),(625,o625 P),(626,VQ P)]
noncomputable def fas:List Addr:=[2,3,22,29,30,31,32,35,42,43,44,47,54,55,56,59,66,67,68,71,85,86,87,90,97,98,99,102,109,110,111,114,121,122,123,126,133,134,135,138,145,146,147,155,156,162,163,164,165,171,172,178,179,183,184,190,191,195,196,202,203,207,208,214,215,221,222,230,236,237,252,253,254,255,256,269,270,306,307,308,309,310,316,317,323,324,328,329,335,336,340,341,349,350,351,352,353,356,368,369,391,392,393,396,408,409,431,432,433,436,448,449,471,472,473,476,482,483,487,488,494,495,501,502,506,507,511,512,516,517,523,524,528,529,535,536,542,543,549,550,554,555,561,562,568,569,575,576,582,583,587,588,592,593,597,598,604,605,611,612,618,619,625,626]
def vq:Program:={ pw with main:={ (pw).main with body:=[AV 72] } }
noncomputable def loo:List Str:=[Str.ofString "_wall",Str.ofString "WalkError",Str.ofString "NoNumber",Str.ofString "BadMachine",Str.ofString "TooMany",Str.ofString "NoRun",Str.ofString "NoMark",Str.ofString "NoRoad",Str.ofString "NoRoom",Str.ofString "NoText",Str.ofString "NoRow",Str.ofString "is_whole",Str.ofString "greatest_divisor",Str.ofString "WORDS",Str.ofString "STAY_WORDS",Str.ofString "is_look",Str.ofString "is_number",Str.ofString "is_guard",Str.ofString "MOST_WATCHES",Str.ofString "MOST_ROOMS",Str.ofString "MOST_DOORS",Str.ofString "is_small_letter",Str.ofString "is_name",Str.ofString "is_watch_name",Str.ofString "is_room_name",Str.ofString "is_sign",Str.ofString "own_copy",Str.ofString "Door",Str.ofString "Machine",Str.ofString "check_watches",Str.ofString "are_unlike",Str.ofString "check_rooms",Str.ofString "check_doors",Str.ofString "are_noughts",Str.ofString "Claim",Str.ofString "Never",Str.ofString "NoSooner",Str.ofString "Within",Str.ofString "FIGURES",Str.ofString "MOST_FIGURES",Str.ofString "LOOK_SIGNS",Str.ofString "NOUGHT_END",Str.ofString "check_text",Str.ofString "is_number_text",Str.ofString "read_number",Str.ofString "read_fraction",Str.ofString "read_look",Str.ofString "read_looks",Str.ofString "read_machine",Str.ofString "read_door",Str.ofString "read_run",Str.ofString "read_step",Str.ofString "read_claim",Str.ofString "_law_cell_at",Str.ofString "_law_word",Str.ofString "_law_said",Str.ofString "_law_names",Str.ofString "_law_no_look",Str.ofString "_law_rows",Str.ofString "_law_text",Str.ofString "_law_doors",Str.ofString "_law_machines",Str.ofString "_law_runs",Str.ofString "_law_claims",Str.ofString "_law_all_so"]
abbrev hk:Hook:=kHook JN fas (λ_=>by ext)
theorem zkr(w:World)(os:OsState):(go pw 5455 w os).map (λs=>Lf pw vq loo (xt P5.row.toRowW vq) hk.obs (boot_heap w.params) s.abs)=some (true,openGood vq loo,hk.val w):=by ext
theorem left:LeftO pw vq loo (xt P5.row.toRowW vq) hk.obs hk.val 11490 true:=zjc 11490 5455 (by ext) (by decide) (λs=>by ext) (by decide) zkr
theorem said:P5.wellSaid=true:=zho (by ext)
abbrev fr(w:World):Frag:=JN w.params
theorem all_mk{w:World}{h:Heap}{mg:Str->Option Value}{fa:Addr}(X:(JN w.params).In h)(G:h.Ns mainGlobals mg)(hfa:mg "law"=some (.ref fa))
  : ∃fd:FuncData,(∀(s:Shared) (v:Value),BindsTo s fd ⟨[v],[]⟩ [("_law_script",v)])/\∀base:Heap,(JN w.params).In base->base.Ns mainGlobals mg->FnOk pw w (JN w.params) mg base IG 11 fa fd ["_law_script"] (Lc (JN w.params)):=by
 have e:=hfa.symm.trans (mg_of X G (show nsIn (fr w) mainGlobals "law"=some (some (.ref 626)) by ext))
 cases e;have mK:∀(x:Str) (a:Addr),nsIn (fr w) mainGlobals x=some (some (.ref a))->mg x=some (.ref a):=λ_ _ e=>mg_of X G e
 have mN:∀x:Str,nsIn (fr w) mainGlobals x=some none->mg x=none:=λ_ e=>mg_none_of X G e
 have cl_Door:Cls (fr w) Bu:=⟨by ext,by ext,by ext,by ext⟩
 have na_Door:∀f∈DB,BM (fr w) Bu f:=(all_cons (by unfold BM;ext) (all_cons (by unfold BM;ext) (all_cons (by unfold BM;ext) (all_cons (by unfold BM;ext) (all_cons (by unfold BM;ext) AX)))))
 have cl_Machine:Cls (fr w) Cc:=⟨by ext,by ext,by ext,by ext⟩
 have na_Machine:∀f∈Ds,BM (fr w) Cc f:=(all_cons (by unfold BM;ext) (all_cons (by unfold BM;ext) (all_cons (by unfold BM;ext) AX)))
 have cl_Never:Cls (fr w) DO:=⟨by ext,by ext,by ext,by ext⟩
 have na_Never:∀f∈FJ,BM (fr w) DO f:=(all_cons (by unfold BM;ext) (all_cons (by unfold BM;ext) AX))
 have cl_NoSooner:Cls (fr w) DN:=⟨by ext,by ext,by ext,by ext⟩
 have na_NoSooner:∀f∈FI,BM (fr w) DN f:=(all_cons (by unfold BM;ext) (all_cons (by unfold BM;ext) (all_cons (by unfold BM;ext) AX)))
 have cl_Within:Cls (fr w) EX:=⟨by ext,by ext,by ext,by ext⟩
 have na_Within:∀f∈Hm,BM (fr w) EX f:=(all_cons (by unfold BM;ext) (all_cons (by unfold BM;ext) AX))
 let ca:Str->Value:=λc=>if c="NoText" then .ref 135 else if c="BadMachine" then .ref 56 else if c="TooMany" then .ref 68 else if c="WalkError" then .ref 31 else if c="NoNumber" then .ref 44 else if c="NoMark" then .ref 99 else if c="NoRoad" then .ref 111 else if c="NoRoom" then .ref 123 else if c="NoRow" then .ref 147 else .none
 have b_isinstance:=mN "isinstance" (by ext)
 have b_len:=mN "len" (by ext)
 have b_range:=mN "range" (by ext)
 have b_int:=mN "int" (by ext)
 have b_str:=mN "str" (by ext)
 have b_all:=mN "all" (by ext)
 have b_enumerate:=mN "enumerate" (by ext)
 have b_list:=mN "list" (by ext)
 have b_bool:=mN "bool" (by ext)
 have b_tuple:=mN "tuple" (by ext)
 have b_set:=mN "set" (by ext)
 have b_abs:=mN "abs" (by ext)
 have yg:specialIn (fr w) (.builtin "object.__class__") "__get__"=some (some (.builtin "getset_descriptor.__get__")):=by ext
 have yt:takesIn (fr w) (.builtin "object.__class__")=some true:=by ext
 let kC:ECls (fr w) mg "NoText":=⟨135,mK "NoText" 135 (by ext),⟨by ext,by ext,⟨(clsIn (fr w) 135).getD default,by ext⟩,by ext,by ext,by ext,by ext,by ext,by ext,yg,yt⟩⟩
 have E_NoText:∃T:ECls (fr w) mg "NoText",ca "NoText"=.ref T.C:=⟨kC,by rfl⟩
 let kD:ECls (fr w) mg "BadMachine":=⟨56,mK "BadMachine" 56 (by ext),⟨by ext,by ext,⟨(clsIn (fr w) 56).getD default,by ext⟩,by ext,by ext,by ext,by ext,by ext,by ext,yg,yt⟩⟩
 have E_BadMachine:∃T:ECls (fr w) mg "BadMachine",ca "BadMachine"=.ref T.C:=⟨kD,by rfl⟩
 let kE:ECls (fr w) mg "TooMany":=⟨68,mK "TooMany" 68 (by ext),⟨by ext,by ext,⟨(clsIn (fr w) 68).getD default,by ext⟩,by ext,by ext,by ext,by ext,by ext,by ext,yg,yt⟩⟩
 have E_TooMany:∃T:ECls (fr w) mg "TooMany",ca "TooMany"=.ref T.C:=⟨kE,by rfl⟩
 let kF:ECls (fr w) mg "WalkError":=⟨31,mK "WalkError" 31 (by ext),⟨by ext,by ext,⟨(clsIn (fr w) 31).getD default,by ext⟩,by ext,by ext,by ext,by ext,by ext,by ext,yg,yt⟩⟩
 have E_WalkError:∃T:ECls (fr w) mg "WalkError",ca "WalkError"=.ref T.C:=⟨kF,by rfl⟩
 let kG:ECls (fr w) mg "NoNumber":=⟨44,mK "NoNumber" 44 (by ext),⟨by ext,by ext,⟨(clsIn (fr w) 44).getD default,by ext⟩,by ext,by ext,by ext,by ext,by ext,by ext,yg,yt⟩⟩
 have E_NoNumber:∃T:ECls (fr w) mg "NoNumber",ca "NoNumber"=.ref T.C:=⟨kG,by rfl⟩
 let kH:ECls (fr w) mg "NoMark":=⟨99,mK "NoMark" 99 (by ext),⟨by ext,by ext,⟨(clsIn (fr w) 99).getD default,by ext⟩,by ext,by ext,by ext,by ext,by ext,by ext,yg,yt⟩⟩
 have E_NoMark:∃T:ECls (fr w) mg "NoMark",ca "NoMark"=.ref T.C:=⟨kH,by rfl⟩
 let kI:ECls (fr w) mg "NoRoad":=⟨111,mK "NoRoad" 111 (by ext),⟨by ext,by ext,⟨(clsIn (fr w) 111).getD default,by ext⟩,by ext,by ext,by ext,by ext,by ext,by ext,yg,yt⟩⟩
 have E_NoRoad:∃T:ECls (fr w) mg "NoRoad",ca "NoRoad"=.ref T.C:=⟨kI,by rfl⟩
 let kJ:ECls (fr w) mg "NoRoom":=⟨123,mK "NoRoom" 123 (by ext),⟨by ext,by ext,⟨(clsIn (fr w) 123).getD default,by ext⟩,by ext,by ext,by ext,by ext,by ext,by ext,yg,yt⟩⟩
 have E_NoRoom:∃T:ECls (fr w) mg "NoRoom",ca "NoRoom"=.ref T.C:=⟨kJ,by rfl⟩
 let kK:ECls (fr w) mg "NoRow":=⟨147,mK "NoRow" 147 (by ext),⟨by ext,by ext,⟨(clsIn (fr w) 147).getD default,by ext⟩,by ext,by ext,by ext,by ext,by ext,by ext,yg,yt⟩⟩
 have E_NoRow:∃T:ECls (fr w) mg "NoRow",ca "NoRow"=.ref T.C:=⟨kK,by rfl⟩
 have F1:=Gh (st:=Jn) (show(fr w).lookup 555=some (V1 w.params) by ext) (show codeIn (fr w) (.ref 554) "_law_word"=true by ext) (by ext)
 let T1:Tx (fr w) mg "_law_word" Jn ["_law_e"]:=⟨_,_,F1,mK "_law_word" 555 (by ext),.all (Be λ_=>rfl)⟩
 have F24:=Gh (st:=Ln) (show(fr w).lookup 237=some (Vq w.params) by ext) (show codeIn (fr w) (.ref 236) "Door.__init__"=true by ext) (by ext)
 have F25:=Gh (st:=Lm) (show(fr w).lookup 270=some (Vp w.params) by ext) (show codeIn (fr w) (.ref 269) "Machine.__init__"=true by ext) (by ext)
 have F32:=Gh (st:=Ll) (show(fr w).lookup 369=some (Vj w.params) by ext) (show codeIn (fr w) (.ref 368) "Never.__init__"=true by ext) (by ext)
 have F33:=Gh (st:=Lk) (show(fr w).lookup 409=some (Vi w.params) by ext) (show codeIn (fr w) (.ref 408) "NoSooner.__init__"=true by ext) (by ext)
 have F34:=Gh (st:=Lj) (show(fr w).lookup 449=some (Vh w.params) by ext) (show codeIn (fr w) (.ref 448) "Within.__init__"=true by ext) (by ext)
 have F45:=Gh (st:=Jl) (show(fr w).lookup 626=some (VQ w.params) by ext) (show codeIn (fr w) (.ref 625) "law"=true by ext) (by ext)
 let T45:Tx (fr w) mg "law" Jl ["_law_script"]:=⟨_,_,F45,mK "law" 626 (by ext),.all (Be λ_=>rfl)⟩
 refine⟨T45.fd,λs v=>.of_eq rfl,λbase _ _=>?_⟩
 have q:Qx pw w (fr w) mg base ca:=⟨mK⟩;let D1:DefS pw w (fr w) mg base 1 "_law_word" "_law_e" (Bv (fr w) ca IB):=⟨T1.f,T1.fd,fnB (n:=200) (Γ:=Ql) T1.F zf6 rfl rfl rfl (all_cons b_isinstance (all_cons b_len AX)) (As (sb:=(AJ ⟨135,mK "NoText" 135 (by ext),(AJ ⟨kF.k,by ext⟩ (AJ ⟨kG.k,by ext⟩ (AJ ⟨kD.k,by ext⟩ (AJ ⟨kE.k,by ext⟩ (AJ ⟨kH.k,by ext⟩ (AJ ⟨kI.k,by ext⟩ (AJ ⟨kJ.k,by ext⟩ (AJ ⟨kC.k,by ext⟩ (AJ ⟨kK.k,by ext⟩ BI)))))))))⟩ (AJ ⟨56,mK "BadMachine" 56 (by ext),(AJ ⟨kF.k,by ext⟩ (AJ ⟨kG.k,by ext⟩ (AJ ⟨kD.k,by ext⟩ (AJ ⟨kE.k,by ext⟩ (AJ ⟨kH.k,by ext⟩ (AJ ⟨kI.k,by ext⟩ (AJ ⟨kJ.k,by ext⟩ (AJ ⟨kC.k,by ext⟩ (AJ ⟨kK.k,by ext⟩ BI)))))))))⟩ (AJ ⟨68,mK "TooMany" 68 (by ext),(AJ ⟨kF.k,by ext⟩ (AJ ⟨kG.k,by ext⟩ (AJ ⟨kD.k,by ext⟩ (AJ ⟨kE.k,by ext⟩ (AJ ⟨kH.k,by ext⟩ (AJ ⟨kI.k,by ext⟩ (AJ ⟨kJ.k,by ext⟩ (AJ ⟨kC.k,by ext⟩ (AJ ⟨kK.k,by ext⟩ BI)))))))))⟩ (AJ ⟨99,mK "NoMark" 99 (by ext),(AJ ⟨kF.k,by ext⟩ (AJ ⟨kG.k,by ext⟩ (AJ ⟨kD.k,by ext⟩ (AJ ⟨kE.k,by ext⟩ (AJ ⟨kH.k,by ext⟩ (AJ ⟨kI.k,by ext⟩ (AJ ⟨kJ.k,by ext⟩ (AJ ⟨kC.k,by ext⟩ (AJ ⟨kK.k,by ext⟩ BI)))))))))⟩ (AJ ⟨44,mK "NoNumber" 44 (by ext),(AJ ⟨kF.k,by ext⟩ (AJ ⟨kG.k,by ext⟩ (AJ ⟨kD.k,by ext⟩ (AJ ⟨kE.k,by ext⟩ (AJ ⟨kH.k,by ext⟩ (AJ ⟨kI.k,by ext⟩ (AJ ⟨kJ.k,by ext⟩ (AJ ⟨kC.k,by ext⟩ (AJ ⟨kK.k,by ext⟩ BI)))))))))⟩ (AJ ⟨111,mK "NoRoad" 111 (by ext),(AJ ⟨kF.k,by ext⟩ (AJ ⟨kG.k,by ext⟩ (AJ ⟨kD.k,by ext⟩ (AJ ⟨kE.k,by ext⟩ (AJ ⟨kH.k,by ext⟩ (AJ ⟨kI.k,by ext⟩ (AJ ⟨kJ.k,by ext⟩ (AJ ⟨kC.k,by ext⟩ (AJ ⟨kK.k,by ext⟩ BI)))))))))⟩ (AJ ⟨123,mK "NoRoom" 123 (by ext),(AJ ⟨kF.k,by ext⟩ (AJ ⟨kG.k,by ext⟩ (AJ ⟨kD.k,by ext⟩ (AJ ⟨kE.k,by ext⟩ (AJ ⟨kH.k,by ext⟩ (AJ ⟨kI.k,by ext⟩ (AJ ⟨kJ.k,by ext⟩ (AJ ⟨kC.k,by ext⟩ (AJ ⟨kK.k,by ext⟩ BI)))))))))⟩ (AJ ⟨147,mK "NoRow" 147 (by ext),(AJ ⟨kF.k,by ext⟩ (AJ ⟨kG.k,by ext⟩ (AJ ⟨kD.k,by ext⟩ (AJ ⟨kE.k,by ext⟩ (AJ ⟨kH.k,by ext⟩ (AJ ⟨kI.k,by ext⟩ (AJ ⟨kJ.k,by ext⟩ (AJ ⟨kC.k,by ext⟩ (AJ ⟨kK.k,by ext⟩ BI)))))))))⟩ (AJ ⟨87,mK "NoRun" 87 (by ext),(AJ ⟨kF.k,by ext⟩ (AJ ⟨kG.k,by ext⟩ (AJ ⟨kD.k,by ext⟩ (AJ ⟨kE.k,by ext⟩ (AJ ⟨kH.k,by ext⟩ (AJ ⟨kI.k,by ext⟩ (AJ ⟨kJ.k,by ext⟩ (AJ ⟨kC.k,by ext⟩ (AJ ⟨kK.k,by ext⟩ BI)))))))))⟩ BI)))))))))) (sv:=(AJ ⟨mN "ValueError" (by ext),"ValueError",by ext,(AJ ⟨kF.k,by ext⟩ (AJ ⟨kG.k,by ext⟩ (AJ ⟨kD.k,by ext⟩ (AJ ⟨kE.k,by ext⟩ (AJ ⟨kH.k,by ext⟩ (AJ ⟨kI.k,by ext⟩ (AJ ⟨kJ.k,by ext⟩ (AJ ⟨kC.k,by ext⟩ (AJ ⟨kK.k,by ext⟩ BI)))))))))⟩ BI))) zh0,T1.m,T1.F.kp,T1.b⟩
 let D2:=BD q (f:=Hl) (o:=V2 w.params) 550 (.all (Em λ_ _=>rfl)) zcb zco (all_cons b_len AX) Av As
 let D3:=BD q (f:=RO) (o:=VZ w.params) 569 (.all (Em λ_ _=>rfl)) zdr zeh (all_cons b_range (all_cons b_int AX)) Av As
 let D4:=BD q (f:=JP) (o:=Vf w.params) 483 (.all (Be λ_=>rfl)) zb6 zbf (all_cons b_isinstance (all_cons b_str AX)) Av As (hex:=(all_cons E_NoText AX))
 let D5:=BD q (f:=RC) (o:=Ve w.params) 488 (.all (Be λ_=>rfl)) za4 za6 (all_cons b_len (all_cons b_all AX)) Av (As (co:=(AJ ⟨(.int (60) 799),(.int 60),mg_of X G (show nsIn (fr w) mainGlobals "MOST_FIGURES"=some (some (.int (60) 799)) by ext),⟨_,rfl⟩,λF=>.int _⟩ (AJ ⟨(.str (Str.ofString "0123456789") 797),(.str "0123456789"),mg_of X G (show nsIn (fr w) mainGlobals "FIGURES"=some (some (.str (Str.ofString "0123456789") 797)) by ext),⟨_,rfl⟩,λF=>.str _⟩ BI))))
 let D6:=BD q (f:=JO) (o:=Vc w.params) 495 (.all (Be λ_=>rfl)) zaq zay (all_cons b_int AX) (Ae (by decide) D5 Av) As (hex:=(all_cons E_NoText AX))
 let D7:=BD q (f:=Mq) (o:=V9 w.params) 507 (.all (Be λ_=>rfl)) zbm zby (all_cons b_enumerate (all_cons b_len AX)) (Ae (by decide) D6 Av) (As (co:=(AJ ⟨_,.ref 476,mK "LOOK_SIGNS" 476 (by ext),rfl,λF=>Ag.of_node (k:=.rt) (xs:=[.str "<",.str ">",.str "="]) (.inr ⟨Vg w.params,_,_,by ext,rfl,rfl,by decide,(.cons ⟨_,rfl⟩ (.cons ⟨_,rfl⟩ (.cons ⟨_,rfl⟩ .nil)))⟩) (MA ["<",">","="])⟩ BI))) (hex:=(all_cons E_NoText AX))
 let D8:=BD q (f:=Mp) (o:=V8 w.params) 512 (.all (Be λ_=>rfl)) zb4 zbd AX (Ae (by decide) D7 Av) As
 let D9:=BD q (f:=K7) (o:=Vs w.params) 222 (.all (Be λ_=>rfl)) zc7 zck (all_cons b_isinstance (all_cons b_list AX)) Av As
 let D10:=BD q (f:=Ms) (o:=Vx w.params) 191 (.all (Be λ_=>rfl)) za2 za3 AX Av As
 let D11:=BD q (f:=Mt) (o:=Vw w.params) 196 (.all (Be λ_=>rfl)) zcu zdc (all_cons b_len (all_cons b_all AX)) (Ae (by decide) D10 Av) As
 let D12:=BD q (f:=Mr) (o:=Vv w.params) 203 (.all (Be λ_=>rfl)) za8 zae (all_cons b_isinstance (all_cons b_str AX)) (Ae (by decide) D11 Av) As
 let D13:=BD q (f:=RB) (o:=Vu w.params) 208 (.all (Be λ_=>rfl)) zai zao (all_cons b_isinstance (all_cons b_str (all_cons b_len (all_cons b_all AX)))) (Ae (by decide) D10 Av) As
 let D14:=BD q (f:=Qz) (o:=WE w.params) 156 (.all (Be λ_=>rfl)) zc8 zcl (all_cons b_isinstance (all_cons b_int (all_cons b_bool AX))) Av As
 let D15:=BD q (f:=RD) (o:=Vz w.params) 179 (.all (Be λ_=>rfl)) zbo zc0 AX (Ae (by decide) D14 Av) As
 let D16:=BD q (f:=RE) (o:=WA w.params) 172 (.all (Jd λ_ _ _=>rfl)) zcv zdd (all_cons b_isinstance (all_cons b_tuple (all_cons b_len AX))) (Ae (by decide) D15 Av) As
 let D17:=BD q (f:=Mu) (o:=Vy w.params) 184 (.all (Jd λ_ _ _=>rfl)) zc9 zcm (all_cons b_isinstance (all_cons b_list (all_cons b_all AX))) (Ae (by decide) D16 Av) As (hce:=(all_cons (by rfl) (all_cons (by rfl) AX)))
 let D18:=BD q (f:=K9) (o:=Vn w.params) 324 (.all (Be λ_=>rfl)) zb7 zbg (all_cons b_len (all_cons b_set AX)) Av As
 let D19:=BD q (f:=RG) (o:=Vo w.params) 317 (.all (Be λ_=>rfl)) za9 zaf (all_cons b_isinstance (all_cons b_list (all_cons b_len (all_cons b_all AX)))) (Ae (by decide) D12 (Ae (by decide) D18 Av)) (As (co:=(AJ ⟨(.int (7) 422),(.int 7),mg_of X G (show nsIn (fr w) mainGlobals "MOST_WATCHES"=some (some (.int (7) 422)) by ext),⟨_,rfl⟩,λF=>.int _⟩ BI))) (hex:=(all_cons E_BadMachine AX))
 let D20:=BD q (f:=RH) (o:=Vm w.params) 329 (.all (Em λ_ _=>rfl)) zar zaz (all_cons b_isinstance (all_cons b_list (all_cons b_len (all_cons b_tuple AX)))) (Ae (by decide) D13 (Ae (by decide) D17 (Ae (by decide) D18 Av))) (As (co:=(AJ ⟨_,.ref 165,mK "STAY_WORDS" 165 (by ext),rfl,λF=>Ag.of_node (k:=.rt) (xs:=[.str "<",.str "<="]) (.inr ⟨WB w.params,_,_,by ext,rfl,rfl,by decide,(.cons ⟨_,rfl⟩ (.cons ⟨_,rfl⟩ .nil))⟩) (MA ["<","<="])⟩ BI))) (hex:=(all_cons E_BadMachine AX))
 let D21:=BD q (f:=RJ) (o:=Vk w.params) 341 (.all (Em λ_ _=>rfl)) zat zb1 (all_cons b_isinstance (all_cons b_list (all_cons b_all AX))) (Ae (by decide) D12 (Ae (by decide) D18 Av)) As (hce:=(all_cons (by rfl) AX))
 let D22:=BD q (f:=RA) (o:=Vt w.params) 215 (.all (Be λ_=>rfl)) zct zdb (all_cons b_isinstance (all_cons b_str AX)) (Ae (by decide) D11 Av) As
 let D23:=BD q (f:=RI) (o:=Vl w.params) 336 (.all (Jd λ_ _ _=>rfl)) zas zb0 (all_cons b_isinstance (all_cons b_list AX)) (Ae (by decide) D17 (Ae (by decide) D21 (Ae (by decide) D22 Av))) (As (co:=(AJ ⟨_,.ref 164,mK "WORDS" 164 (by ext),rfl,λF=>Ag.of_node (k:=.rt) (xs:=[.str "<",.str "<=",.str ">",.str ">=",.str "="]) (.inr ⟨WC w.params,_,_,by ext,rfl,rfl,by decide,(.cons ⟨_,rfl⟩ (.cons ⟨_,rfl⟩ (.cons ⟨_,rfl⟩ (.cons ⟨_,rfl⟩ (.cons ⟨_,rfl⟩ .nil)))))⟩) (MA ["<","<=",">",">=","="])⟩ BI)) (cl:=(all_cons ⟨cl_Door,na_Door⟩ (all_cons ⟨cl_Never,na_Never⟩ (all_cons ⟨cl_NoSooner,na_NoSooner⟩ AX)))) (ci:=(AJ ⟨254,mK "Door" 254 (by ext),(AJ ⟨⟨cl_Door,by ext,by ext,by ext,by ext⟩,by ext⟩ (AJ ⟨⟨cl_Machine,by ext,by ext,by ext,by ext⟩,by ext⟩ (AJ ⟨⟨cl_Never,by ext,by ext,by ext,by ext⟩,by ext⟩ (AJ ⟨⟨cl_NoSooner,by ext,by ext,by ext,by ext⟩,by ext⟩ (AJ ⟨⟨cl_Within,by ext,by ext,by ext,by ext⟩,by ext⟩ BI)))))⟩ BI))) (hex:=(all_cons E_BadMachine AX))
 have K24:FnOk pw w (fr w) mg base (Bk pw w) 2 _ _ ["self","start","end","guard","noughts","sign"] (DQ (fr w) ca Bu J6):=K8 (C:=Bu) (fs:=DB) (n:=200) (Γ:=Qm) F24 zbq rfl rfl AX rfl AX (Ae (by decide) D9 Av) AX H0 rfl (As (sf:=(λC fs h=>by cases h;exact⟨cl_Door,na_Door⟩))) zc2
 let D24:NewX pw w (fr w) mg base "Door" Bu 2 ["self","start","end","guard","noughts","sign"] (DQ (fr w) ca Bu J6):=⟨_,_,mK "Door" 254 (by ext),⟨by ext,by ext,by ext,by ext⟩,K24⟩
 have E24:Cq (fr w) D24.fd ["self","start","end","guard","noughts","sign"] []:=λs us X hl=>match us,hl with|[_,_,_,_,_,_],_=>binds_K X rfl (show(fr w).lookup 230=some (Vr w.params) by ext) rfl rfl rfl
 have K25:FnOk pw w (fr w) mg base (Bk pw w) 6 _ _ ["self","watches","rooms","doors"] (DQ (fr w) ca Cc IA):=K8 (C:=Cc) (fs:=Ds) (n:=200) (Γ:=Qk) F25 zaj rfl rfl AX rfl (all_cons b_len (all_cons b_list AX)) (Ae (by decide) D19 (Ae (by decide) D20 (Ae (by decide) D23 Av))) (all_cons E_TooMany AX) H0 rfl (As (co:=(AJ ⟨(.int (64) 424),(.int 64),mg_of X G (show nsIn (fr w) mainGlobals "MOST_ROOMS"=some (some (.int (64) 424)) by ext),⟨_,rfl⟩,λF=>.int _⟩ (AJ ⟨(.int (200) 426),(.int 200),mg_of X G (show nsIn (fr w) mainGlobals "MOST_DOORS"=some (some (.int (200) 426)) by ext),⟨_,rfl⟩,λF=>.int _⟩ BI))) (sf:=(λC fs h=>by cases h;exact⟨cl_Machine,na_Machine⟩))) zap
 let D25:NewX pw w (fr w) mg base "Machine" Cc 6 ["self","watches","rooms","doors"] (DQ (fr w) ca Cc IA):=⟨_,_,mK "Machine" 308 (by ext),⟨by ext,by ext,by ext,by ext⟩,K25⟩
 have E25:Cq (fr w) D25.fd ["self","watches","rooms","doors"] []:=.all (LO λ_ _ _ _=>rfl)
 let D26:=BD q (f:=Qw) (o:=V6 w.params) 524 (.all (Be λ_=>rfl)) zbn zbz (all_cons b_len AX) (Ae (by decide) D7 Av) (As (co:=(AJ ⟨(.str (Str.ofString ":0") 805),(.str ":0"),mg_of X G (show nsIn (fr w) mainGlobals "NOUGHT_END"=some (some (.str (Str.ofString ":0") 805)) by ext),⟨_,rfl⟩,λF=>.str _⟩ BI)) (nw:=(KH ⟨by decide,Bu,D24,(AJ ⟨[],[],E24,.nil,λ_=>.nil⟩ BI)⟩ MO))) (hex:=(all_cons E_NoText AX))
 let D27:=BD q (f:=Qu) (o:=V7 w.params) 517 (.all (Be λ_=>rfl)) zah zan (all_cons b_len AX) (Ae (by decide) D4 (Ae (by decide) D8 (Ae (by decide) D26 Av))) (As (nw:=(KH ⟨by decide,Cc,D25,(AJ ⟨[],[],E25,.nil,λ_=>.nil⟩ BI)⟩ MO))) (hex:=(all_cons E_NoText AX))
 let D28:=BD q (f:=RF) (o:=WD w.params) 163 (.all (Em λ_ _=>rfl)) za0 za1 (all_cons b_abs AX) Av As
 let D29:=BD q (f:=Qv) (o:=Vb w.params) 502 (.all (Be λ_=>rfl)) za7 zad (all_cons b_len AX) (Ae (by decide) D4 (Ae (by decide) D6 (Ae (by decide) D28 Av))) As (hex:=(all_cons E_NoText AX))
 let D30:=BD q (f:=Qs) (o:=V4 w.params) 536 (.all (Be λ_=>rfl)) zbl zbx (all_cons b_len AX) (Ae (by decide) D6 (Ae (by decide) D29 Av)) As (hex:=(all_cons E_NoText AX))
 let D31:=BD q (f:=Qt) (o:=V5 w.params) 529 (.all (Be λ_=>rfl)) zc6 zcj AX (Ae (by decide) D4 (Ae (by decide) D30 Av)) As
 have K32:FnOk pw w (fr w) mg base (Bk pw w) 2 _ _ ["self","room","guard"] (DQ (fr w) ca DO Ky):=K8 (C:=DO) (fs:=FJ) (n:=200) (Γ:=Qj) F32 zb8 rfl rfl AX rfl AX (Ae (by decide) D9 Av) AX H0 rfl (As (sf:=(λC fs h=>by cases h;exact⟨cl_Never,na_Never⟩))) zbh
 let D32:NewX pw w (fr w) mg base "Never" DO 2 ["self","room","guard"] (DQ (fr w) ca DO Ky):=⟨_,_,mK "Never" 393 (by ext),⟨by ext,by ext,by ext,by ext⟩,K32⟩
 have E32:Cq (fr w) D32.fd ["self","room","guard"] []:=.all (Jd λ_ _ _=>rfl)
 have K33:FnOk pw w (fr w) mg base (Bk pw w) 2 _ _ ["self","room","guard","number"] (DQ (fr w) ca DN Kx):=K8 (C:=DN) (fs:=FI) (n:=200) (Γ:=Qi) F33 zaa rfl rfl AX rfl AX (Ae (by decide) D9 Av) AX H0 rfl (As (sf:=(λC fs h=>by cases h;exact⟨cl_NoSooner,na_NoSooner⟩))) zag
 let D33:NewX pw w (fr w) mg base "NoSooner" DN 2 ["self","room","guard","number"] (DQ (fr w) ca DN Kx):=⟨_,_,mK "NoSooner" 433 (by ext),⟨by ext,by ext,by ext,by ext⟩,K33⟩
 have E33:Cq (fr w) D33.fd ["self","room","guard","number"] []:=.all (LO λ_ _ _ _=>rfl)
 have K34:FnOk pw w (fr w) mg base (Bk pw w) 1 _ _ ["self","room","number"] (DQ (fr w) ca EX Kw):=K8 (C:=EX) (fs:=Hm) (n:=200) (Γ:=Qh) F34 zau rfl rfl AX rfl AX Av AX H0 rfl (As (sf:=(λC fs h=>by cases h;exact⟨cl_Within,na_Within⟩))) zb2
 let D34:NewX pw w (fr w) mg base "Within" EX 1 ["self","room","number"] (DQ (fr w) ca EX Kw):=⟨_,_,mK "Within" 473 (by ext),⟨by ext,by ext,by ext,by ext⟩,K34⟩
 have E34:Cq (fr w) D34.fd ["self","room","number"] []:=.all (Jd λ_ _ _=>rfl)
 let D35:=BD q (f:=Qy) (o:=V3 w.params) 543 (.all (Be λ_=>rfl)) zb5 zbe (all_cons b_len AX) (Ae (by decide) D4 (Ae (by decide) D8 (Ae (by decide) D6 Av))) (As (nw:=(KH ⟨by decide,DO,D32,(AJ ⟨[],[],E32,.nil,λ_=>.nil⟩ BI)⟩ (KH ⟨by decide,DN,D33,(AJ ⟨[],[],E33,.nil,λ_=>.nil⟩ BI)⟩ (KH ⟨by decide,EX,D34,(AJ ⟨[],[],E34,.nil,λ_=>.nil⟩ BI)⟩ MO))))) (hex:=(all_cons E_NoText AX))
 let D36:=BD q (f:=RL) (o:=V0 w.params) 562 (.all (Em λ_ _=>rfl)) zf8 zh2 AX (Ae (by decide) D27 (Ae (by decide) D31 (Ae (by decide) D35 Av))) (As (xs:=(AJ ⟨kF,(AJ ⟨by rfl,by ext⟩ (AJ ⟨by rfl,by ext⟩ (AJ ⟨by rfl,by ext⟩ (AJ ⟨by rfl,by ext⟩ (AJ ⟨by rfl,by ext⟩ (AJ ⟨by rfl,by ext⟩ (AJ ⟨by rfl,by ext⟩ (AJ ⟨by rfl,by ext⟩ (AJ ⟨by rfl,by ext⟩ BI)))))))))⟩ BI)) (wd:=(AJ ⟨by decide,"_law_e",rfl,⟨D1⟩⟩ BI)))
 let D37:=BD q (f:=RS) (o:=VR w.params) 619 (.all (LO λ_ _ _ _=>rfl)) zcx zdf (all_cons b_range (all_cons b_len AX)) (Ae (by decide) D36 Av) As
 let D38:=BD q (f:=Mv) (o:=VY w.params) 576 (.all (Em λ_ _=>rfl)) zca zcn (all_cons b_str AX) Av As
 let D39:=BD q (f:=RR) (o:=VS w.params) 612 (.all (Em λ_ _=>rfl)) zcw zde (all_cons b_str AX) (Ae (by decide) D2 (Ae (by decide) D38 Av)) As
 let D40:=BD q (f:=RM) (o:=VT w.params) 605 (.all (Be λ_=>rfl)) zf9 zh3 (all_cons b_str AX) (Ae (by decide) D2 Av) As
 let D41:=BD q (f:=RN) (o:=VX w.params) 583 (.all (Em λ_ _=>rfl)) zfa zh4 (all_cons b_str AX) (Ae (by decide) D2 Av) As
 let D42:=BD q (f:=RK) (o:=VW w.params) 588 (.all (Be λ_=>rfl)) zf7 zh1 AX Av As
 let D43:=BD q (f:=RQ) (o:=VV w.params) 593 (.all (LO λ_ _ _ _=>rfl)) zds zei (all_cons b_str AX) Av As (hce:=(all_cons (by rfl) AX))
 let D44:=BD q (f:=RP) (o:=VU w.params) 598 (.all (Em λ_ _=>rfl)) zbp zc1 (all_cons b_range AX) (Ae (by decide) D2 (Ae (by decide) D41 (Ae (by decide) D38 (Ae (by decide) D43 (Ae (by decide) D42 Av))))) As
 have K45:FnOk pw w (fr w) mg base (Bk pw w) 11 T45.f T45.fd ["_law_script"] (Bv (fr w) ca NY):=YO (n:=200) (Γ:=Qg) T45.F zke rfl rfl AX rfl AX (Ae (by decide) D3 (Ae (by decide) D2 (Ae (by decide) D37 (Ae (by decide) D44 (Ae (by decide) D40 (Ae (by decide) D39 Av)))))) AX H0 rfl As zne
 exact zmj K45 λns h=>law_true ns h
theorem walk{l:PySem.W.OpenLaw}{q:Program}{loose:List Str}{XP:(Str->Option Value)->Heap->Prop}{YP:World->Heap->Prop}{d:DefRec}{K:Params->kA}(hn:l.most=some 63)(hdf:d.params.defaults=[])
  (hY:∀(w:World) (h:Heap),YP w h->(K w.params).In h)
  (F : ∀ (w : World) (mg : Str -> Option Value) (fa : Addr) (h : Heap), (K w.params).In h -> h.Ns mainGlobals mg -> mg d.name = some (.ref fa) ->
   ∃fd:FuncData,(∀(s:Shared) (u:Value),BindsTo s fd ⟨[u],[]⟩ [("_law_script",u)])/\∀base:Heap,(K w.params).In base->base.Ns mainGlobals mg->FnOk l.prog w (K w.params) mg base IG 11 fa fd ["_law_script"] (Lc (K w.params))) :
  PySem.W.WalkO q loose XP YP l.row.toRowW d [] (λf vs=>PySem.call f vs) :=
 L2.walk_of (n:=63) (k:=11) (x:="_law_script") (CX:=λ_=>IG) (sp:=λw=>Lc (K w.params)) hn (by decide) hdf ⟨rfl,by decide,by decide⟩ hY F (λ_ _ a ns hl _ hS=>⟨a,ns,rfl,hS,hl,λ_=>rfl⟩) λ_ _ _ _ _ z=>z
end Zl
open PySem PySem.W PyProof.Rows
set_option maxRecDepth 100000 in
set_option maxHeartbeats 0 in
theorem PySem.Challenge.cw_zonewalk_k84_texts_refused_holds : PySem.Challenge.rw_zonewalk_k84_texts_refused.Holds := by
 refine holds_law Zl.said λs=>?_
 refine holds_open (q:=Zl.vq) (loose:=Zl.loo) (Xt:=Hd.xt PySem.Challenge.rw_zonewalk_k84_texts_refused.row.toRowW Zl.vq) (XP:=XL Zl.vq []) (Yf:=Zl.hk.obs) (Ya:=Zl.hk.val) (YP:=Zl.hk.says) Zl.left Zl.hk.of Zl.hk.keeps (λs e=>xl_of s (Bool.and_eq_true_iff.mp e).1) XL.keeps (by rfl) (by rfl) (by rfl) (λs e=>recFacts_of (Bool.and_eq_true_iff.mp e).2) (by rfl) s (by decide +kernel) ⟨rfl,rfl,rfl,rfl,rfl,by decide +kernel⟩ ?hw ?hc
 case hw=>w_witness2
 case hc=>exact Zl.walk (l:=PySem.Challenge.rw_zonewalk_k84_texts_refused) rfl rfl (λw h Y=>kIn_of Y) λw mg fa h X G e=>Zl.all_mk X G e
end
