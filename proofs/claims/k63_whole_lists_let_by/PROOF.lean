import PyProof.Rows.All
import Wide.All
import OpenK.AllK
import Wide.FinOn
import Lean
import PyProof.EqAt
import PyProof.EqKinds
import PyProof.TupleCall
import PySem.Challenge.RW_zonewalk_k63_whole_lists_let_by
set_option compiler.extract_closed false
set_option bootstrap.genMatcherCode false
set_option linter.all false
set_option tactic.hygienic false
def Á:=@List.getElem?_eq_getElem
def À:=@List.length_map
def É:=@List.getElem?_eq_some_iff
def Æ:=@Bool.and_eq_true
def È:=@List.mem_singleton
def Í:=@List.mem_cons_of_mem
def Ï:=@List.mem_cons_self
def Î:=@List.getElem?_map
def Ó:=@PySem.Heap.get?_push_of_some
def Ä:=@Nat.le_refl
def Ç:=@PySem.Heap.lt_size
def Þ:=@List.getD_eq_getElem?_getD
def Ò:=@List.all_eq_true
def Ú:=@Option.map_eq_some_iff
def Ê:=@List.mem_map
def Ñ:=@List.mem_cons
def Û:=@Nat.lt_of_lt_of_le
def Ü:=@List.length_append
def à:=@List.mem_append_right
def å:=@List.getElem?_set_self
def Ô:=@Nat.ne_of_lt
def Ø:=@List.mem_append
def á:=@List.getElem?_set_ne
def Ù:=@Option.some.inj
def â:=@PySem.Heap.get?_push_size
def Ö:=@List.map_cons
def Õ:=@Nat.le_trans
def ß:=@List.map_append
def Ë:=@Ne.symm
def ô:=@List.getElem?_append_left
def æ:=@List.lookup_cons
def ç:=@List.getElem_mem
def è:=@List.append_nil
def ð:=@List.contains_iff_mem
def ë:=@List.size_toArray
def ã:=@Nat.lt_irrefl
def ď:=@List.findIdx?_eq_some_iff_getElem
def Ĝ:=@List.exists_cons_of_length_eq_add_one
def é:=@Int.mul_assoc
def õ:=@Bool.or_eq_false_iff
def ä:=@List.map_map
def ą:=@List.getElem?_append_right
def ñ:=@List.length_cons
def ù:=@List.mem_append_left
def ì:=@List.mem_range
def î:=@PySem.W.kia_one
def Đ:=@PyProof.Rows.callWith_type1
def ö:=@List.getElem_inj
def Ć:=@PySem.Heap.get?_update_other
def ø:=@List.any_eq_true
def þ:=@List.mem_map_of_mem
def ÿ:=@List.map_congr_left
def ú:=@List.append_assoc
def ć:=@List.getElem?_eq_none
def û:=@List.length_take
def Į:=@List.take_succ_eq_append_getElem
def ï:=@Nat.succ.inj
def Ĉ:=@Int.toNat_natCast
def ĉ:=@PySem.mem_of_lookup
def ü:=@List.mem_filter
def Ā:=@List.length_set
def į:=@Int.mul_le_mul_of_nonneg_right
def ĝ:=@Option.bind_eq_some_iff
def Ċ:=@Option.map_some
def ò:=@Nat.zero_le
def Ğ:=@Int.fmod_nonneg_of_pos
def İ:=@Array.getElem?_eq_some_iff
def ċ:=@Nat.lt_succ_self
def đ:=@List.not_mem_nil
def Č:=@Option.bind_some
def Ē:=@List.mem_filterMap
def ı:=@List.drop_eq_getElem_cons
def Ĳ:=@Array.getElem?_eq_getElem
def ğ:=@Bool.and_eq_true_iff
def ł:=@List.getElem?_cons_succ
def Ġ:=@PySem.W.hideAll_get
def ē:=@List.take_length
def Ĕ:=@List.mem_flatMap
def ġ:=@Bool.false_ne_true
def ā:=@Int.mul_comm
def Ģ:=@List.zip_cons_cons
def ĕ:=@Bool.or_eq_true
def ģ:=@List.length_nil
def Ĥ:=@Nat.lt_succ_of_lt
def ĥ:=@List.length_range
def ĳ:=@List.mem_of_getElem?
def Ė:=@PySem.Heap.size_push
def Ń:=@Option.isSome_iff_exists
def Ħ:=@Nat.le_add_right
def ń:=@PySem.F.slot_str_getitem
def Ņ:=@PySem.F.plainAttrs_list
def ė:=@List.any_cons
def Ĵ:=@PySem.W.of_hideAll
def ņ:=@Bool.false_eq_true
def Ň:=@PyProof.Rows.boot_list
def ĵ:=@Bool.false_and
def ň:=@List.length_replicate
def ŉ:=@PySem.Heap.get?_update_self
def Ŋ:=@List.length_singleton
def ŋ:=@List.length_filter_le
def Ō:=@List.mem_iff_getElem
def Ķ:=@List.getElem_map
def ō:=@List.mem_of_getLast?
def Š:=@PySem.F.excBase_ValueError
def ķ:=@Bool.false_or
def Ę:=@Nat.le_succ
def Ŏ:=@List.length_reverse
def ĸ:=@List.nodup_cons
def ŏ:=@List.nil_append
def Ĺ:=@Int.emod_two_eq
def š:=@List.mem_of_find?_eq_some
def Ţ:=@List.mem_take_iff_getElem
def ħ:=@Nat.succ_pos
def Ĩ:=@Nat.lt_trans
def ĩ:=@Int.le_of_lt
def ţ:=@List.getElem?_take_of_lt
def Ő:=@Int.fmod_lt_of_pos
def ő:=@PySem.Obj.data_mapFields
def Œ:=@PySem.W.callWith_K
def œ:=@List.contains_cons
def Ŕ:=@List.getElem?_drop
def Ī:=@PySem.F.called_set
def Ť:=@List.getElem?_replicate
def ť:=@PyProof.Rows.F.plain_set_update_loop
def ſ:=@Int.mul_nonpos_of_nonpos_of_nonneg
def Ŧ:=@Option.some.injEq
def ŧ:=@PyProof.V.reads_dictOf
def Ũ:=@PySem.SeqAt.notIn_list_reads
def ũ:=@List.cons_append
def ŕ:=@Option.getD_some
def Α:=@List.flatten_replicate_singleton
def Ū:=@PySem.Obj.isFreed_of_fields
def ū:=@List.getElem?_reverse
def ĺ:=@Int.lt_trans
def Ŭ:=@PySem.W.hideAll_none
def Ļ:=@Int.lt_or_le
def Ŗ:=@Int.natCast_pos
def ŭ:=@PySem.W.plainGet_of
def Ů:=@PySem.SeqAt.in_list_reads
def ů:=@List.getElem?_range
def Ű:=@List.getD_cons_succ
def ű:=@List.getD_cons_zero
def ļ:=@Int.mul_one
def Ľ:=@Int.le_refl
def Ų:=@Int.lt_of_lt_of_le
def ų:=@List.findIdx?_cons
def ŗ:=@PySem.Paired.length
def Ŵ:=@Bool.not_true
def ŵ:=@PySem.W.kitx_list
def Ŷ:=@PySem.W.kitx_dict
def ŷ:=@Bool.not_eq_true'
def Ÿ:=@List.ext_getElem?
def Ź:=@Nat.succ_le_succ
def Ř:=@Nat.le_of_lt
def ř:=@List.all_map
def Ś:=@PySem.Txt.slice_le
def ź:=@List.filter_cons
def Ż:=@List.mem_reverse
def Ý:=@decide_eq_false
def ê:=@PySem.wpAny_mono
def Ă:=@PySem.wpAny_truthy_bool
def ľ:=@PySem.wpAny_execs_nil
def Â:=@PySem.wpAny_bind
def ă:=@PySem.wpAny_holding
def ś:=@PySem.wpAny_standAt
def ę:=@PySem.wpAny_passesOwn
def Ð:=@PySem.wpAny_pure
def ż:=@PySem.wpAny_pyIter_list
def č:=@PySem.sizeLine_eq
def ī:=@PySem.wpAny_Call_Name_kw
def Ĭ:=@PySem.typeIs_str
def Å:=@if_true
def Ŀ:=@PySem.call_meets
def Ě:=@PySem.codeAny_mono
def Ì:=@decide_eq_true
def Ŝ:=@PySem.wpAny_setField
def Ď:=@PySem.wpAny_field
def ŀ:=@PySem.wpAny_call
def Ł:=@beq_iff_eq
def ó:=@decide_eq_true_eq
def ě:=@or_false
def Ą:=@beq_self_eq_true
def ŝ:=@PySem.pushCells_keeps
def í:=@of_decide_eq_true
def Ã:=@if_false
def ý:=@PySem.wpAny_ite_false
def ĭ:=@PySem.wpAny_of_eq
def Ž:=@PySem.wpAny_isInstance
def Ş:=@PySem.wpAny_getItem_str_slice
def ş:=@PySem.post_val_or_str
def ž:=@not_false_eq_true
noncomputable section
abbrev ke:=List<|PySem.Str×List Int
abbrev kh:=List<|Nat×Nat
abbrev ki:=List PySem.Value
abbrev kj:=Option Int
abbrev ku:=List PySem.Expr
abbrev kx:=List PySem.Stmt
abbrev ky:=List PySem.Str
abbrev kz:=List Int
abbrev qA:=List Nat
local macro_rules|`(tactic|ext)=>`(tactic|kernel_rfl)
local macro_rules|`(tactic|change $e = $x)=>`(tactic|generalize $e = $(⟨x.raw⟩):ident at *)
set_option hygiene false
local macro_rules|`(tactic|symm)=>`(tactic|exact q.elim)
set_option hygiene true
def rcp:Nat->Lean.Syntax->Lean.MacroM (Lean.TSyntax `rcasesPat)
 |n+1,t=>do if t.getKind==`Lean.Parser.Term.tuple then let l<-((t[1][0]::t[1][2].getSepArgs.toList).toArray.mapM (rcp n));`(rcasesPat|⟨$l,*⟩) else if t.isIdent then `(rcasesPat|$(⟨t⟩):ident) else `(rcasesPat|_)
 |ϊ,ϋ=>Lean.Macro.throwUnsupported
theorem hld{g:Prop}(h:∀G:Prop,(g->G)->G):g:=h g id
local macro_rules
  |`(tactic|let $p:term $[:$t]? := $e)=>do
    if p.raw.getKind != `Lean.Parser.Term.tuple then Lean.Macro.throwUnsupported
    let q<-rcp 20 p.raw
    if p.raw[1][2].getSepArgs.size>1 then `(tactic|(refine hld fun G k=>?_;obtain $q:rcasesPat $[:$t]? := $e;refine k ?_;try clear k G)) else `(tactic|obtain $q:rcasesPat $[:$t]? := $e)
local macro_rules(kind:=Lean.Parser.Command.declaration)|s=>do
  let d:=s[1];let k:=d.getKind;let m:=s[0];let t:=s.setArg 1 (d.setArg 0 (.atom .none d[0].getAtomVal))
  if m[4].getNumArgs != 0||(d[0].getHeadInfo matches .none) then Lean.Macro.throwUnsupported
  if k==`Lean.Parser.Command.definition&&(d[3][1].getKind==`Lean.Parser.Term.byTactic||[`«term_=_»,`«term_∧_»,`«term_∨_»,`«term∃_,_»,`«term_≤_»,`«term_<_»,`«term_<->_»,`«term_↔_»,`«term_≠_»,`«term_∈_»,`Lean.Parser.Term.forall].contains d[2][1][0][1].getKind) then return s.setArg 1 (.node .none `Lean.Parser.Command.theorem #[.atom .none "theorem",d[1],.node .none `Lean.Parser.Command.declSig #[d[2][0],d[2][1][0]],d[3]])
  else if k==`Lean.Parser.Command.definition||k==`Lean.Parser.Command.abbrev then return t.setArg 0 (m.setArg 4 (Lean.mkNullNode #[.node .none `Lean.Parser.Command.noncomputable #[.atom .none "noncomputable"]]))
  else if k==`Lean.Parser.Command.theorem then return t else Lean.Macro.throwUnsupported
local macro_rules|`({$x:term,*})=>`(⟨$x,*⟩)
local macro_rules|`(↑$x:term)=>`(some $x)
local macro_rules|`(tactic|erw [$rs,*] $[$l:location]?)=>do let ts:=rs.getElems.map fun r=>(⟨r.raw[1]⟩:Lean.TSyntax `term);`(tactic|simp only [$[$ts:term],*] $[$l]?)
abbrev q9:=PySem.W.Frag
set_option Elab.async false
set_option linter.all false
set_option maxRecDepth 100000
set_option genSizeOf false
set_option genInjectivity false
local macro_rules
  |`(tactic| lia)=>`(tactic| first
    |assumption
    |exact Õ (by assumption) (by decide +kernel)
    |exact Û (by assumption) (by decide +kernel)
    |exact Nat.lt_of_le_of_lt (by assumption) (by decide +kernel)
    |exact ħ _
    |exact Û (by assumption) (Ź (Õ (by assumption) (by decide +kernel)))
    |exact Ź (Õ (by assumption) (by decide +kernel))
    |exact Ĩ (by assumption) (by assumption)
    |exact Û (by assumption) (by assumption)
    |exact ĺ (b:=0) (by decide +kernel) (by assumption)
    |exact Ų (b:=0) (by decide +kernel) (by assumption)
    |exact Int.lt_of_le_of_lt (by assumption) (by decide +kernel)
    |exact Int.le_trans (by assumption) (by decide +kernel)
    |exact ĩ (by assumption)
    |exact Int.ne_of_gt (by assumption)
    |lia +clean
    |fail)
def Zl.said:PySem.Challenge.rw_zonewalk_k63_whole_lists_let_by.wellSaid=true:=(congrFun PySem.W.Fast.te9446332074065402090 _).trans<|by ext
namespace L2
open PySem PySem.Spec PyProof.Rows
abbrev Key:=Sum Int Str
def Hk:Key->Value->Bool
 |.inl k,v=>Value.isInt k v|.inr x,v=>Value.isStrOf x v
def keyH(w:World):Key->Int
 |.inl k=>hashInt k|.inr x=>hashStr w x
def Fj:∀{k} {v},Hk k v=true->(∃i t,k=Sum.inl i/\v=Value.int i t)\/(∃x t,k=Sum.inr x/\v=Value.str x t)
 |.inl i,v,h=>by
  let(t,e):=Value.isInt_shape h;grind
 |.inr x,v,h=>by
  let(t,e):=Value.isStrOf_shape h;grind
def Β(i)(t):Hk (.inl i) (.int i t)=true:=by simp[Hk,Value.isInt]
def Δ(x)(t):Hk (.inr x) (.str x t)=true:=by simp[Hk,Value.isStrOf]
def Ε(a b:Int):decide ((Sum.inl a:Key)=Sum.inl b)=(a == b):=by
 grind
def Ζ(a b:Str):decide ((Sum.inr a:Key)=Sum.inr b)=decide (a=b):=by
 simp
def Η(a:Int)(b:Str):decide (Sum.inl a=Sum.inr b)=false:=Ý<|λq=>nomatch q
def Θ(a:Str)(b:Int):decide (Sum.inr a=Sum.inl b)=false:=Ý<|λq=>nomatch q
def Dl(prog:Program)(w:World):PySem.KeyKind prog w Key where
 is:=Hk
 hash:=keyH w
 inj:=λv a b g f=>by
  rcases Fj g with ⟨i,t,rfl,rfl⟩|⟨x,t,rfl,rfl⟩;rcases Fj f with ⟨j,u,rfl,e⟩|⟨y,u,rfl,e⟩;injection e with c _;rw[c];exact nomatch e;rcases Fj f with ⟨j,u,rfl,e⟩|⟨y,u,rfl,e⟩;exact nomatch e;injection e with c _;rw[c]
 byValue:=λk v h=>by
  rcases Fj h with ⟨i,t,rfl,rfl⟩|⟨x,t,rfl,rfl⟩<;>rfl
 pyHash:=λd h=>by
  rcases Fj d with ⟨i,t,rfl,rfl⟩|⟨x,t,rfl,rfl⟩;exact wpAny_pyHash_int h;exact wpAny_pyHash_str h
 eqBool:=λl d h=>by
  rcases Fj l with ⟨i,t,rfl,rfl⟩|⟨x,t,rfl,rfl⟩;rcases Fj d with ⟨j,u,rfl,rfl⟩|⟨y,u,rfl,rfl⟩;rw[Ε]at h;exact wpAny_eqBool_int h;rw[Η]at h;exact SeqAt.EqAt.int_str i t y u _ _ _ _ h;rcases Fj d with ⟨j,u,rfl,rfl⟩|⟨y,u,rfl,rfl⟩;rw[Θ]at h;exact SeqAt.EqAt.str_int x t j u _ _ _ _ h;rw[Ζ]at h;exact wpAny_eqBool_str h
 «strs»:=λk x t v h=>by
  rcases Fj h with ⟨i,u,rfl,e⟩|⟨y,u,rfl,e⟩;exact nomatch e;injection e with c _;subst c;cases v<;>rfl
def Ι(prog)(w)(i)(t):(Dl prog w).is (.inl i) (.int i t)=true:=Β i t
def Κ(prog)(w)(x)(t):(Dl prog w).is (.inr x) (.str x t)=true:=Δ x t
set_option genInjectivity true in
inductive V where
 |non|bl (b:Bool)|int (i:Int)|str (x:Str)|byt (b:Array UInt8)|flt (b:UInt64)|ref (a:Addr)|ty (n:String)
 deriving DecidableEq
abbrev qE:=List V
def Ak:V->Value->Prop
 |.non,u=>u=Value.none|.bl b,u=>u=Value.bool b|.int i,u=>∃t,u=Value.int i t|.str x,u=>∃t,u=Value.str x t|.byt b,u=>∃t,u=Value.bytes b t|.flt b,u=>∃t,u=Value.float b t|.ref a,u=>u=Value.ref a|.ty n,u=>u=Value.type n
abbrev Al:qE->ki->Prop:=Paired Ak
def Al.length(r:Al xs us):xs.length=us.length:=ŗ r
def Al.get:∀{xs} {us} {i:Nat} {x},Al xs us->xs[i]?=↑x->∃u,us[i]?=↑u/\Ak x u
 |_,_,_,_,.nil,e=>by simp at e|_,_,0,_,.cons r _,e=>by grind|_,_,i+1,x,.cons _ t,e=>by
  let(u,a,b):=Al.get t<|by simpa using e
  grind
def Al.set(r:Ak x u):∀{xs} {us} (i),Al xs us->Al (xs.set i x) (us.set i u)
 |_,_,_,.nil=>.nil|_,_,0,.cons _ t=>.cons r t|_,_,i+1,.cons q t=>.cons q<|Al.set r i t
def Al.append:∀{xs ys} {us ws},Al xs us->Al ys ws->Al (xs++ys) (us++ws)
 |_,_,_,_,.nil,s=>s|_,_,_,_,.cons r t,s=>.cons r<|Al.append t s
def Al.take:∀{xs} {us} (n),Al xs us->Al (xs.take n) (us.take n)
 |_,_,0,_=>.nil|_,_,_+1,.nil=>.nil|_,_,n+1,.cons r t=>.cons r<|Al.take n t
def Al.drop:∀{xs} {us} (n),Al xs us->Al (xs.drop n) (us.drop n)
 |_,_,0,r=>r|_,_,_+1,.nil=>.nil|_,_,n+1,.cons _ t=>Al.drop n t
def Al.none_of:∀{i:Nat},Al xs us->xs[i]?=none->us[i]?=none:=λr e=>by
 have a:=r.length;grind
def E2:Option V->Option Value->Prop
 |some v,↑u=>Ak v u|none,none=>True|ϊ,ϋ=>False
def KV{κ:Type}:List (κ×V)->List (κ×Value)->Prop:=Paired λ(p:κ×V) (q:κ×Value)=>p.1=q.1/\Ak p.2 q.2
def kV:Key->V
 |.inl i=>.int i|.inr x=>.str x
set_option genInjectivity true in
inductive HO where
 |lst (xs:List V)
 |tup (xs:List V)
 |dK (kvs:List<|Key×V)|dT (kvs:List<|List Key×V)
 |set (S:Int->Bool) (n:Nat)
 |ins (C dx:Addr) (fs:List<|Str×V)
 |own (x:Addr)
 |xd (fs:List<|Str×V)
 |met (f x:Addr)
 |rng (lo hi:Int)
 |frz (o:Obj) (u:HO)
 |tbl (ps:Array Value)
 |ext (φ:Heap->Prop)
abbrev Hp:=Addr->Option HO
def upd(H:Hp)(a:Addr)(o:HO):Hp:=λb=>if b=a then ↑o else H b
def C2{H:Hp}{a:Addr}{o:HO}:upd H a o a=↑o:=by unfold upd;simp
def BF(h:b≠a):upd H a o b=H b:=by unfold upd;rw[if_neg h]
def ne_of{H:Hp}   (h:H a=↑o)(c:H b=↑u)(d:o≠u):a≠b:=by
 grind
def DB{H:Hp}(h:H a=↑o)(c:H b=none):a≠b:=by
 grind
section
variable (P:Program)(w:World)
def DH(H:Hp)(h:Heap)(a:Addr):HO->Prop
 |.lst xs=>xs.length<=sizeLine/\∃(b:ki) (n:Nat),Al xs b/\h.get? a=↑{ cls:=.type "list",data:=.seq b.toArray n }|.tup xs=>xs.length<=sizeLine/\∃b:ki,Al xs b/\IsTup h a b.toArray|.dK c=>c.length<=sizeLine/\(a == sysModules)=false/\∃k,KV c k/\h.DictOf (Dl P w) a k|.dT c=>c.length<=sizeLine/\(a == sysModules)=false/\∃xs:List (List Key×Addr×Value),
   Paired (λ(p:List Key×V) (q:List Key×Addr×Value)=>p.1=q.1/\H q.2.1=↑(.tup<|p.1.map kV)/\Ak p.2 q.2.2) c xs /\
   ∃o g l,h.get? a=↑o/\o.ExactDict/\o.data=.dict g l/\g.toList=xs.map (entryOfKey<|tupleKind<|Dl P w)/\(xs.map (·.1)).Nodup
 |.set S n=>h.SetOf (intKind P w) a S n|.ins C e fs=>H e=↑(.own a)/\fs.length<=1000/\e≠a/\h.get? a=↑(W.instObj C e) /\
   ∃d,h.Ns1 e d/\(∀f,E2 (fs.lookup f)<|d f)/\PySem.Within d (fs.map (·.1))
 |.own ϊ=>∃o,h.get? a=↑o|.xd fs=>∃d,h.Ns1 a d/\∀f,E2 (fs.lookup f) (d f)|.rng r m=>∃t u v,h.get? a=↑{ cls:=.type "range",data:=.fields #[.int r t,.int m u,.int 1 v] }|.frz o u=>h.get? a=↑o/\DH H h a u|.tbl ps=>h.get? a=↑{ cls:=.none,data:=.fields ps }|.met f x=>h.get? a=↑(W.methodObj (.ref f)<|.ref x)|.ext φ=>φ h/\(∃o,h.get? a=↑o)/\∀i j:Heap,φ i->(∀o,i.get? a=↑o->j.get? a=↑o)->φ j
def HOk(H:Hp)(h:Heap):Prop:=∀a o,H a=↑o->DH P w H h a o
end
section
variable {P:Program}{w:World}{H H':Hp}{h h':Heap}{a:Addr}{o:HO}
def DH.lt(x:DH P w H h a o):a<h.objs.size:=by
 cases o with
 |lst xs=>let(_,_,_,_,e):=x;exact Ç e
 |tup xs=>let(_,_,_,p):=x;exact p.lt
 |dK b=>let(_,_,_,_,o,_,_,e,_):=x;exact Ç e
 |dT b=>let(_,_,_,_,o,_,_,e,_):=x;exact Ç e
 |set S n=>let(o,_,_,_,e,_):=x;exact Ç e
 |ins C c fs=>let(_,_,_,e,_):=x;exact Ç e
 |own y=>let(_,e):=x;exact Ç e
 |xd fs=>let(_,(_,_,_,e,_),_):=x;exact Ç e
 |rng g d=>let(_,_,_,e):=x;exact Ç e
 |frz ob u=>let(e,_):=x;exact Ç e
 |tbl ps=>exact Ç (x)|met f y=>exact Ç (x)|ext φ=>let(_,(_,e),_):=x;exact Ç e
def Paired.mapP:∀{l₁:List α} {l₂:List β},Paired F l₁ l₂->(∀a b,F a b->G a b)->Paired G l₁ l₂
 |_,_,.nil,_=>.nil|_,_,.cons r t,f=>.cons (f _ _ r)<|Paired.mapP t f
def DH.stay(x:DH P w H h a o)(k:∀b u,(b=a\/H b=↑(.own a))->h.get? b=↑u->h'.get? b=↑u)
  (B:∀b,H b=↑(.own a)->H' b=↑(.own a)) (D:∀b xs,H b=↑(.tup xs)->H' b=↑(.tup xs)):DH P w H' h' a o:=by
 induction o with
 |lst xs=>let(z,j,n,r,e):=x;exact{z,j,n,r,k _ _ (.inl rfl) e}
 |tup xs=>let(z,j,r,ob,e,c):=x;exact{z,j,r,ob,k _ _ (.inl rfl) e,c}
 |dK l=>let(z,y,F,r,ob,i,g,e,c):=x;exact{z,y,F,r,ob,i,g,k _ _ (.inl rfl) e,c}
 |dT l=>let(z,y,xs,r,ob,i,g,e,c):=x;exact{z,y,xs,Paired.mapP r λp q z=>{z.1,D _ _ z.2.1,z.2.2},ob,i,g,k _ _ (.inl rfl) e,c}
 |set S n=>let(ob,i,g,t,e,c):=x;exact{ob,i,g,t,k _ _ (.inl rfl) e,c}
 |ins C G fs=>let(d,z,ne,e,m,(s,i,g,A,c),r):=x;exact{B _ d,z,ne,k _ _ (.inl rfl) e,m,{s,i,g,k _ _ (.inr d) A,c},r}
 |own y=>let(ob,e):=x;exact{ob,k _ _ (.inl rfl) e}
 |xd fs=>let(m,(s,i,g,e,c),r):=x;exact{m,{s,i,g,k _ _ (.inl rfl) e,c},r}
 |rng J I=>let(t,u,v,e):=x;exact{t,u,v,k _ _ (.inl rfl) e}
 |frz ob u E=>let(e,q):=x;exact{k _ _ (.inl rfl) e,E q}
 |tbl ps=>have e :=x;exact k a _ (.inl rfl) e|met f y=>have e :=x;exact k a _ (.inl rfl) e|ext φ=>let(p,(o,e),st):=x;exact{st _ _ p λo q=>k _ _ (.inl rfl) q,{o,k _ _ (.inl rfl) e},st}
def HOk.lt(x:HOk P w H h)(e:H a=↑o):a<h.objs.size:=(x a o e).lt
def HOk.fresh(x:HOk P w H h)(e:h.objs.size<=a):H a=none:=by
 cases q:H a with
 |none=>rfl|some u=>exact absurd (Û (x.lt q) e)<|ã _
theorem HOk.kept(x:HOk P w H h)(k:∀b u,h.get? b=↑u->h'.get? b=↑u):HOk P w H h':=λa o e=>
 (x a o e).stay (λb u ϊ q=>k b u q) (λϊ q=>q) λϊ ϊ q=>q
theorem HOk.laid(x:HOk P w H h)(k:∀b u,h.get? b=↑u->h'.get? b=↑u)(g:h.objs.size<=a)(new:DH P w (upd H a o) h' a o):HOk P w (upd H a o) h':=λb u e=>by
 have f:=x.fresh g;by_cases d:b=a;subst d;rw[C2]at e;grind;rw[BF d]at e;exact(x b u e).stay (λc v ϊ q=>k c v q) (λc q=>by rw[BF<|DB q f];exact q) λc xs q=>by rw[BF<|DB q f];exact q
end
def Rd(H:Hp)(a:Addr)(u:HO):Prop:=H a=↑u\/∃o,H a=↑(.frz o u)
def Rd.ok(r:Rd H a u)(x:HOk P w H h):DH P w H h a u:=by
 rcases r with r|⟨o,r⟩;exact x a u r;let(_,q):=x a _ r;exact q
def MR:Option HO->Prop
 |some (.lst ϊ)=>True|some (.dK ϊ)=>True|some (.dT ϊ)=>True|some (.set ϊ ϋ)=>True|some (.ins ϊ ϋ ό)=>True|some (.ext ϊ)=>True|ϊ=>False
section
variable {P:Program}{w:World}{H:Hp}{h h':Heap}{x e:Addr}{o':HO}
theorem HOk.write(ok:HOk P w H h)(mu:MR<|H x)(n:e=x\/H e=↑(.own x))(k:∀b u,b≠e->h.get? b=↑u->h'.get? b=↑u)(g:∃u,h'.get? e=↑u)
  (new:DH P w (upd H x o') h' x o'):HOk P w (upd H x o') h':=λb u q=>by
 have a:∀c y,H c=↑(.own y)->c≠x:=λc y r z=>by subst z;rw[r]at mu;exact mu
 have d:∀c xs,H c=↑(.tup xs)->c≠x:=λc xs r z=>by subst z;rw[r]at mu;exact mu
 by_cases i:b=x;subst i;rw[C2]at q;cases q;exact new;rw[BF i]at q;by_cases f:b=e
 have j:H b=↑(.own x):=by
  grind
 rw[q]at j;cases j;let(v,l):=g;exact{v,by rw[f];exact l}
 refine(ok b u q).stay (λc v m r=>k c v ?_ r) (λc r=>by rw[BF<|a c b r];exact r) λc xs r=>by rw[BF<|d c xs r];exact r
 grind
end
structure Un(fs ex:List Addr)(H H':Hp)(h h':Heap):Prop where
 keep:∀b o,h.get? b=↑o->H b=none->b∉fs->b∉ex->h'.get? b=↑o
 slot:∀b o,h.get? b=↑o->H b=none->b∈fs->b∉ex->∃sl,h'.get? b=↑{ o with slots:=sl }
 free:∀b o,h.get? b=↑o->H b=none->b∉ex->H' b=none
 there:∀b o,h.get? b=↑o->b∉ex->∃o',h'.get? b=↑o'
 tups:∀b xs,H b=↑(.tup xs)->H' b=↑(.tup xs)
 frzs:∀b o u,H b=↑(.frz o u)->H' b=↑(.frz o u)
 tbls:∀b ps,H b=↑(.tbl ps)->∃more,H' b=↑(.tbl<|ps++more)
section
variable {fs fs' ex ex':List Addr}{H H1 H2:Hp}{h h1 h2 h':Heap}{a x e:Addr}{o:HO}
def Un.any(u:Un fs ex H H1 h h1)(q:h.get? b=↑ob)(n:H b=none)(c:b∉ex):∃sl,h1.get? b=↑{ ob with slots:=sl}:=by
 by_cases a:b∈fs;exact u.slot b ob q n a c;exact{ob.slots,u.keep b ob q n a c}
theorem Un.kept(k:∀b u,h.get? b=↑u->h'.get? b=↑u):Un fs ex H H h h':=
 {λb ob q ϊ ϊ ϊ=>k b ob q,λb ob q ϊ ϊ ϊ=>{ob.slots,k b ob q},λϊ ϊ ϊ n ϊ=>n,λb ob q ϊ=>{ob,k b ob q},λϊ ϊ q=>q,λϊ ϊ ϊ q=>q,λϊ ps q=>{#[],by rw[q];simp}}
theorem Un.refl:Un fs ex H H h h:=Un.kept λϊ ϊ q=>q
theorem Un.laid(k:∀b u,h.get? b=↑u->h'.get? b=↑u)(d:h.objs.size<=a)(c:H a=none):Un fs ex H (upd H a o) h h' where
 keep:=λb u q ϊ ϊ ϊ=>k b u q
 slot:=λb u q ϊ ϊ ϊ=>{u.slots,k b u q}
 free:=λb u q n ϊ=>by rw[BF<|Ô<|Û (Ç q) d];exact n
 there:=λb u q ϊ=>{u,k b u q}
 tups:=λb xs q=>by rw[BF<|DB q c];exact q
 frzs:=λb u xs q=>by rw[BF<|DB q c];exact q
 tbls:=λb ps q=>{#[],by rw[BF<|DB q c,q];simp}
def Un.write(mu:MR<|H x)(g:e=x\/H e=↑(.own x))(k:∀b u,b≠e->h.get? b=↑u->h'.get? b=↑u)(d:∃u,h'.get? e=↑u):Un fs ex H (upd H x o) h h':=by
 have f:∀b,H b=none->b≠x:=λb n z=>by subst z;rw[n]at mu;exact mu
 have c:∀b,H b=none->b≠e:=λb n z=>by
  grind
 have a:∀b u,H b=↑u->¬ MR ↑u->b≠x:=λb u q nm z=>by grind
 refine{λb u q n ϊ ϊ=>k b u (c b n) q,λb u q n ϊ ϊ=>{u.slots,k b u (c b n) q},λb u q n ϊ=>by rw[BF<|f b n];exact n,λb u q ϊ=>?_,
  λb xs q=>by rw[BF<|a b _ q λz=>z];exact q,λb u xs q=>by rw[BF<|a b _ q λz=>z];exact q,λb ps q=>{#[],by rw[BF<|a b _ q λz=>z,q];simp}}
 grind
end
def Mg(h:Heap)(H:Hp):List Addr:=(List.range h.objs.size).filter λa=>(H a).isSome
def Hn(h:Heap)(H:Hp):Heap:=W.hideAll h<|Mg h H
def Λ(h)(H):(Hn h H).objs.size=h.objs.size:=W.hideAll_size _ _
def Μ(e:h.get? b=↑o)(n:H b=none):(Hn h H).get? b=↑o:=
 Ġ _ e λa=>by
  have q :=(ü.mp a).2;grind
def Ν(e:(Hn h H).get? b=↑o):h.get? b=↑o/\H b=none:=by
 have a :=Ĵ (Mg h H) e;refine{a,?_};cases q:H b with
 |none=>rfl|some x=>
  have c:b∈Mg h H:=ü.mpr {ì.mpr<|Ç a,by simp[q]};have z:(Hn h H).get? b=none:=Ŭ (Mg h H) c;grind
structure Mod(K:q9)(mg:Str->Option Value)(base:Heap):Prop where
 kin:K.In base
 glob:base.Ns mainGlobals mg
 blt:∃mb,base.Ns builtinsNs mb/\∀x:Str,x≠"__name__"->mb x=bootBuiltins x
 nolimit:base.NoLimit
structure Cx where
 prog:Program
 w:World
 K:q9
 mg:Str->Option Value
 base:Heap
 A:Around
 N:ky
 s₀:Shared
 H₀:Hp
 env:Env
 outer:List Env
 stack:List Env
 ex:List Addr
 fn:Str->Bool
 calm:Bool
 pn:List (Addr×Obj)
 xe:Value->Shared->Prop
def Bg(l:List Env):List Addr:=l.filterMap (·.frame)
abbrev Cx.fs(X:Cx):List Addr:=Bg X.outer
def DN(a:Scope)(x:Str):Prop:=a.names.lookup x=↑.local\/a.names.lookup x=↑.cell\/a.names.lookup x=↑.free
def G9(a:Scope)(x:Str):Prop:=a.names.lookup x=↑.local\/a.names.lookup x=↑.cell
def Look(env:Env)(h:Heap)(m:Str->Option Value)(x:Str)(u:Value):Prop:=
 (env.kindOf x=↑.local/\m x=↑u)\/((env.kindOf x=↑.cell\/env.kindOf x=↑.free)/\∃c,env.cells.lookup x=↑c/\h.IsCell c ↑u)
structure Cx.Ok(X:Cx):Prop where
 mod:Mod X.K X.mg X.base
 kind:X.env.scope.kind=.function
 glob:X.env.globals=mainGlobals
 blt:X.env.builtins=builtinsNs
 above:X.s₀.heap.objs.size<=X.env.locals
 inj:∀x y c,X.env.cells.lookup x=↑c->X.env.cells.lookup y=↑c->x=y
 has:∀x,(X.env.kindOf x=↑.cell\/X.env.kindOf x=↑.free)->∃c,X.env.cells.lookup x=↑c
 cab:∀x c,X.fn x=true->X.env.cells.lookup x=↑c->X.s₀.heap.objs.size<=c
 hd:X.calm=true->X.A.handled=none
 frames:X.A.frames=↑X.stack
 stk:X.stack=X.outer\/(X.stack=X.env::X.outer/\X.env.frame=↑X.env.locals)
 exf:∀b∈X.ex,b≠X.env.locals/\∀x c,X.env.cells.lookup x=↑c->c≠b
 bs:∀b o,X.base.get? b=↑o->X.s₀.heap.get? b=↑o/\X.H₀ b=none
 bsz:X.base.objs.size<=X.s₀.heap.objs.size
 noex:∀b o,X.base.get? b=↑o->b∉X.ex
 exfs:∀b∈X.ex,b∉X.fs
 funs:X.s₀.heap.FunFrames X.base X.outer
 frf:∀b∈X.fs,X.H₀ b=none
structure Inv(X:Cx)(pz:List<|Addr×Obj)(O:List<|Option V)(H:Hp)(s:Shared):Prop where
 ok:X.Ok
 os:s.os=X.s₀.os
 bare:AllBare s.gens
 base:Un X.fs X.ex X.H₀ H X.s₀.heap s.heap
 loc:∃m,s.heap.Ns X.env.locals m/\∀(i:Nat) (x:Str) (v:V),X.N[i]?=↑x->O[i]?=↑↑v->DN X.env.scope x->∃u,Ak v u/\Look X.env s.heap m x u
 cell:∀x c,X.env.cells.lookup x=↑c->∃v,s.heap.IsCell c v
 free:H X.env.locals=none
 freeC:∀x c,X.env.cells.lookup x=↑c->H c=none
 pin:∀p∈X.pn++pz,s.heap.get? p.1=↑p.2/\H p.1=none/\p.1≠X.env.locals/\p.1∉X.fs/\∀v,p.2.data≠.cell v
 hok:HOk X.prog X.w H s.heap
 len:O.length=X.N.length
section
variable {X:Cx}{pz:List<|Addr×Obj}{O:List<|Option V}{H H':Hp}{s:Shared}{h':Heap}
theorem Cx.Ok.nofr(ok:X.Ok)(e:X.base.get? b=↑o):b∉X.fs:=λa=>by
 have:=(ok.funs.mem a).1;grind
def Inv.bs(I:Inv X pz O H s):∀b o,X.base.get? b=↑o->s.heap.get? b=↑o/\H b=none:=λb o e=>
 {I.base.keep b o (I.ok.bs b o e).1 (I.ok.bs b o e).2 (I.ok.nofr e) (I.ok.noex b o e),I.base.free b o (I.ok.bs b o e).1 (I.ok.bs b o e).2 (I.ok.noex b o e)}
def Inv.bk(I:Inv X pz O H s):∀b o,X.base.get? b=↑o->s.heap.get? b=↑o:=λb o e=>(I.bs b o e).1
theorem Inv.mod(I:Inv X pz O H s):Mod X.K X.mg X.base:=I.ok.mod
theorem Inv.kIn(I:Inv X pz O H s):X.K.In s.heap:=I.ok.mod.kin.keeps I.bk
def Inv.lt(I:Inv X pz O H s):X.env.locals<s.heap.objs.size:=let ⟨_,hn,_⟩:=I.loc;hn.lt
def Inv.sz(I:Inv X pz O H s):X.s₀.heap.objs.size<=s.heap.objs.size:=Õ I.ok.above<|Ř I.lt
theorem Inv.nofs(I:Inv X pz O H s){a:Addr}(h:s.heap.objs.size<=a):a∉X.fs:=λb=>by
 let(_,o,c,_):=I.ok.funs.mem b;exact absurd (Û (Ç c)<|Õ I.sz h)<|ã _
def Inv.cne(I:Inv X pz O H s):∀x c,X.env.cells.lookup x=↑c->c≠X.env.locals:=λx c e z=>by
 let(v,o,g,hd):=I.cell x c e;let(m,(h,f,d,b,a,_),_):=I.loc
 grind
def Inv.funs(I:Inv X pz O H s):s.heap.FunFrames X.base X.outer:=by
 have all:∀(l ),(∀b∈Bg l,b∈X.fs)->X.s₀.heap.FunFrames X.base l->s.heap.FunFrames X.base l:=by
  intro l
  induction l with
  |nil=>intro _ _;trivial|cons env r k=>
   intro f g;let(hk,(L,o,d,h,i,hd),j):=g;have a :=f L (by unfold Bg;grind)
   let(m,e):=I.base.slot L o i (I.ok.frf L a) a λz=>I.ok.exfs L z a;exact{hk,{L,_,d,h,e,hd},k (λb c=>f b (by unfold Bg;rw[List.filterMap_cons,d];exact Í _ c)) j}
 exact all X.outer (λϊ c=>c) I.ok.funs
def Inv.stack(I:Inv X pz O H s):s.heap.FunFrames X.base X.stack:=by
 rcases I.ok.stk with e|⟨e,a⟩;rw[e];exact I.funs;rw[e];let(m,b,_):=I.loc;refine .cons (by rw[I.ok.kind];decide) a b ?_ I.funs
 exact Heap.get?_none_of_le<|Õ I.ok.bsz I.ok.above
def Inv.stkSub(I:Inv X pz O H s):∀b∈Bg X.stack,b∈X.env.locals::X.fs:=λb a=>by
 rcases I.ok.stk with e|⟨e,c⟩;grind;rw[e]at a;unfold Bg at a;rw[List.filterMap_cons,c]at a;exact a
def Inv.stkFree(I:Inv X pz O H s):∀b∈Bg X.stack,H b=none:=λb a=>by
 rcases Ñ.mp (I.stkSub b a) with e|a;rw[e];exact I.free;let(_,o,c,_):=I.ok.funs.mem a;exact I.base.free b o c (I.ok.frf b a) λz=>I.ok.exfs b z a
def Inv.step{t':Nat}{d':Drawn}{ch:List Addr}(I:Inv X pz O H s)
  (g:∀b∈ch,(b∈X.ex\/X.s₀.heap.objs.size<=b)/\b≠X.env.locals/\(∀x c,X.env.cells.lookup x=↑c->c≠b)/\∀p∈X.pn++pz,p.1≠b)
  (keep:∀b o,b≠X.env.locals->b∉X.fs->b∉ch->s.heap.get? b=↑o->H b=none->h'.get? b=↑o)
  (slot:∀b o,b≠X.env.locals->b∈X.fs->b∉ch->s.heap.get? b=↑o->H b=none->∃sl,h'.get? b=↑{ o with slots:=sl }) (free:∀b o,b∉ch->s.heap.get? b=↑o->H b=none->H' b=none)
  (there:∀b o,b∉ch->s.heap.get? b=↑o->∃o',h'.get? b=↑o')
  (tups:∀b xs,H b=↑(.tup xs)->H' b=↑(.tup xs)) (frzs:∀b o u,H b=↑(.frz o u)->H' b=↑(.frz o u)) (tbls:∀b ps,H b=↑(.tbl ps)->∃more,H' b=↑(.tbl<|ps++more))
  (ns:∀m,s.heap.Ns X.env.locals m->h'.Ns X.env.locals m) (hok:HOk X.prog X.w H' h') (G:AllBare g') :
  Inv X pz O H' { s with heap:=h',gens:=g',drawn:=d',toks:=t' }:=by
 have B:∀b o,X.s₀.heap.get? b=↑o->b≠X.env.locals:=λb o e=>Ô<|Û (Ç e) I.ok.above
 have t:∀b o,X.s₀.heap.get? b=↑o->b∉X.ex->b∉ch:=λb o e a w=>by
  rcases(g b w).1 with z|z;exact a z;exact absurd (Û (Ç e) z)<|ã _
 have f:∀x c,X.env.cells.lookup x=↑c->∀v,s.heap.IsCell c v->h'.IsCell c v:=λx c e v ⟨o,y,hd⟩=>by
  have h :=λz=>(g c z).2.2.1 x c e rfl;by_cases D:c∈X.fs;let(sl,q):=slot c o (I.cne x c e) D h y<|I.freeC x c e;exact{_,q,hd}
  exact{o,keep c o (I.cne x c e) D h y<|I.freeC x c e,hd}
 refine{I.ok,I.os,G,{λb o e n w a=>?_,λb o e n w a=>?_,λb o e n a=>?_,λb o e a=>?_,λb xs e=>tups b xs<|I.base.tups b xs e,λb o xs e=>frzs b o xs<|I.base.frzs b o xs e,λb ps e=>?_},?_,λx c e=>?_,?_,λx c e=>?_,λp E=>?_,hok,I.len};exact keep b o (B b o e) w (t b o e a) (I.base.keep b o e n w a)<|I.base.free b o e n a
 let(sl,j):=I.base.slot b o e n w a;let(C,A):=slot b _ (B b o e) w (t b o e a) j<|I.base.free b o e n a;exact{(C),A}
 let(o',j):=I.base.there b o e a;exact free b o' (t b o e a) j<|I.base.free b o e n a
 let(o',j):=I.base.there b o e a;exact there b o' (t b o e a) j;let(m1,j):=I.base.tbls b ps e;let(m2,A):=tbls b _ j;exact{m1++m2,by rw[A,Array.append_assoc]}
 let(m,K,J):=I.loc;refine{m,ns m K,λi x v j A F=>?_};let(u,r,l):=J i x v j A F;refine{u,r,?_};rcases l with l|⟨k,c,e,z⟩;exact .inl l;exact .inr {k,c,e,f x c e _ z};let(v,z):=I.cell x c e;exact{v,f x c e v z};let(m,(o,_,_,y,_),_):=I.loc;exact free _ o (λz=>(g _ z).2.1 rfl) y I.free;let(v,o,y,hd):=I.cell x c e;exact free c o (λz=>(g c z).2.2.1 x c e rfl) y<|I.freeC x c e
 let(e,n,ne,nf,d):=I.pin p E;have h :=λz=>(g p.1 z).2.2.2 p E rfl
 exact{keep p.1 p.2 ne nf h e n,free p.1 p.2 h e n,ne,nf,d}
def Inv.un(I:Inv X pz O H s)(u:Un X.fs [] H H' s.heap h')(hok:HOk X.prog X.w H' h'):Inv X pz O H' { s with heap:=h',toks:=t' }:=by
 let(m,(o,l,k,g,r),_):=id I.loc;let(t,h):=u.any g I.free<|by simp
 exact I.step (ch:=[]) (λϊ z=>nomatch z) (λb o ϊ f ϊ e n=>u.keep b o e n f<|by simp) (λb o ϊ f ϊ e n=>u.slot b o e n f<|by simp) (λb o ϊ e n=>u.free b o e n<|by simp) (λb o ϊ e=>u.there b o e<|by simp) u.tups u.frzs u.tbls (λp i=>by
  let(q,d,c,a,j):=i;rw[g]at a;cases a;exact{_,d,c,h,j}) hok I.bare
def Inv.call(I:Inv X pz O H s)(u:Un (Bg X.stack) ch H H' s.heap h')(hok:HOk X.prog X.w H' h')(l:AllBare g')
  (d:∀b∈ch,(b∈X.ex\/X.s₀.heap.objs.size<=b)/\b≠X.env.locals/\(∀x c,X.env.cells.lookup x=↑c->c≠b)/\∀p∈X.pn++pz,p.1≠b) :
  Inv X pz O H' { s with heap:=h',gens:=g',drawn:=d',toks:=t' }:=by
 let(m,(o,w,v,j,r),_):=id I.loc;let(B,i):=u.any j I.free λz=>(d _ z).2.1 rfl
 exact I.step d (λb o i k a e n=>u.keep b o e n (λz=>(Ñ.mp<|I.stkSub b z).elim i k) a) (λb o ϊ ϊ a e n=>u.any e n a) (λb o a e n=>u.free b o e n a) (λb o a e=>u.there b o e a) u.tups u.frzs u.tbls (λy q=>by
  let(A,h,g,f,t):=q;rw[j]at f;cases f;exact{_,h,g,i,t}) hok l
def Inv.turned(I:Inv X pz O H s)(k:∀b o,b≠it->s.heap.get? b=↑o->h'.get? b=↑o)(y:H it=none)(g:it≠X.env.locals)
  (j:it∈X.ex\/X.s₀.heap.objs.size<=it) (l:∀x c,X.env.cells.lookup x=↑c->c≠it) (t:∀p∈X.pn++pz,p.1≠it):Inv X pz O H { s with heap:=h',toks:=t' }:=by
 refine I.step (ch:=[it]) (λb w=>?_) (λb o ϊ ϊ a e ϊ=>k b o (λz=>a<|by simp[z]) e) (λb o ϊ ϊ a e ϊ=>{o.slots,k b o (λz=>a<|by simp[z]) e}) (λϊ ϊ ϊ ϊ n=>n)
  (λb o a e=>{o,k b o (λz=>a<|by simp[z]) e}) (λϊ ϊ e=>e) (λϊ ϊ ϊ e=>e) (λb ps e=>{#[],by rw[e];simp}) (λm h=>?_) (λb u e=>?_) I.bare
 grind;let(o,f,d,i,r):=h;exact{o,f,d,k _ o (Ë g) i,r};refine(I.hok b u e).stay (λc v a q=>k c v ?_ q) (λϊ q=>q) λϊ ϊ q=>q;grind
theorem Inv.tok(I:Inv X pz O H s)(t):Inv X pz O H { s with toks:=t}:=I.un Un.refl I.hok
theorem Inv.kept(I:Inv X pz O H s)(k:∀b u,s.heap.get? b=↑u->h'.get? b=↑u):Inv X pz O H { s with heap:=h',toks:=t' }:=I.un (Un.kept k)<|I.hok.kept k
theorem Inv.laid{a:Addr}   (I:Inv X pz O H s)(k:∀b u,s.heap.get? b=↑u->h'.get? b=↑u)(c:s.heap.objs.size<=a)(new:DH X.prog X.w (upd H a o) h' a o) :
  Inv X pz O (upd H a o) { s with heap:=h',toks:=t' }:=I.un (Un.laid k c<|I.hok.fresh c)<|I.hok.laid k c new
theorem Inv.write(I:Inv X pz O H s)(mu:MR<|H x)(c:e=x\/H e=↑(.own x))(k:∀b u,b≠e->s.heap.get? b=↑u->h'.get? b=↑u)(a:∃u,h'.get? e=↑u)
  (new:DH X.prog X.w (upd H x o) h' x o):Inv X pz O (upd H x o) { s with heap:=h',toks:=t' }:=I.un (Un.write mu c k a)<|I.hok.write mu c k a new
theorem Inv.pins_of(I:Inv X pz O H s)(h:∀p∈pins',s.heap.get? p.1=↑p.2/\H p.1=none/\p.1≠X.env.locals/\p.1∉X.fs/\∀v,p.2.data≠.cell v):Inv X pins' O H s:=
 {I.ok,I.os,I.bare,I.base,I.loc,I.cell,I.free,I.freeC,λp a=>(Ø.mp a).elim (λz=>I.pin p<|ù _ z) (h p),I.hok,I.len}
def c8{N:ky}(e:N.Nodup){i j:Nat}(a:N[i]?=↑x)(b:N[j]?=↑x):i=j:=by
 let(f,c):=É.mp a;let(g,d):=É.mp b;exact(ö e).mp (c.trans d.symm)
def YG(I:Inv X pz O H s)(hN:X.N.Nodup)(R:X.N[i]?=↑x)(w:G9 X.env.scope x)(r:Ak v u)
  (h:∀s',Inv X pz (O.set i ↑v) H s'->(∃a,Heap.SameBut a s.heap s'.heap/\(a=X.env.locals\/X.env.cells.lookup x=↑a))->Q () s') (hf:X.fn x=true\/X.env.scope.names.lookup x=↑.local:=by first|exact .inl rfl|exact .inr rfl|assumption):wpAny M A (storeName X.env x u) Q E s:=by
 let(m,Y,hl):=id I.loc;have P:(X.env.scope.kind == .class || (X.env.scope.kind == .module && X.env.locals != X.env.globals))=false:=by rw[I.ok.kind];rfl
 have D:i<O.length:=by rw[I.len];exact(É.mp R).1
 have cne:=I.cne
 have l:∀{a } {K },(∃o,s.heap.get? a=↑o/\H a=none)->Heap.SameBut a s.heap K->HOk X.prog X.w H K:=fun  ha f b ob e=>by
  let(_,_,B):=ha;refine(I.hok b ob e).stay (λc V t q=>(f.2 c ?_).trans q) (λϊ q=>q) λϊ ϊ q=>q;rintro rfl;rcases t with rfl|t;rw[B]at e;cases e;rw[B]at t;cases t
 rcases w with hk|hk;refine wpAny_storeName_local hk Y (λK Z f=>?_) P;let(oL,_,_,hoL,_):=id Y;refine h _ {I.ok,I.os,I.bare,{λb o e n F w=>?_,λb o e n F w=>?_,I.base.free,λb o e w=>?_,I.base.tups,I.base.frzs,I.base.tbls},{_,Z,λj y v' g C W=>?_},λy c e=>?_,I.free,I.freeC,λp hp=>?_,l {(oL),hoL,I.free} f,by simpa using I.len} {_,f,.inl rfl};exact(f.2 b<|Ô<|Û (Ç e) I.ok.above).trans (I.base.keep b o e n F w);let(sl,g):=I.base.slot b o e n F w;exact{sl,(f.2 b<|Ô<|Û (Ç e) I.ok.above).trans g};let(o',g):=I.base.there b o e w;exact{o',(f.2 b<|Ô<|Û (Ç e) I.ok.above).trans g};by_cases J:j=i;subst J;rw[R]at g;cases g;rw[å D]at C;cases C;exact{u,r,.inl {hk,by simp}};rw[á<|Ë J]at C;let(u',r',q):=hl j y v' g C W;refine{u',r',?_}
 rcases q with ⟨k,e⟩|⟨k,c,e,z⟩;refine .inl {k,?_};have:y≠x:=λe=>J<|c8 hN g<|e▸R
 simp[this,e];exact .inr {k,c,e,z.sameBut f<|cne y c e};let(V,z):=I.cell y c e;exact{V,z.sameBut f<|cne y c e};let(e,n,ne,nf,d):=I.pin p hp;exact{(f.2 p.1 ne).trans e,n,ne,nf,d}
 have G:X.fn x=true:=by
  rcases hf with z|z;exact z;rw[z]at hk;cases hk
 let(c,t):=I.ok.has x<|.inl hk;let(V,z):=I.cell x c t;refine wpAny_storeName_cell I.ok.kind hk t z<|λK L f=>?_
 let(oc,S,T):=id z;refine h { s with heap:=K } {I.ok,I.os,I.bare,{λb o e n F w=>?_,λb o e n F w=>?_,I.base.free,λb o e w=>?_,I.base.tups,I.base.frzs,I.base.tbls},{m,Y.sameBut f<|Ë<|cne x c t,λj y v' g C W=>?_},λy U e=>?_,I.free,I.freeC,λp hp=>?_,l {oc,S,I.freeC x c t} f,by simpa using I.len} {c,f,.inr t};exact(f.2 b<|Ô<|Û (Ç e)<|I.ok.cab x c G t).trans (I.base.keep b o e n F w);let(sl,g):=I.base.slot b o e n F w;exact{sl,(f.2 b<|Ô<|Û (Ç e)<|I.ok.cab x c G t).trans g};let(o',g):=I.base.there b o e w;exact{o',(f.2 b<|Ô<|Û (Ç e)<|I.ok.cab x c G t).trans g};by_cases J:j=i;subst J;rw[R]at g;cases g;rw[å D]at C;cases C;exact{u,r,.inr {.inl hk,c,t,L}};rw[á<|Ë J]at C;let(u',r',q):=hl j y v' g C W;refine{u',r',?_}
 rcases q with q|⟨k,U,e,z'⟩;exact .inl q;refine .inr {k,U,e,z'.sameBut f ?_};rintro rfl;exact J<|c8 hN g<|I.ok.inj _ _ _ e t▸R
 by_cases N:U=c;subst N;exact{_,L};let(w2,z2):=I.cell y U e;exact{w2,z2.sameBut f N};let(e,n,ne,nf,d):=I.pin p hp;refine{(f.2 p.1 ?_).trans e,n,ne,nf,d};intro q;rw[q,S]at e;have q' :=Ù e;exact d V (by rw[<- q'];exact T)
theorem Q7(I:Inv X pz O H s)(b:X.N.Nodup)(d:X.N[i]?=↑x)(e:G9 X.env.scope x)(r:Ak v u)
  (h:∀s',Inv X pz (O.set i ↑v) H s'->Q () s') (c:X.fn x=true\/X.env.scope.names.lookup x=↑.local):wpAny M A (storeName X.env x u) Q E s:=
 YG I b d e r (λs' a ϊ=>h s' a) c
def Inv.call'(I:Inv X pz O H s)(f:s'.os=s.os)(u:Un (Bg X.stack) ch H H' s.heap s'.heap)(hok:HOk X.prog X.w H' s'.heap)(d:AllBare s'.gens)
  (a:∀b∈ch,(b∈X.ex\/X.s₀.heap.objs.size<=b)/\b≠X.env.locals/\(∀x c,X.env.cells.lookup x=↑c->c≠b)/\∀p∈X.pn++pz,p.1≠b):Inv X pz O H' s':=by
 let(i,h,g,k,j):=s';have e :=f;subst e;exact I.call u hok d a
end
abbrev XK:=Value->Option Addr->Hp->Prop
abbrev St:=List<|Option V
abbrev VK:=V->Hp->Prop
abbrev TE:=St->Hp->VK->Prop
abbrev TT:=St->Hp->(Bool->Hp->Prop)->Prop
abbrev TA:=St->Hp->(qE->Hp->Prop)->Prop
structure Ends where
 nx:St->Hp->Prop
 rt:VK
 bk:St->Hp->Prop:=λϊ ϊ=>False
 ct:St->Hp->Prop:=λϊ ϊ=>False
abbrev TS:=Ends->St->Hp->Prop
def EP(X:Cx)(b:List<|Addr×Obj)(O:St)(Q:VK)(u:Value)(s':Shared):Prop:=∃v a,Inv X b O a s'/\Ak v u/\Q v a
def TP(X:Cx)(c:List<|Addr×Obj)(O:St)(Q:Bool->Hp->Prop)(b:Bool)(s':Shared):Prop:=∃a,Inv X c O a s'/\Q b a
def AP(X:Cx)(c:List<|Addr×Obj)(O:St)(Q:qE->Hp->Prop)(us:ki)(s':Shared):Prop:=∃b a,Inv X c O a s'/\Al b us/\Q b a
def SP(X:Cx)(c:List<|Addr×Obj)(D:Ends)(f:Flow)(s':Shared):Prop:=
 match f with
 |.next=>∃b a,Inv X c b a s'/\D.nx b a|.brk=>∃b a,Inv X c b a s'/\D.bk b a|.cont=>∃b a,Inv X c b a s'/\D.ct b a|.ret u=>∃v b a,Inv X c b a s'/\Ak v u/\D.rt v a
def PE(X:Cx)(e:Expr)(t:TE):Prop:=
 ∀(a:List<|Addr×Obj) (s:Shared) (O:St) (H:Hp) (Q:VK),Inv X a O H s->t O H Q->wpAny (model X.prog X.w) X.A (eval e X.env) (EP X a O Q) X.xe s
def PT(X:Cx)(e:Expr)(t:TT):Prop:=
 ∀(a:List<|Addr×Obj) (s:Shared) (O:St) (H:Hp) (Q:Bool->Hp->Prop),Inv X a O H s->t O H Q->wpAny (model X.prog X.w) X.A (isTrue e X.env<|eval e X.env) (TP X a O Q) X.xe s
def PW(X:Cx)(e:Expr)(t:TT):Prop:=
 ∀(a:Sem Value) (b:List<|Addr×Obj) (s:Shared) (O:St) (H:Hp) (Q:Bool->Hp->Prop),Inv X b O H s->t O H Q->wpAny (model X.prog X.w) X.A (isTrue e X.env a) (TP X b O Q) X.xe s
theorem PW.pt{X:Cx}{e:Expr}{t:TT}(h:PW X e t):PT X e t:=h _
def PA(X:Cx)(es:ku)(t:TA):Prop:=
 ∀(pos:Pos) (a:List<|Addr×Obj) (s:Shared) (O:St) (H:Hp) (Q:qE->Hp->Prop),Inv X a O H s->t O H Q->wpAny (model X.prog X.w) X.A (spliced<|backTo pos<|starEach es X.env) (AP X a O Q) X.xe s
def PS(X:Cx)(st:Stmt)(t:TS):Prop:=
 ∀(a:List<|Addr×Obj) (s:Shared) (O:St) (H:Hp) (D:Ends),Inv X a O H s->t D O H->wpAny (model X.prog X.w) X.A (exec st X.env) (SP X a D) X.xe s
def Bf(X:Cx)(st:kx)(t:TS):Prop:=
 ∀(a:List<|Addr×Obj) (s:Shared) (O:St) (H:Hp) (D:Ends),Inv X a O H s->t D O H->wpAny (model X.prog X.w) X.A (execs st X.env) (SP X a D) X.xe s
theorem A5{t:Sem α}      (h:wpAny M A t Q E s)(b:∀a s,Q a s->Q' a s):wpAny M A t Q' E s:=ê h b λϊ ϊ x=>x
section
variable {X:Cx}
def Xn(i:Nat):TE:=λO H Q=>∃v,O[i]?=↑↑v/\Q v H
def tC(v:V):TE:=λϊ H Q=>Q v H
def FJ{pos}(f:X.N[i]?=↑x)(n:DN X.env.scope x)(hd:(x == "__debug__")=false)(b:(x == "__classdict__")=false):PE X (.Name x pos)<|Xn i:=by
 intro o s O H Q I h;let(v,e,h):=h;let(m,k,g):=I.loc;let(u,r,l):=g i x v f e n;have BZ:EP X o O Q u s:={(v),H,I,r,h}
 rcases l with ⟨hk,j⟩|⟨hk,c,d,a⟩;exact wpAny_Name (wpAny_loadName_local I.ok.kind hk k j BZ) hd;rcases hk with hk|hk;exact wpAny_Name (wpAny_loadName_cell I.ok.kind hk d a BZ) hd;exact wpAny_Name (wpAny_loadName_free I.ok.kind hk d a BZ b) hd
theorem Ξ:PE X (.Constant (.int i) j pos)<|tC<|.int i:=λϊ ϊ ϊ H ϊ I h=>wpAny_Constant_int {.int i,H,I.tok _,{_,rfl},h}
theorem pe_bl:PE X (.Constant (.bool b) j pos)<|tC<|.bl b:=λϊ ϊ ϊ H ϊ I h=>Constant_bool {.bl b,H,I,rfl,h}
theorem ZM:PE X (.Constant .none j pos)<|tC .non:=λϊ ϊ ϊ H ϊ I h=>Constant_none {.non,H,I,rfl,h}
theorem Ο:PE X (.Constant (.str x) j pos)<|tC<|.str x:=λϊ ϊ ϊ H ϊ I h=>Calls.Constant_str {.str x,H,I.tok _,{_,rfl},h}
def Gl(X:Cx)(x:Str):Prop:=X.env.kindOf x=↑.globalImplicit
theorem Jc{O:St}(I:Inv X pz O H s)(a:Gl X x)(b:X.mg x=↑u)(h:Q u s)
  (hd:(x == "__debug__")=false):wpAny (model X.prog X.w) X.A (eval (.Name x pos) X.env) Q E s:=
 Calls.Name_function_global I.ok.kind a (Calls.loadGlobal_global (by rw[I.ok.glob];exact I.mod.glob.keeps I.bk) b h) hd
def Gq{E}{O:St}{pos}(I:Inv X pz O H s)(c:Gl X x)(d:X.mg x=none)(f:bootBuiltins x=↑u)(h:Q u s)
  (e:x≠"__name__":=by decide) (hd:(x == "__debug__")=false:=by decide):wpAny (model X.prog X.w) X.A (eval (.Name x pos) X.env) Q E s:=by
 let(g,a,b):=I.mod.blt;exact Calls.Name_function_global I.ok.kind c (Calls.loadGlobal_builtin (by rw[I.ok.glob];exact I.mod.glob.keeps I.bk) d (by rw[I.ok.blt];exact a.keeps I.bk) ((b x e).trans f) h) hd
theorem ZO(a:Gl X x)(b:X.mg x=↑u)(r:Ak v u)(hd:(x == "__debug__")=false):PE X (.Name x pos)<|tC v:=
 λϊ ϊ ϊ H ϊ I h=>Jc I a b {(v),H,I,r,h} hd
theorem Ρ{x:Str}{v:V}{u:Value}{pos:Pos}(a:Gl X x)(b:X.mg x=none)(d:bootBuiltins x=↑u)(r:Ak v u)(c:x≠"__name__")(hd:(x == ("__debug__":Str))=false):PE X (.Name x pos)<|tC v:=
 λϊ ϊ ϊ H ϊ I h=>Gq I a b d {(v),H,I,r,h} c hd
variable {a b:Expr}{ta tb:TE}{pos:Pos}
def tB(t:TE):TT:=λO H Q=>t O H λx a=>∃c,x=.bl c/\Q c a
def Τ(h:PE X e t)(c:∀whole,isTrue e X.env whole=(do let v <- whole;standAt e.pos;holding [v] (truthy v))):PT X e<|tB t:=by
 intro g s O H Q I f;refine isTrue_plain (A5 (h g s O H _ I f) λv l k=>?_)<|c _
 let(x,a,b,j,i):=k;let(d,rfl,q):=i;cases j;exact Ă {(a),b,q}
variable {tA tB':TT}{rest:ku}
def tAnd(t u:TT):TT:=λO H Q=>t O H λc a=>if c=true then u O a Q else Q false a
def tOr(t u:TT):TT:=λO H Q=>t O H λc a=>if c=true then Q true a else u O a Q
def Xu(t:TT):TT:=λO H Q=>t O H λc a=>Q (!c) a
def Υ(b:PT X a tA):PW X (.BoolOp .And [a] pos) tA:=by
 intro g d s O H Q I h;refine isTrue_and<|A5 (b d s O H Q I h) λc f e=>?_
 cases c with
 |true=>exact isTrue_and_nil e|false=>exact e
def Φ(b:PT X a tA):PW X (.BoolOp .Or [a] pos) tA:=by
 intro g d s O H Q I h;refine isTrue_or<|A5 (b d s O H Q I h) λc f e=>?_
 cases c with
 |false=>exact isTrue_or_nil e|true=>exact e
def Χ(i:PT X a tA)(j:PW X (.BoolOp .And (b::rest) pos) tB'):PW X (.BoolOp .And (a::b::rest) pos)<|tAnd tA tB':=by
 intro l f s O H Q I h;refine isTrue_and<|A5 (i f s O H _ I h) λc k m=>?_
 let(d,e,g):=m;cases c with
 |true=>exact j l f k O d Q e g|false=>exact{(d),e,g}
def pw_or(i:PT X a tA)(j:PW X (.BoolOp .Or (b::rest) pos) tB'):PW X (.BoolOp .Or (a::b::rest) pos)<|tOr tA tB':=by
 intro l f s O H Q I h;refine isTrue_or<|A5 (i f s O H _ I h) λc k m=>?_
 let(d,e,g):=m;cases c with
 |true=>exact{(d),e,g}|false=>exact j l f k O d Q e g
def Ψ(d:PT X a tA):PT X (.UnaryOp .Not a pos)<|Xu tA:=by
 intro e s O H Q I h;exact isTrue_not<|d e s O H (λc b=>Q (!c) b) I h
def tAndV(b d:TE):TE:=λO H Q=>b O H λx a=>∃c,x=.bl c/\if c=true then d O a Q else Q (.bl false) a
def tOrV(b d:TE):TE:=λO H Q=>b O H λx a=>∃c,x=.bl c/\if c=true then Q (.bl true) a else d O a Q
def Xs(b:TE):TE:=λO H Q=>b O H λx a=>∃c,x=.bl c/\Q (.bl<|!c) a
theorem Ω(h:PE X a t):PE X (.BoolOp op [a] pos) t:=λc s O H Q I b=>BoolOp_one<|h c s O H Q I b
def zos(i:PE X a ta)(j:PE X (.BoolOp .And (b::rest) pos) tb):PE X (.BoolOp .And (a::b::rest) pos)<|tAndV ta tb:=by
 intro g s O H Q I h;refine BoolOp_and<|A5 (i g s O H _ I h) λv l m=>?_
 let(x,e,f,k,d):=m;let(c,rfl,d):=d;cases k;refine Ă ?_;cases c with
 |true=>exact j g l O e Q f d|false=>exact{.bl false,e,f,rfl,d}
def pe_or(i:PE X a ta)(j:PE X (.BoolOp .Or (b::rest) pos) tb):PE X (.BoolOp .Or (a::b::rest) pos)<|tOrV ta tb:=by
 intro g s O H Q I h;refine BoolOp_or<|A5 (i g s O H _ I h) λv l m=>?_
 let(x,e,f,k,d):=m;let(c,rfl,d):=d;cases k;refine Ă ?_;cases c with
 |false=>exact j g l O e Q f d|true=>exact{.bl true,e,f,rfl,d}
def zoo(f:PE X a ta):PE X (.UnaryOp .Not a pos)<|Xs ta:=by
 intro g s O H Q I h;refine UnaryOp_<|A5 (f g s O H _ I h) λv k j=>?_
 let(x,d,e,i,b):=j;let(c,rfl,b):=b;cases i;exact not_of<|Ă {.bl<|!c,d,e,rfl,b}
def tIf(t:TT)(b d:TE):TE:=λO H Q=>t O H λc a=>if c=true then b O a Q else d O a Q
def zie(m:PT X c tA)(k:PE X a ta)(l:PE X b tb):PE X (.IfExp c a b pos)<|tIf tA ta tb:=by
 intro e s O H Q I h;refine wpAny_IfExp<|A5 (m e s O H _ I h) λd j n=>?_
 let(f,g,i):=n;cases d with
 |true=>exact k e j O f Q g i|false=>exact l e j O f Q g i
end
def Ai(K:q9)(H:Hp)(a:Addr)(xs:qE):Prop:=
 Rd H a (.lst xs) \/
  ∃(o:Obj) (b:Array Value) (n:Nat),K.lookup a=↑o/\o.cls=.type "list"/\o.dict=none/\o.data=.seq b n/\b.size<=sizeLine/\Al xs b.toList
def CJ(K:q9)(H:Hp)(a:Addr)(xs:qE):Prop:=
 Rd H a (.tup xs) \/
  ∃(o:Obj) (b:Array Value) (n:Nat),K.lookup a=↑o/\o.cls=.type "tuple"/\o.data=.seq b n/\b.size<=sizeLine/\Al xs b.toList
def absV:Value->Option V
 |.none=>↑.non|.bool b=>↑(.bl b)|.int i ϊ=>↑(.int i)|.str x ϊ=>↑(.str x)|.bytes b ϊ=>↑(.byt b)|.float b ϊ=>↑(.flt b)|.ref a=>↑(.ref a)|.type n=>↑(.ty n)|ϊ=>none
def Ak.abs(r:Ak x u):absV u=↑x:=by
 cases x with
 |non=>cases r;rfl|bl ϊ=>cases r;rfl|int ϊ=>let(t,rfl):=r;rfl
 |str ϊ=>let(t,rfl):=r;rfl
 |byt ϊ=>let(t,rfl):=r;rfl
 |flt ϊ=>let(t,rfl):=r;rfl
 |ref ϊ=>cases r;rfl|ty ϊ=>cases r;rfl
def Ak.inj(r:Ak x u)(q:Ak y u):x=y:=Ù<|r.abs.symm.trans q.abs
def Al.inj:∀{xs ys} {us},Al xs us->Al ys us->xs=ys
 |_,_,_,.nil,.nil=>rfl|_,_,_,.cons r t,.cons a b=>by rw[r.inj a,Al.inj t b]
section
variable {X:Cx}{pz:List<|Addr×Obj}{O:St}{H:Hp}{s:Shared}{a:Addr}{xs ys:qE}
theorem Ai.of{K:q9}(h:H a=↑(.lst xs)):Ai K H a xs:=.inl<|.inl h
theorem CJ.of{K:q9}(h:H a=↑(.tup xs)):CJ K H a xs:=.inl<|.inl h
def Inv.list(I:Inv X pz O H s)(h:Ai X.K H a xs):∃its ,Al xs its/\PlainL s.heap a its.toArray/\xs.length<=sizeLine:=by
 rcases h with h|⟨o,its,n,hk,b,hd,c,d,r⟩;let(z,its,n,r,e):=h.ok I.hok;exact{its,r,{_,n,e,rfl,rfl,rfl},z};refine{its.toList,r,{o,n,I.kIn a o hk,b,hd,by lia},?_};have e:=r.length;grind
def Inv.tuple(I:Inv X pz O H s)(h:CJ X.K H a xs):∃its ,Al xs its/\IsTup s.heap a its.toArray/\xs.length<=sizeLine:=by
 rcases h with h|⟨o,its,n,hk,b,c,d,r⟩;let(z,its,r,p):=h.ok I.hok;grind;refine{its.toList,r,{o,I.kIn a o hk,b,n,by lia},?_};have e:=r.length;grind
def Inv.list_inj(I:Inv X pz O H s)(h:Ai X.K H a xs)(f:Ai X.K H a ys):xs=ys:=by
 let(c,r,(o,n,e,_,_,d),_):=I.list h;let(b,g,(l,k,j,_,_,i),_):=I.list f;have:c=b:=by grind
 subst this;exact r.inj g
def Inv.tuple_inj(I:Inv X pz O H s)(h:CJ X.K H a xs)(f:CJ X.K H a ys):xs=ys:=by
 let(c,r,(o,e,_,n,d),_):=I.tuple h;let(b,g,(l,j,_,k,i),_):=I.tuple f;have:c=b:=by grind
 subst this;exact r.inj g
variable {E:Value->Shared->Prop}
end
section
variable {X:Cx}{st:Stmt}{rest:kx}{t u:TS}{e:Expr}{te:TE}{pos:Pos}
def Xw:TS:=λD O H=>D.nx O H
def Xq(t u:TS):TS:=λD O H=>t { D with nx:=u D } O H
theorem zkq:Bf X [] Xw:=λϊ ϊ O H ϊ I h=>ľ {(O),H,I,h}
def zi9(e:PS X st t)(g:Bf X rest u):Bf X (st::rest)<|Xq t u:=by
 intro a s O H D I h;refine wpAny_execs_cons<|A5 (e a s O H { D with nx:=u D } I h) λf i q=>?_
 cases f with
 |next=>let(d,b,c,q):=q;exact g a i d b D c q
 |ret v=>exact q|brk=>exact q|cont=>exact q
def zkp(a:PS X st t):Bf X [st] t:=by
 intro b s O H D I h;refine wpAny_execs_cons<|A5 (a b s O H D I h) λf c q=>?_
 cases f with
 |next=>exact ľ q|ret v=>exact q|brk=>exact q|cont=>exact q
def zmx:TS:=λD O H=>D.bk O H
def tCont:TS:=λD O H=>D.ct O H
theorem zkt:PS X (.Pass pos) Xw:=λϊ ϊ O H ϊ I h=>wpAny_Pass {(O),H,I,h}
theorem zic:PS X (.Break pos) zmx:=λϊ ϊ O H ϊ I h=>wpAny_Break {(O),H,I,h}
theorem ze0:PS X (.Continue pos) tCont:=λϊ ϊ O H ϊ I h=>wpAny_Continue {(O),H,I,h}
def Inv.quiet{O:St}   (I:Inv X pz O H s):interactive X.env=false:=by simp[interactive,I.ok.kind]
def tDrop(b:TE):TS:=λD O H=>b O H λϊ a=>D.nx O a
def ND(a:PE X e te)(b:swapsWith e none pos.line X.env=pure false):PS X (.Expr e pos)<|tDrop te:=by
 intro c s O H D I h;exact wpAny_Expr_any (A5 (a c s O H _ I h) λv d ⟨x,H1,I1,r1,q1⟩=>{(O),H1,I1,q1}) I.quiet b
def tRet(a:TE):TS:=λD O H=>a O H D.rt
def zob(a:PE X e te):PS X (.Return ↑e pos)<|tRet te:=by
 intro b s O H D I h;exact wpAny_Return_some<|A5 (a b s O H _ I h) λv c ⟨x,H1,I1,r1,q1⟩=>{(x),O,H1,I1,r1,q1}
def tRetN:TS:=λD ϊ H=>D.rt .non H
theorem zks:PS X (.Return none pos) tRetN:=λϊ ϊ O H ϊ I h=>wpAny_Return_none {.non,O,H,I,rfl,h}
def tIfS(c:TT)(t u:TS):TS:=λD O H=>c O H λb a=>if b=true then t D O a else u D O a
def ps_if(m:PT X c tc)(k:Bf X a t)(l:Bf X b u):PS X (.If c a b pos)<|tIfS tc t u:=by
 intro e s O H D I h;refine wpAny_If<|A5 (m e s O H _ I h) λd j n=>?_
 let(f,g,i):=n;cases d with
 |true=>exact k e j O f D g i|false=>exact l e j O f D g i
end
abbrev TG:=V->St->Hp->(St->Hp->Prop)->Prop
abbrev Jz:=qE->St->Hp->(St->Hp->Prop)->Prop
def PG(X:Cx)(a:Expr)(t:TG):Prop:=
 ∀(d:List<|Addr×Obj) (s:Shared) (O:St) (H:Hp) (v:V) (u:Value) (Q:St->Hp->Prop),Inv X d O H s->Ak v u->t v O H Q ->
  wpAny (model X.prog X.w) X.A (assign a X.env u) (λϊ e=>∃c b,Inv X d c b e/\Q c b) X.xe s
def E4(X:Cx)(ts:ku)(t:Jz):Prop:=
 ∀(c:List<|Addr×Obj) (s:Shared) (O:St) (H:Hp) (e:qE) (d:ki) (Q:St->Hp->Prop),Inv X c O H s->Al e d->t e O H Q ->
  wpAny (model X.prog X.w) X.A (assignInOrder ((assignEach ts X.env).map (·.2)) d) (λϊ f=>∃b a,Inv X c b a f/\Q b a) X.xe s
abbrev Wf:=V->V->V->Hp->(Hp->Prop)->Prop
def Wp(X:Cx)(t:Wf):Prop:=
 ∀(d:List<|Addr×Obj) (s:Shared) (O:St) (H:Hp) (o i v:V) (c b u:Value) (Q:Hp->Prop),Inv X d O H s->Ak o c->Ak i b->Ak v u->t o i v H Q ->
  wpAny (model X.prog X.w) X.A (setItem c b u) (λϊ e=>∃a,Inv X d O a e/\Q a) X.xe s
abbrev Oz:=V->V->Hp->VK->Prop
def lM(X:Cx)(b:Operator)(t:Oz):Prop:=
 ∀(a:List<|Addr×Obj) (s:Shared) (O:St) (H:Hp) (x y:V) (v u:Value) (Q:VK),Inv X a O H s->Ak x v->Ak y u->t x y H Q ->
  wpAny (model X.prog X.w) X.A (inplaceOp b v u) (EP X a O Q) X.xe s
section
variable {X:Cx}{pos:Pos}
def Gy(i:Nat):TG:=λv O H Q=>Q (O.set i ↑v) H
def zl0{i:Nat}{x:Str}(b:X.N.Nodup)(d:X.N[i]?=↑x)(e:G9 X.env.scope x)(c:X.fn x=true\/X.env.scope.names.lookup x=↑.local):PG X (.Name x pos)<|Gy i:=by
 intro f s O H v u Q I r h;exact wpAny_assign_Name<|Q7 I b d e r (λg a=>{_,H,a,h}) c
def gNil:Jz:=λa O H Q=>a=[]/\Q O H
def gCons(t:TG)(u:Jz):Jz:=λc O H Q=>∃v r,c=v::r/\t v O H λb a=>u r b a Q
def zkz:E4 X [] gNil:=by
 intro a s O H c b Q I r h;let(e,h):=h;exact assignInOrder_nil {(O),H,I,h}
def zid(g:PG X e t)(i:E4 X es u)
  (j:(assignEach (e::es) X.env).map (·.2)=assign e X.env::(assignEach es X.env).map (·.2)):E4 X (e::es)<|gCons t u:=by
 intro a s O H q o Q I r h;let(v,p,f,h):=h;subst f;cases r with
 |cons r l=>
  rw[j];refine assignInOrder_cons<|A5 (g a s O H _ _ _ I r h) λϊ m n=>?_
  let(d,b,c,k):=n;exact i a m d b _ _ Q c l k
def Uu(K:q9)(n:Nat)(t:Jz):TG:=λv O H Q=>∃a xs,v=.ref a/\CJ K H a xs/\xs.length=n/\t xs O H Q
def zoj{k}(i:X.calm=true)(h:E4 X es t)
  (l:(assignEach es X.env).length=n) (c:(assignEach es X.env).findIdx? (·.1)=none):PG X (.Tuple es k pos)<|Uu X.K n t:=by
 intro x s O H v u Q I r d;let(a,xs,g,m,j,d):=d;subst g;cases r;let(w,y,p,A):=I.tuple m;refine assign_Tuple_tuple (I.ok.hd i) p (by simp[l,<- j,y.length]) c λz q=>?_
 have f :=I.kept (t':=s.toks) λb o e=>q b o (Ô<|Ç e) e;exact h x _ O H xs _ Q f (by lia) d
def gSub(d ti:TE)(t:Wf):TG:=λv O H Q=>d O H λo a=>ti O a λi b=>t o i v b λc=>Q O c
def Ks(l:PE X o to)(k:PE X i ti)(m:Wp X t)
  (C : ∀ v, assign (.Subscript o i pos) X.env v = (do
   let ov <- holding [v]<|eval o X.env;let iv <- holding [v,ov] (eval i X.env)
   standAt pos
   holding [v,ov,iv] (setItem ov iv v)
   release [v,ov,iv] []):=by rfl):PG X (.Subscript o i pos)<|gSub to ti t:=by
 intro b s O H v u Q I r h;refine Â<|ă<|A5 (l b s O H _ I h) λov A a=>?_
 let(x,c,f,w,n):=a;refine Â<|ă<|A5 (k b A O c _ f n) λiv B a=>?_
 let(y,d,g,z,p):=a;refine Â<|ś<|Â<|ă<|A5 (m b B O d x y v ov iv u _ g w z r p) λϊ D a=>?_
 let(e,j,q):=a;exact wpAny_release {(O),e,j,q}
def HJ(b:TE)(g:TG):TS:=λD O H=>b O H λx a=>g x O a D.nx
def JZ{a e:Expr}{c:TE}{g:TG}(j:PE X e c)(k:PG X a g)(l:swapsWithSole [a] e pos.line X.env=pure false)(m:swappedStores [a] e X.env=pure none)
  (i:(assignEach [a] X.env).map (·.2)=[assign a X.env]):PS X (.Assign [a] e pos)<|HJ c g:=by
 intro b s O H D I h;refine wpAny_Assign_stores (A5 (j b s O H _ I h) λv p r=>?_) l m;let(x,d,f,o,n):=r;rw[i];exact A5 (k b p O d x v _ f o n) λϊ t q=>q
def ZC(d:X.N.Nodup)(j:X.N[i]?=↑x)(l:G9 X.env.scope x)(f:PE X e te)(k:swapsWith e (↑(.Name x pos')) pos.line X.env=pure false)(g:X.fn x=true\/X.env.scope.names.lookup x=↑.local) :
  PS X (.Assign [.Name x pos'] e pos) (HJ te<|Gy i):=by
 intro m s O H D I h;refine wpAny_Assign_Name (A5 (f m s O H _ I h) λv q p=>?_) k;let(y,a,b,o,n):=p;exact Q7 b d j l o (λr c=>{_,a,c,n}) g
def tAug(i:Nat)(c:TE)(ti:Oz):TS:=λD O H=>∃x,O[i]?=↑↑x/\c O H λy a=>ti x y a λz b=>D.nx (O.set i ↑z) b
def zod{i:Nat}{x:Str}{e:Expr}{q:TE}{j:Operator}{ti:Oz}{b:Pos}(G:X.N.Nodup)(p:X.N[i]?=↑x)(g:G9 X.env.scope x)(K:PE X e q)(Q:lM X j ti)(L:X.fn x=true\/X.env.scope.names.lookup x=↑.local:=by first|exact .inl rfl|exact .inr rfl|assumption) :
  PS X (.AugAssign (.Name x b) j e pos) (tAug i q ti):=by
 intro n s O H D I h;let(v,F,h):=h;let(m,P,M):=I.loc;have vis:DN X.env.scope x:=by rcases g with k|k;exact .inl k;exact .inr<|.inl k
 let(u,r,l):=M i x v p F vis;refine wpAny_AugAssign_Name ?_
 have go:wpAny (model X.prog X.w) X.A (eval e X.env) (λw d=>wpAny (model X.prog X.w) X.A (inplaceOp j u w) (λr f=>wpAny (model X.prog X.w) X.A (storeName X.env x r) (λϊ=>SP X n D .next) X.xe f) X.xe d) X.xe s:=by
  refine A5 (K n s O H _ I h) λw V o=>?_;let(y,t,B,T,R):=o;refine A5 (Q n V O t v y u w _ B r T R) λz W o=>?_;let(Z,A,C,U,S):=o;exact Q7 C G p g U (λY E=>{_,A,E,S}) L
 rcases l with ⟨hk,N⟩|⟨hk,c,J,a⟩;exact wpAny_loadName_local I.ok.kind hk P N go;rcases hk with hk|hk;exact wpAny_loadName_cell I.ok.kind hk J a go;rcases g with k|k;have:X.env.scope.names.lookup x=↑.free:=hk;rw[k]at this;cases this;have:X.env.scope.names.lookup x=↑.free:=hk;rw[k]at this;cases this
def ipI(f:Int->Int->Int):Oz:=λx y H Q=>∃i j,x=.int i/\y=.int j/\Q (.int<|f i j) H
def zq4:lM X .Add<|ipI λi j=>i+j:=by
 intro e s O H x y v u Q I c d h;let(i,j,a,b,q):=h;subst a;subst b;let(t,rfl):=c;let(f,rfl):=d;exact iadd_int {.int _,H,I.tok _,{_,rfl},q}
def zmq(c:TT)(g:TS):TS:=λD O H=>∃W:Nat->St->Hp->Prop,(∃m,W m O H)/\∀m O H,W m O H ->
 c O H λb d=>if b=true then ∃N:St->Hp->Prop,(∀e a,N e a->∃f,f<m/\W f e a)/\g { D with nx:=N,ct:=N,bk:=D.nx } O d else D.nx O d
def zia(p:PassesOwn (model X.prog X.w) X.A X.env X.xe)(x:PT X c tc)(w:Bf X body tb):PS X (.While c body [] pos)<|zmq tc tb:=by
 intro i s O H D I h;let(W,(y,E),a):=h;refine wpAny_While<|codeAny_whileLoop (λn A=>∃o j,Inv X i o j A/\W n o j) ?_ y {(O),H,I,E}
 rintro n B ⟨d,k,r,F⟩;refine ę p<|A5 (x i B d k _ r<|a n d k F) λb C G=>?_
 let(l,m,e):=G;cases b with
 |true=>
  let(N,J,e):=e;rw[if_pos rfl];refine ę p<|A5 (w i C d l _ m e) λf K g=>?_
  cases f with
  |next=>
   let(u,q,t,z):=g;grind
  |cont=>
   let(u,q,t,z):=g;grind
  |brk=>exact g|ret v=>exact g
 |false=>rw[if_neg ġ];exact ľ {(d),l,m,e}
end
structure It where
 go:Nat->Hp->Prop
 yld:Nat->Hp->V->Hp->Prop
 stop:Nat->Hp->Prop
def Cy(X:Cx)(a:List<|Addr×Obj)(H:Hp)(b:Addr):Prop:=
 H b=none/\b≠X.env.locals/\b∉X.fs/\(b∈X.ex\/X.s₀.heap.objs.size<=b)/\(∀x c,X.env.cells.lookup x=↑c->c≠b)/\∀p∈X.pn++a,p.1≠b
def Inv.fpOk{X:Cx}{O:St}{b:Addr}(I:Inv X pz O H s)(a:s.heap.objs.size<=b)(d:H' b=none):Cy X pz H' b:=by
 refine{d,Nat.ne_of_gt<|Û I.lt a,I.nofs a,.inr<|Õ I.sz a,λx c e z=>?_,λp f z=>?_};let(v,q):=I.cell x c e;exact absurd (Û q.lt<|by grind)<|ã _
 exact absurd (Û (Ç (I.pin p f).1)<|by grind)<|ã _
structure Turn(P:Program)(w:World)(K:q9)(tg:Expr)(Γ:It)(fp:List Addr)(it:Addr)(tn:Nat->Heap->Prop):Prop where
 mem:it∈fp
 obj:∀i h,tn i h->∀b∈fp,∃o,h.get? b=↑o/\∀v,o.data≠.cell v
 keep:∀i h h',tn i h->(∀b∈fp,∀o,h.get? b=↑o->h'.get? b=↑o)->tn i h'
 item:∀(X:Cx),X.prog=P->X.w=w->X.K=K->X.calm=true->∀(i:Nat) (pz:List<|Addr×Obj) (s:Shared) (O:St) (H:Hp) (E:Value->Shared->Prop),Inv X pz O H s->(∀b∈fp,Cy X pz H b)->tn i s.heap->Γ.go i H ->
  wpAny (model P w) X.A (pyNext<|.ref it) (λr s1=>∃u,r=↑u /\
   wpAny (model P w) X.A (letOwnedTupleGo tg (.ref it) u) (λϊ s2=>∃x H',Inv X pz O H' s2/\Ak x u/\Γ.yld i H x H'/\tn (i+1) s2.heap/\∀b∈fp,H' b=none) E s1) E s
 done:∀(X:Cx),X.prog=P->X.w=w->X.K=K->X.calm=true->∀(i:Nat) (pz:List<|Addr×Obj) (s:Shared) (O:St) (H:Hp) (E:Value->Shared->Prop),Inv X pz O H s->(∀b∈fp,Cy X pz H b)->tn i s.heap->Γ.stop i H ->
  wpAny (model P w) X.A (pyNext<|.ref it) (λr s1=>r=none/\Inv X pz O H s1) E s
 self:∀(A:Around) (i:Nat) (s:Shared) (Q:Value->Shared->Prop) (E:Value->Shared->Prop),tn i s.heap->Q (.ref it) s->wpAny (model P w) A (pyIter<|.ref it) Q E s
abbrev TI:=St->Hp->(It->Hp->Prop)->Prop
def lN(X:Cx)(e:List<|Addr×Obj)(O:St)(g:Expr)(R:It->Hp->Prop)(c:Value)(f:Shared):Prop:=
 ∃(it:Addr) (d:List Addr) (tn:Nat->Heap->Prop) (Γ:It) (a:Hp),c=.ref it/\Inv X e O a f/\Turn X.prog X.w X.K g Γ d it tn/\tn 0 f.heap/\(∀b∈d,Cy X e a b)/\R Γ a
def PI(X:Cx)(d a:Expr)(e:TI):Prop:=
 ∀(b:List<|Addr×Obj) (s:Shared) (O:St) (H:Hp) (R:It->Hp->Prop),Inv X b O H s->e O H R ->
  wpAny (model X.prog X.w) X.A (eval a X.env) (λv c=>wpAny (model X.prog X.w) X.A (pyIter v) (lN X b O d R) X.xe c) X.xe s
def L3(d:s.heap.get? it=↑o)(b:o.cls=.type n)(hd:o.data=.fields vs)
    (c:["enumerate","zip","dict_itemiterator","dict_reverseitemiterator","odict_iterator","itertools.zip_longest","itertools.pairwise"].contains n=false) (a:Q () s):wpAny M A (letOwnedTupleGo tg (.ref it) u) Q E s:=by
  unfold letOwnedTupleGo
  cases tg<;>first
    |exact Ð a
    |(cases u<;>first
        |exact Ð a
        | (refine Â<|wpAny_load d ?_
           rw[b,hd];show wpAny M A (if (["enumerate","zip","dict_itemiterator","dict_reverseitemiterator","odict_iterator","itertools.zip_longest","itertools.pairwise"].contains n && vs[0]? == ↑(rawInt _))=true then _ else _) Q E s
           rw[if_neg (by intro h;rw[c,ĵ]at h;cases h)]
           exact Ð a))
def Ww(K:q9)(a:Addr):It:=
 {λi H=>∃xs x,Ai K H a xs/\xs[i]?=↑x,λi H x b=>b=H/\∀xs,Ai K H a xs->xs[i]?=↑x,λi H=>∃xs,Ai K H a xs/\xs.length<=i}
def Wv(K:q9)(a:Addr):It:=
 {λi H=>∃xs x,CJ K H a xs/\xs[i]?=↑x,λi H x b=>b=H/\∀xs,CJ K H a xs->xs[i]?=↑x,λi H=>∃xs,CJ K H a xs/\xs.length<=i}
def MS(b:Int)(n:Nat):It:={λi ϊ=>i<n,λi H x a=>a=H/\x=.int (b+i),λi ϊ=>n<=i}
def zfy{K}(a it):Turn P w K tg (Ww K a) [it] it (λi h=>h.IsListIter it a i) where
 mem:=by simp
 obj:=λi h st b f=>by
  have e :=by simpa using f
  subst e;let(o,e,c,d):=st;exact{o,e,λv z=>by rw[d]at z;cases z}
 keep:=λi h B st k=>st.at λo e=>k it (by simp) o e
 item:=by
  intro X n r m C i L s O H E I j st q;subst n r m;let(xs,x,l,t):=q;let(y,A,p,J):=I.list l;let(u,F,M):=A.get t;let(f0,f1,f2,f3,f4,f5):=j it<|by simp
  refine wpAny_pyNext_list_item st p.isList (by simpa using F) λB g sb=>?_;have D :=I.turned (t':=s.toks) (λb o f e=>(sb.2 b f).trans e) f0 f1 f3 f4 f5;let(o,e,c,d):=id g;exact{u,rfl,L3 e c d (by decide) {x,H,D,M,{rfl,λQ G=>by rw[I.list_inj G l];exact t},g,λb f=>(j b f).1}}
 done:=by
  intro X n r m C i L s O H E I j st q;subst n r m;let(xs,l,t):=q;let(y,A,p,J):=I.list l;let(f0,f1,f2,f3,f4,f5):=j it<|by simp
  have N:=A.length;exact wpAny_pyNext_list_end (I.ok.hd C) st p.isList (by simp;lia) λB eb=>{rfl,I.turned (λb o f e=>eb b o f e) f0 f1 f3 f4 f5}
 self:=λϊ ϊ ϊ ϊ ϊ st h=>wpAny_pyIter_listiter st h
def zf2{K}(a it):Turn P w K tg (Wv K a) [it] it (λi h=>h.IsTupleIter it a i) where
 mem:=by simp
 obj:=λi h st b f=>by
  have e :=by simpa using f
  subst e;let(o,e,c,d):=st;exact{o,e,λv z=>by rw[d]at z;cases z}
 keep:=λi h B st k=>st.at λo e=>k it (by simp) o e
 item:=by
  intro X n r m C i L s O H E I j st q;subst n r m;let(xs,x,l,t):=q;let(y,A,p,J):=I.tuple l;let(u,F,M):=A.get t;let(f0,f1,f2,f3,f4,f5):=j it<|by simp
  refine wpAny_pyNext_tuple_item st (p) (by simpa using F) λB g sb=>?_;have D :=I.turned (t':=s.toks) (λb o f e=>(sb.2 b f).trans e) f0 f1 f3 f4 f5;let(o,e,c,d):=id g;exact{u,rfl,L3 e c d (by decide) {x,H,D,M,{rfl,λQ G=>by rw[I.tuple_inj G l];exact t},g,λb f=>(j b f).1}}
 done:=by
  intro X n r m C i L s O H E I j st q;subst n r m;let(xs,l,t):=q;let(y,A,p,J):=I.tuple l;let(f0,f1,f2,f3,f4,f5):=j it<|by simp
  have N:=A.length;exact wpAny_pyNext_tuple_end (I.ok.hd C) st (p) (by simp;lia) λB eb=>{rfl,I.turned (λb o f e=>eb b o f e) f0 f1 f3 f4 f5}
 self:=λϊ ϊ ϊ ϊ ϊ st h=>wpAny_pyIter_tupleiter st h
def zf3{K}(it)(lo)(n):Turn P w K tg (MS lo n) [it] it (λi h=>IsRangeIter h it (lo+i * 1) (n - i) 1) where
 mem:=by simp
 obj:=λi h st b a=>by
  have e :=by simpa using a
  subst e
  exact{_,st,λv z=>by
   have y :=z;cases y}
 keep:=λi h f st k=>k it (by simp) _ st
 item:=by
  intro X j p g l i q s O H E I d st m;subst j p g;let(f0,f1,f2,f3,f4,f5):=d it<|by simp
  have W:=Walks.range (prog:=X.prog) (w:=X.w) (I.ok.hd l) it lo 1 n;refine W.item i s _ _ m st λv f tk u c x=>?_;let(t,rfl):=u;have r:Inv X q O H { s with heap:=f,toks:=tk }:=I.turned (λb o a e=>x b o (by simpa using a) e) f0 f1 f3 f4 f5
  refine{_,rfl,L3 c rfl rfl (by decide) {.int<|lo+i,H,r,{t,?_},{(rfl),rfl},c,λb a=>(d b a).1}};rw[ļ]
 done:=by
  intro X j p g l i q s O H E I d st m;subst j p g;let(f0,f1,f2,f3,f4,f5):=d it<|by simp
  exact wpAny_pyNext_range_end (I.ok.hd l) st (by have:n<=i:=m;lia) λf eb=>{rfl,I.turned (λb o a e=>eb b o a e) f0 f1 f3 f4 f5}
 self:=λϊ ϊ ϊ ϊ ϊ st h=>wpAny_pyIter_rangeiter st h
section
variable {X:Cx}{tg:Expr}
def iList(K:q9)(c:TE):TI:=λO H R=>c O H λx b=>∃a,x=.ref a/\(∃xs,Ai K b a xs)/\R (Ww K a) b
def iTup(K:q9)(c:TE):TI:=λO H R=>c O H λx b=>∃a,x=.ref a/\(∃xs,CJ K b a xs)/\R (Wv K a) b
def zkx(g:PE X l tl):PI X tg l<|iList X.K tl:=by
 intro k s O H R I h;refine A5 (g k s O H _ I h) λv d r=>?_;let(x,f,c,n,m):=r;let(a,e,(xs,i),q):=m;subst e;cases n;let(j,w,p,u):=c.list i;refine ż p.isList ?_;refine{d.heap.objs.size,[d.heap.objs.size],_,_,f,rfl,c.kept λb o e=>Ó _ e,zfy a _,{_,â _ rfl,rfl,rfl},λb t=>?_,q}
 have e:b=d.heap.objs.size:=by grind
 subst e;exact c.fpOk (Ä _)<|c.hok.fresh<|Ä _
def zog(g:PE X l tl):PI X tg l<|iTup X.K tl:=by
 intro k s O H R I h;refine A5 (g k s O H _ I h) λv d r=>?_;let(x,f,c,n,m):=r;let(a,e,(xs,i),q):=m;subst e;cases n;let(j,w,p,u):=c.tuple i;refine wpAny_pyIter_tuple (p) ?_;refine{d.heap.objs.size,[d.heap.objs.size],_,_,f,rfl,c.kept λb o e=>Ó _ e,zf2 a _,{_,â _ rfl,rfl,rfl},λb t=>?_,q}
 have e:b=d.heap.objs.size:=by grind
 subst e;exact c.fpOk (Ä _)<|c.hok.fresh<|Ä _
def Yg{O:St}{H:Hp}    {a c:Int}   (I:Inv X pz O H s)(h:-(2 ^ 62)<=a)(i:a<2 ^ 62)(j:-(2 ^ 62)<=c)(k:c<2 ^ 62)
  (q:R (MS a (c - a).toNat) H):wpAny (model X.prog X.w) X.A (pyIter<|.ref s.heap.objs.size) (lN X pz O tg R) E { s with heap:=s.heap.push { cls:=.type "range",data:=.fields #[.int a t,.int c u,.int 1 v] },toks:=tk }:=by
 refine wpAny_pyIter_range (IsRange.new ..) (small_one h i j k) ?_;have d:Inv X pz O H { s with heap:=s.heap.push { cls:=.type "range",data:=.fields #[.int a t,.int c u,.int 1 v] },toks:=tk }:=I.kept λb o e=>Ó _ e
 refine{(s.heap.push { cls:=.type "range",data:=.fields #[.int a t,.int c u,.int 1 v] }).objs.size,[(s.heap.push { cls:=.type "range",data:=.fields #[.int a t,.int c u,.int 1 v] }).objs.size],_,_,H,rfl,
  d.kept λb o e=>Ó _ e,zf3 _ a (c - a).toNat,?_,λb l=>?_,q}
 have f:a+(0:Nat) * 1=a:=by simp
 have g:(c - a).toNat - (0:Nat)=Builtin.Range.rangeSize a c 1:=by rw[rangeSize_one];grind
 rw[f,g];exact â _ rfl;have e:b=(s.heap.push { cls:=.type "range",data:=.fields #[.int a t,.int c u,.int 1 v] }).objs.size:=by grind
 subst e;exact d.fpOk (Ä _)<|d.hok.fresh<|Ä _
def iRng1(b:TA):TI:=λO H R=>b O H λc a=>∃j:Int,c=[.int j]/\-(2 ^ 62)<=j/\j<2 ^ 62/\R (MS 0 j.toNat) a
def iRng2(b:TA):TI:=λO H R=>b O H λc a=>∃i j:Int,c=[.int i,.int j]/\(-(2 ^ 62)<=i/\i<2 ^ 62/\-(2 ^ 62)<=j/\j<2 ^ 62)/\R (MS i (j - i).toNat) a
def zg5(f:Gl X "range")(g:X.mg "range"=none)(d:PA X [a] ta)(i:starEach [a] X.env=[(false,eval a X.env)]):PI X tg (.Call (.Name "range" p) [a] [] pos)<|iRng1 ta:=by
 intro k s O H R I h;refine Call_<|Gq I f g boot_range<|Đ (A5 (d pos k s O H _ I h) λw v o=>?_) i rfl
 let(x,u,c,m,b):=o;let(j,e,b,l,q):=b;subst e;cases m with
 |cons r n=>cases n;let(t,rfl):=r;exact call_range_1<|Yg c (by lia) (by lia) b l<|by simpa using q
def zg4{p pos}(l:Gl X "range")(m:X.mg "range"=none)(k:PA X [a,b] ta)(n:starEach [a,b] X.env=[(false,eval a X.env),(false,eval b X.env)])(c:starEach [b] X.env=[(false,eval b X.env)]) :
  PI X tg (.Call (.Name "range" p) [a,b] [] pos) (iRng2 ta):=by
 intro o s O H R I h;refine Call_<|Gq I l m boot_range<|Đ (A5 (k pos o s O H _ I h) λD B z=>?_) (by rw[n,c]) (by rw[c];rfl)
 let(E,A,g,y,d):=z;let(i,j,e,(d,u,v,w),q):=d;subst e;cases y with
 |cons r f=>
  cases f with
  |cons x f=>cases f;let(t,rfl):=r;let(C,rfl):=x;exact call_range_2<|Yg g d u v w q
def tFor(j:TI)(g:TG)(h:TS):TS:=λD O H=>j O H λΓ e=>∃W:Nat->Nat->St->Hp->Prop,(∃m,W 0 m O e)/\∀i m O H,W i m O H ->
 (Γ.stop i H/\D.nx O H)\/(Γ.go i H/\∃N:St->Hp->Prop,(∀c a,N c a->∃d,d<m/\W (i+1) d c a)/\∀x a,Γ.yld i H x a->g x O a λb f=>h { D with nx:=N,ct:=N,bk:=D.nx } b f)
def IT(fp:List Addr)(h:Heap):List<|Addr×Obj:=fp.filterMap λb=>(h.get? b).map λo=>(b,o)
def Ib(a:b∈fp)(e:h.get? b=↑o):(b,o)∈IT fp h:=Ē.mpr {b,a,by rw[e];rfl}
def Z7(a:p∈IT fp h):p.1∈fp/\h.get? p.1=↑p.2:=by
 let(b,c,e):=Ē.mp a;cases q:h.get? b with
 |none=>grind|some o=>grind
theorem Inv.pinned{O:St}(I:Inv X pz O H s)(c:∀b∈fp,Cy X pz H b)(f:∀b∈fp,∃o,s.heap.get? b=↑o/\∀v,o.data≠.cell v):Inv X (pz++IT fp s.heap) O H s:=
 I.pins_of λp d=>(Ø.mp d).elim (λz=>I.pin p<|à _ z) λz=>by
  let(a,e):=Z7 z;let(f0,f1,f2,_):=c p.1 a
  grind
theorem Inv.unpinned{O:St}(I:Inv X (pz++pl) O H s):Inv X pz O H s:=I.pins_of λp a=>I.pin p<|à _<|ù _ a
def zoc(F:PassesOwn (model X.prog X.w) X.A X.env X.xe)(Z:X.calm=true)(hi:PI X tg iter wi)(hg:PG X tg g)(l:Bf X body tb)
  (hs:∀x,foldedSetIterable iter X.env x=pure x:=by intro _;rfl):PS X (.For tg iter body [] pos)<|tFor wi g tb:=by
 intro w s O H D I h;refine wpAny_For (A5 (hi w s O H _ I h) λv s1 h1=>A5 h1 λitv s2 h2=>?_) hs;let(it,C,tn,Γ,H2,e,I2,T,S,f2,W,(m0,w0),K):=h2;subst e;have p:∀{q },(∀b∈C,q b=none)->∀b∈C,Cy X w q b:=λhn b l=>{hn b l,(f2 b l).2}
 refine codeAny_forLoop_any (λn s'=>∃i A q,Inv X w A q s'/\tn i s'.heap/\(∀b∈C,q b=none)/\W i n A q) ?_ m0 {0,O,H2,I2,S,λb l=>(f2 b l).1,w0};rintro n s3 ⟨i,B,L,Y,J,E,w3⟩;rcases K i n B L w3 with ⟨stop,qn⟩|⟨go,N,hN,step⟩
 .refine ę F<|A5 (T.done X rfl rfl rfl Z i w s3 B L X.xe Y (p E) J stop) λr s4 z=>?_
  let(Q,I4):=z;subst Q;exact ľ {(B),L,I4,qn}
 .refine ę F<|A5 (T.item X rfl rfl rfl Z i w s3 B L X.xe Y (p E) J go) λr s4 z=>?_
  let(u,Q,h4):=z;subst Q;refine ę F<|A5 h4 λϊ s5 z=>?_
  let(x,V,I5,r5,y5,y,P):=z;have M:=I5.pinned (p P)<|T.obj _ _ y;refine ę F<|A5 (hg _ s5 B V x u _ M r5<|step x V y5) λϊ s6 z=>?_
  let(U,H6,I6,q6):=z;refine ę F<|A5 (l _ s6 U H6 _ I6 q6) λf R t=>?_
  have k:∀{a } {c },Inv X (w++IT C s5.heap) a c R->N a c->∃m,m<n/\∃i A q,Inv X w A q R/\tn i R.heap/\(∀b∈C,q b=none)/\W i m A q:=λ{a c} j G=>by
   let(m',hm,w7):=hN a c G;refine{m',hm,i+1,a,c,j.unpinned,T.keep _ _ _ y λb l o e=>(j.pin (b,o)<|à _<|à _<|Ib l e).1,λb l=>?_,w7};let(o,e,d):=T.obj _ _ y b l;exact(j.pin (b,o)<|à _<|à _<|Ib l e).2.1
  cases f with
  |next=>let(a,c,j,G):=t;exact k j G
  |cont=>let(a,c,j,G):=t;exact k j G
  |brk=>let(a,c,j,t):=t;exact{(a),c,j.unpinned,t}
  |ret v=>let(x7,a,c,j,r7,t):=t;exact{(x7),a,c,j.unpinned,r7,t}
end
abbrev R2:=V->V->Hp->VK->Prop
def As(X:Cx)(f:Value->Value->Sem Value)(r:R2):Prop:=
 ∀(a:List<|Addr×Obj) (s:Shared) (O:St) (H:Hp) (x y:V) (v u:Value) (Q:VK),Inv X a O H s->Ak x v->Ak y u->r x y H Q ->
  wpAny (model X.prog X.w) X.A (f v u) (EP X a O Q) X.xe s
def Lq(X:Cx)(f:Value->Sem Value)(r:V->Hp->VK->Prop):Prop:=
 ∀(a:List<|Addr×Obj) (s:Shared) (O:St) (H:Hp) (x:V) (v:Value) (Q:VK),Inv X a O H s->Ak x v->r x H Q ->
  wpAny (model X.prog X.w) X.A (f v) (EP X a O Q) X.xe s
def CT(X:Cx)(f:Value)(r:qE->Hp->VK->Prop):Prop:=
 ∀(a:List<|Addr×Obj) (s:Shared) (O:St) (H:Hp) (xs:qE) (b:ki) (Q:VK),Inv X a O H s->Al xs b->r xs H Q ->
  wpAny (model X.prog X.w) X.A (call f b) (EP X a O Q) X.xe s
def JN(r:R2)(c d:TE):TE:=λO H Q=>c O H λx a=>d O a λy b=>r x y b Q
def Xo(r:V->Hp->VK->Prop)(b:TE):TE:=λO H Q=>b O H λx a=>r x a Q
def rI(C:Int->Int->Prop)(g:Int->Int->V):R2:=λx y H Q=>∃i j,x=.int i/\y=.int j/\C i j/\Q (g i j) H
def FH(g:Int->Int->V):R2:=λx y H Q=>∃i j,x=.int i/\y=.int j/\Q (g i j) H
def rU(g:Int->V):V->Hp->VK->Prop:=λx H Q=>∃i,x=.int i/\Q (g i) H
section
variable {X:Cx}{a b c:Expr}{ta tb tc:TE}{pos:Pos}
def W6(e:PE X a ta)(g:PE X b tb){O:St}{R:V->V->Hp->Prop}(I:Inv X pz O H s)
  (h:ta O H λx H1=>tb O H1 λy H2=>R x y H2)  {f:Value->Value->Sem Value}
  (l:∀v u s2 x y H2,Inv X pz O H2 s2->Ak x v->Ak y u->R x y H2->wpAny (model X.prog X.w) X.A (f v u) Q X.xe s2) :
  wpAny (model X.prog X.w) X.A (eval a X.env) (λv s₁=>wpAny (model X.prog X.w) X.A (eval b X.env) (λu s₂=>wpAny (model X.prog X.w) X.A (f v u) Q X.xe s₂) X.xe s₁) X.xe s:=by
 refine A5 (e pz s O H _ I h) λv j c=>?_;let(x,H1,d,n,i):=c;refine A5 (g pz j O H1 _ d i) λu s2 c=>?_;let(y,H2,k,o,m):=c;grind
def pe_op(g:As X (binaryOp op) r)(e:PE X a ta)(f:PE X b tb):PE X (.BinOp a op b pos)<|JN r ta tb:=by
 intro i s O H Q I h;exact wpAny_BinOp<|W6 e f I h λv u l x y c d j k q=>g i l O c x y v u Q d j k q
def pe_un(d:Lq X (unaryOp op) r)(c:PE X a ta):PE X (.UnaryOp op a pos)<|Xo r ta:=by
 intro b s O H Q I h;exact UnaryOp_<|A5 (c b s O H _ I h) λv e ⟨x,H1,I1,r1,q1⟩=>d b e O H1 x v Q I1 r1 q1
def Ku{g:Int->Int->Int}
  (a:∀(i j ) (t u ) (s ) (Q ) (E ),C i j->Q (.int (g i j) s.toks) { s with toks:=s.toks+1 }->wpAny (model X.prog X.w) X.A (f (.int i t)<|.int j u) Q E s) :
  As X f (rI C λi j=>.int<|g i j):=by
 intro k s O H x y v u Q I c d h;let(i,j,rfl,rfl,b,q):=h;let(t,rfl):=c;let(e,rfl):=d;exact a i j t e s _ _ b {.int<|g i j,H,I.tok _,{_,rfl},q}
def NP{g:Int->Int->Int}
  (a:∀(i j ) (t u ) (s ) (Q ) (E ),Q (.int (g i j) s.toks) { s with toks:=s.toks+1 }->wpAny (model X.prog X.w) X.A (f (.int i t)<|.int j u) Q E s) :
  As X f (FH λi j=>.int<|g i j):=by
 intro e s O H x y v u Q I b c h;let(i,j,rfl,rfl,q):=h;let(t,rfl):=b;let(d,rfl):=c;exact a i j t d s _ _ {.int<|g i j,H,I.tok _,{_,rfl},q}
def NQ{g:Int->Int->Bool}
  (a:∀(i j ) (t u ) (s ) (Q ) (E ),Q (.bool<|g i j) s->wpAny (model X.prog X.w) X.A (f (.int i t)<|.int j u) Q E s) :
  As X f (FH λi j=>.bl<|g i j):=by
 intro e s O H x y v u Q I b c h;let(i,j,rfl,rfl,q):=h;let(t,rfl):=b;let(d,rfl):=c;exact a i j t d s _ _ {.bl<|g i j,H,I,rfl,q}
def CPow(i j:Int):Prop:=0<=j/\j<=1000000/\i.natAbs<2 ^ 64
def XO(i j:Int):Prop:=(-(2 ^ 64)<i/\i<2 ^ 64)\/(-(2 ^ 64)<j/\j<2 ^ 64)
def XO.ok(h:XO i j):IntMulOk i j:=by
 rcases h with ⟨a,b⟩|⟨a,b⟩;exact .of_left<|intBits_le_64 a b
 exact .of_right<|intBits_le_64 a b
theorem zp0:As X (binaryOp .Add)<|FH λi j=>.int<|i+j:=NP λϊ ϊ ϊ ϊ ϊ ϊ ϊ q=>add_int q
theorem zot:As X (binaryOp .Sub)<|FH λi j=>.int<|i - j:=NP λϊ ϊ ϊ ϊ ϊ ϊ ϊ q=>sub_int q
theorem ZY:As X (binaryOp .Mult)<|rI XO λi j=>.int<|i * j:=Ku λϊ ϊ ϊ ϊ ϊ ϊ ϊ a q=>mul_int q a.ok
theorem zl8:As X (binaryOp .Mod)<|rI (λϊ j=>j≠0) λi j=>.int<|i.fmod j:=Ku λϊ ϊ ϊ ϊ ϊ ϊ ϊ a q=>mod_int' a q
theorem zov:As X (binaryOp .Pow)<|rI CPow λi j=>.int<|i ^ j.toNat:=Ku λϊ ϊ ϊ ϊ ϊ ϊ ϊ a q=>pow_int_small a.1 a.2.1 a.2.2 q
theorem zoz:As X (binaryOp .BitAnd)<|FH λi j=>.int<|Builtin.bitAnd i j:=NP λϊ ϊ ϊ ϊ ϊ ϊ ϊ q=>and_int q
theorem op_or:As X (binaryOp .BitOr)<|FH λi j=>.int<|Builtin.bitOr i j:=NP λϊ ϊ ϊ ϊ ϊ ϊ ϊ q=>or_int q
def unI{g:Int->Int}
  (a:∀(i ) (t ) (s ) (Q ) (E ),Q (.int (g i) s.toks) { s with toks:=s.toks+1 }->wpAny (model X.prog X.w) X.A (f<|.int i t) Q E s) :
  Lq X f (rU λi=>.int<|g i):=by
 intro c s O H x v Q I b h;let(i,rfl,q):=h;let(t,rfl):=b;exact a i t s _ _ {.int<|g i,H,I.tok _,{_,rfl},q}
theorem zmo:Lq X (unaryOp .USub)<|rU λi=>.int<|-i:=unI λϊ ϊ ϊ ϊ ϊ q=>neg_int q
def Lb{O:St}(I:Inv X pz O H s)(q:Q (.bl k) H)(e:k=k'):EP X pz O Q (.bool k') s:=by
 subst e;exact{.bl k,H,I,rfl,q}
theorem op_lt:As X (compareOp .Lt)<|FH λi j=>.bl<|decide (i<j):=NQ λϊ ϊ ϊ ϊ ϊ ϊ ϊ q=>lt_int q
theorem Z0:As X (compareOp .LtE)<|FH λi j=>.bl<|decide (i<=j):=NQ λϊ ϊ ϊ ϊ ϊ ϊ ϊ q=>le_int q
theorem op_gt:As X (compareOp .Gt)<|FH λi j=>.bl<|decide (j<i):=NQ λϊ ϊ ϊ ϊ ϊ ϊ ϊ q=>gt_int q
theorem op_ge:As X (compareOp .GtE)<|FH λi j=>.bl<|decide (j<=i):=NQ λϊ ϊ ϊ ϊ ϊ ϊ ϊ q=>ge_int q
def zg6:As X (compareOp .In) (λx y H Q=>∃i j,x=.str i/\y=.str j/\Q (.bl<|!(Builtin.Str.occurrences j i 0 j.length 1).isEmpty) H):=by
 intro c s O H x y v u Q I a b h;let(i,j,rfl,rfl,q):=h;let(t,rfl):=a;let(d,rfl):=b;exact in_str<|Lb I q rfl
def zow:As X (compareOp .Is)<|λx y H Q=>y=.non/\Q (.bl<|decide (x=.non)) H:=by
 intro c s O H x y v u Q I a b h;let(rfl,q):=h;cases b;refine is_none_gen<|Lb I q ?_
 cases x<;>first
  |rfl
  |(let(t,rfl):=a;rfl)
def zl5:As X (compareOp .IsNot)<|λx y H Q=>y=.non/\Q (.bl<|!decide (x=.non)) H:=by
 intro c s O H x y v u Q I a b h;let(rfl,q):=h;cases b;refine isnot_none_gen<|Lb I q ?_
 cases x<;>first
  |rfl
  |(let(t,rfl):=a;rfl)
def zl2(i:As X (compareOp op) r)(e:PE X a ta)(f:PE X b tb)(g:behindInMarks op b=false):PE X (.Compare a [op] [b] pos)<|JN r ta tb:=by
 intro j s O H Q I h;exact wpAny_Compare1 (W6 e f I h λv u m x y c d k l q=>i j m O c x y v u Q d k l q) g
def Xp(t:TE):TT:=λO H Q=>t O H λx a=>∃k,x=.bl k/\Q k a
def zko(j:As X (compareOp op) r)(f:PE X a ta)(g:PE X b tb)(i:behindInMarks op b=false):PT X (.Compare a [op] [b] pos)<|Xp<|JN r ta tb:=by
 intro d s O H Q I h
 refine wpAny_isTrue_Compare1 (A5 (f d s O H _ I h) λv l ⟨x,H1,I1,r1,q1⟩=>A5 (g d l O H1 _ I1 q1) λu m ⟨y,H2,I2,r2,q2⟩=>
  A5 (j d m O H2 x y v u _ I2 r1 r2 q2) λc n ⟨z,H3,I3,r3,k,e,q3⟩=>?_) i
 subst e;cases r3;exact Ă {(H3),I3,q3}
def Q3(r e:R2)(f g h:TE):TE:=λO H Q=>f O H λx b=>g O b λy c=>r x y c λz a=>∃k,z=.bl k /\
 (if k=true then h O a λi d=>e y i d Q else Q (.bl false) a)
def zif(n:As X (compareOp op) r)(g:As X (compareOp op') r')(i:PE X a ta)(j:PE X b tb)(l:PE X c tc)
  (m:lastMarks [op,op'] [b,c]=false):PE X (.Compare a [op,op'] [b,c] pos)<|Q3 r r' ta tb tc:=by
 intro f s O H Q I h
 refine Compare_chain (A5 (i f s O H _ I h) λv o ⟨x,H1,I1,r1,q1⟩=>chain_link (A5 (j f o O H1 _ I1 q1) λu p ⟨y,H2,I2,r2,q2⟩=>
  A5 (n f p O H2 x y v u _ I2 r1 r2 q2) λd q ⟨z,H3,I3,r3,k,e,q3⟩=>?_)) m
 subst e;cases r3;refine Ă ?_;cases k with
 |false=>exact ite_ff {.bl false,H3,I3,rfl,q3}|true=>exact ite_tt<|chain_last<|A5 (l f q O H3 _ I3 q3) λw t ⟨A,H4,I4,r4,q4⟩=>g f t O H4 y A u w Q I4 r2 r4 q4
def zi8(t:As X (compareOp op) r)(g:As X (compareOp op') r')(n:PE X a ta)(o:PE X b tb)(p:PE X c tc)
  (q:lastMarks [op,op'] [b,c]=false):PT X (.Compare a [op,op'] [b,c] pos)<|Xp<|Q3 r r' ta tb tc:=by
 intro f s O H Q I h
 refine isTrue_chain (A5 (n f s O H _ I h) λv C ⟨x,H1,I1,r1,q1⟩=>test_link (A5 (o f C O H1 _ I1 q1) λu D ⟨y,H2,I2,r2,q2⟩=>
  A5 (t f D O H2 x y v u _ I2 r1 r2 q2) λd E ⟨z,H3,I3,r3,k,e,q3⟩=>?_)) q
 subst e;cases r3;refine Ă ?_;cases k with
 |false=>let(M,l,w):=q3;cases l;exact ite_ff {(H3),I3,w}
 |true=>
  refine ite_tt<|test_last<|A5 (p f E O H3 _ I3 q3) λG F ⟨J,H4,I4,r4,q4⟩=>A5 (g f F O H4 y J u G _ I4 r2 r4 q4) λL P K=>?_
  let(R,i,j,B,N,m,A):=K;subst m;cases B;exact Ă {(i),j,A}
def LM:(sizeLine:Nat)<2 ^ 63:=by rw[č];decide
def zf7:As X (binaryOp .Add) (λx y H Q=>∃i j,x=.str i/\y=.str j/\i.length+j.length<=sizeLine/\Q (.str<|i++j) H):=by
 intro e s O H x y v u Q I b c h;let(i,j,rfl,rfl,a,q):=h;let(t,rfl):=b;let(d,rfl):=c;exact add_str (λd tk=>{.str<|i++j,H,I.tok _,{_,rfl},q}) a
def Fq(r:Al [x] us):∃u,us=[u]/\Ak x u:=by
 cases r with
 |cons b a=>cases a;grind
def IG(r:Al [x,y] us):∃u w',us=[u,w']/\Ak x u/\Ak y w':=by
 cases r with
 |cons c a=>
  cases a with
  |cons d b=>cases b;grind
def zjl:CT X (.builtin "abs") (λxs H Q=>∃i,xs=[.int i]/\Q (.int (if i<0 then -i else i)) H):=by
 intro a s O H xs b Q I r h;let(i,rfl,q):=h;let(u,rfl,t,rfl):=Fq r;exact call_abs_int λu tk=>{.int (if i<0 then -i else i),H,I.tok _,{_,rfl},q}
def zhh(b:X.calm=true):CT X (.builtin "max") (λxs H Q=>∃i j,xs=[.int i,.int j]/\Q (.int (if j > i then j else i)) H):=by
 intro d s O H xs f Q I r h;let(i,j,rfl,q):=h;let(u,g,rfl,(t,rfl),(e,rfl)):=IG r;refine max_two_ints (I.ok.hd b) λc tk k=>{_,H,I.kept k,?_,q}
 by_cases a:j > i;rw[if_pos a,if_pos a];exact{_,rfl};rw[if_neg a,if_neg a];exact{_,rfl}
def zhg(b:X.calm=true):CT X (.builtin "min") (λxs H Q=>∃i j,xs=[.int i,.int j]/\Q (.int (if j<i then j else i)) H):=by
 intro d s O H xs f Q I r h;let(i,j,rfl,q):=h;let(u,g,rfl,(t,rfl),(e,rfl)):=IG r;refine min_two_ints (I.ok.hd b) λc tk k=>{_,H,I.kept k,?_,q}
 by_cases a:j<i;rw[if_pos a,if_pos a];exact{_,rfl};rw[if_neg a,if_neg a];exact{_,rfl}
def LenV(K:q9)(x:V)(H:Hp)(n:Nat):Prop:=
 match x with
 |.str y=>y.length<=sizeLine/\n=y.length|.byt y=>y.size<=sizeLine/\n=y.size|.ref p=>(∃xs,Ai K H p xs/\n=xs.length)\/∃xs,CJ K H p xs/\n=xs.length|ϊ=>False
def kM:CT X (.builtin "len") (λxs H Q=>∃x n,xs=[x]/\LenV X.K x H n/\Q (.int n) H):=by
 intro o s O H xs v Q I r h;let(x,n,rfl,e,q):=h;let(u,rfl,i):=Fq r;have l:=LM;have m :=č;cases x with
 |str y=>let(t,rfl):=i;let(j,b):y.length<=sizeLine/\n=y.length:=e;subst b;exact len_str (by lia) {.int _,H,I.tok _,{_,rfl},q}
 |byt y=>let(t,rfl):=i;let(j,b):y.size<=sizeLine/\n=y.size:=e;subst b;exact W.len_bytes (by lia) {.int _,H,I.tok _,{_,rfl},q}
 |ref p=>
  cases i;have b :=e
  rcases b with ⟨xs,c,b⟩|⟨xs,c,b⟩;subst b;let(d,g,f,k):=I.list c;have a:=g.length;exact Calls.call_len_list f.isList (by erw[ë];lia) {.int xs.length,H,I.tok _,{_,by erw[ë];rw[a]},q}
  subst b;let(d,g,f,k):=I.tuple c;have a:=g.length;exact len_tuple f (by grind) {.int xs.length,H,I.tok _,{_,by erw[ë];rw[a]},q}
 |_=>exact(e).elim
end
structure ObjM(h:Heap)(x dx C:Addr)(mA:Str->Option Value):Prop where
 obj:h.get? x=↑(W.instObj C dx)
 ns:h.Ns1 dx mA
 ne:dx≠x
def zgf{h:Heap}(n:h.Ns1 dx mA):∃od,h.get? dx=↑od/\∀name,W.lookIn name od=↑(mA name):=by
 let(o,c,i,f,hd,hk,_,d):=n;refine{o,f,λname=>?_};have e:=d name;unfold nsFind findBy at e;rw[<- Array.find?_toList]at e;unfold W.lookIn;rw[hd];dsimp only;split;grind
 have a:c.toList.any (·.refKey)=false:=by
  rw[List.any_eq_false];intro y g;let(z,t,b):=hk y<|Array.mem_toList_iff.mp g;simp[DictEntry.refKey,b]
 grind
def ObjM.look(I:ObjM h x dx C mA):∃od,PySem.W.InstAt h x (W.instObj C dx) C ↑od/\∀name,W.lookIn name od=↑(mA name):=
 let ⟨od,ho,hl⟩:=zgf I.ns
 {od,{(I.obj),rfl,rfl,ho},hl}
section
variable {prog:Program}{w:World}{A:Around}{E:Value->Shared->Prop}{s:Shared}{K:q9}{x dx C f:Addr}{mA:Str->Option Value}{name:Str}{v:Value}
def zm1(X:K.In s.heap)(I:ObjM s.heap x dx C mA)(c:W.plainGet K C name=true)(hh:W.hasDictIn K C=true)
  (b:W.findIn K (.ref C) name=↑none) (e:mA name=↑v) (a:W.handedIn v=true) (h:Q v { s with toks:=s.toks+1 }) :
  wpAny (model prog w) A (getAttr (.ref x) name expr) Q E s:=by
 let(f,Γ,d):=I.look;exact W.get_value X Γ (ŭ c).1 (W.findObj_own hh b rfl<|by rw[d,e]) a h
def zj6(X:K.In s.heap)(I:ObjM s.heap x dx C mA)(a:W.plainGet K C name=true)
  (b:W.findIn K (.ref C) name=↑(↑(.ref f))) (c:W.isFn K (.ref f)=true) (g:mA name=none) (h:Q (.ref f,[.ref x]) s) :
  wpAny (model prog w) A (getMethod (.ref x) name pl) Q E s:=by
 let(d,Γ,e):=I.look;exact W.method_fn X Γ (ŭ a).1 (ŭ a).2 b (beq_iff_eq.mp c) (by show(W.lookIn name d).map (·.isSome)=↑false;grind) h
def zk5(X:K.In s.heap)(I:ObjM s.heap x dx C mA)
  (m:W.findIn K (.ref C) "__setattr__"=↑(↑(.builtin "object.__setattr__"))) (l:W.plainOver K C=true) (o:W.takerIn K C name=↑none) (hh:W.hasDictIn K C=true)
  (p:PySem.Within mA ns) (n:ns.length<=sizeLine)
  (h:∀h',ObjM h' x dx C (λy=>if y=name then ↑v else mA y)->Heap.SameBut dx s.heap h'->Q () { s with heap:=h',toks:=s.toks+2 }) :
  wpAny (model prog w) A (setAttr (.ref x) name v) Q E s:=by
 let(u,Γ,r):=I.look;refine W.set_plain X Γ m<|W.osa_open X Γ l o λb=>?_
 let(cd,k,e):=W.any_some hh;have q :=I.obj;refine Â<|Ð<|Â<|Â<|wpAny_loadPart q<|Â<|PySem.W.Looks.here (W.looks_clsIn X k) ?_;rw[e];refine Ð<|Â<|Ð<|Â ?_;refine wpAny_nsSet1 I.ns λh' a c=>?_
 let(t,j,i,g,f,d):=a.count<|PySem.Within.cons name v p;refine Â<|wpAny_lookBehind g (by rw[f];exact pastItsLine_dict<|Õ d<|by grind) ?_
 exact Ð<|h _ {(c.2 _<|Ë I.ne).trans I.obj,a,I.ne} c
def zio(X:K.In s.heap)(c:W.makesIn K C=true)
  (b:W.findIn K (.ref C) "__init__"=↑(↑(.ref f))) (a:W.typeIn K (.ref f)=↑(.type "function"))
  (h : codeAny (model prog w) (A.under<|.builtin "type.__call__" {.ref C :: vs, kw}) (.call (.ref f) {.ref (s.heap.objs.size + 1) :: vs, kw}) (PySem.W.InitBack (s.heap.objs.size + 1) R)
   { s with heap:=(s.heap.push W.emptyDict).push (W.instObj C s.heap.objs.size) }) :
  codeAny (model prog w) A (.call (.ref C) {(vs),kw}) R s:=by
 exact W.make_core (W.makes_of X c) (W.looks_findIn X b) (λself=>W.bind_fn X self a) (.inl rfl) h
end
def DL(f:Str)(v:V):List (Str×V)->List (Str×V)
 |[]=>[(f,v)]|(g,x)::r=>if g=f then (g,v)::r else (g,x)::DL f v r
theorem eO(f g)(v):∀fs ,(DL f v fs).lookup g=if g=f then ↑v else fs.lookup g
 |[]=>by
  show List.lookup g [(f,v)]=_;grind
 |(k,x)::r=>by
  have a:=eO f g v r;rw[show DL f v ((k,x)::r)=(if k=f then (k,v)::r else (k,x)::DL f v r) from rfl];grind
def Uc(f)(v):∀fs ,f∈(DL f v fs).map (·.1)/\∀g,g∈fs.map (·.1)->g∈(DL f v fs).map (·.1)
 |[]=>{by simp[DL],λg h=>by simp at h}|(k,x)::r=>by
  let(a,b):=Uc f v r;rw[show DL f v ((k,x)::r)=(if k=f then (k,v)::r else (k,x)::DL f v r) from rfl];grind
def e8(f)(v):∀fs ,(DL f v fs).length<=fs.length+1
 |[]=>by simp[DL]|(k,x)::r=>by
  have a:=e8 f v r;rw[show DL f v ((k,x)::r)=(if k=f then (k,v)::r else (k,x)::DL f v r) from rfl];grind
def E2.some_of(r:E2 ↑v o):∃u,o=↑u/\Ak v u:=by
 cases o with
 |none=>exact(r).elim|some u=>exact{(u),rfl,r}
def E2.none_of(r:E2 none o):o=none:=by
 cases o with
 |none=>rfl|some u=>exact(r).elim
def zgm(r:Ak v u):W.handedIn u=true:=by
 cases v with
 |non=>cases (r);rfl|bl b=>cases (r);rfl|int i=>let(t,e):=(r);cases e;rfl
 |str x=>let(t,e):=(r);cases e;rfl
 |byt b=>let(t,e):=(r);cases e;rfl
 |flt b=>let(t,e):=(r);cases e;rfl
 |ref a=>cases (r);rfl|ty n=>cases (r);rfl
section
variable {P:Program}{w:World}{H H':Hp}{h h':Heap}{a C dx:Addr}{fs fs':List<|Str×V}
def OD(hok:HOk P w H h)(e:H a=↑(.ins C dx fs)):∃mA,ObjM h a dx C mA/\(∀f,E2 (fs.lookup f)<|mA f)/\PySem.Within mA (fs.map (·.1))/\fs.length<=1000/\H dx=↑(.own a):=by
 let(d,z,ne,ob,mA,n,r,q):=(hok a _ e);exact{mA,{(ob),n,ne},r,q,z,d}
end
structure Cls(K:q9)(C:Addr):Prop where
 pg:W.plainGet K C Str.empty=true
 hd:W.hasDictIn K C=true
 po:W.plainOver K C=true
 sa:W.findIn K (.ref C) "__setattr__"=↑(↑(.builtin "object.__setattr__"))
def Cls.get{K}(c:Cls K C)(f):W.plainGet K C f=true:=c.pg
def B7(K:q9)(C:Addr)(f:Str):Prop:=W.findIn K (.ref C) f=↑none
def B7.taker{K}(n:B7 K C f):W.takerIn K C f=↑none:=by
 unfold W.takerIn;rw[n];rfl
structure Meth(K:q9)(C:Addr)(m:Str)(f:Addr):Prop where
 at_:W.findIn K (.ref C) m=↑(↑(.ref f))
 fn:W.isFn K (.ref f)=true
 kp:W.keepIn K (.ref f)=true
section
variable {X:Cx}{pz:List<|Addr×Obj}{O:St}{H:Hp}{s:Shared}{a C dx:Addr}{fs:List<|Str×V}{f:Str}{v:V}{A:Around}{E:Value->Shared->Prop}
def zfk(I:Inv X pz O H s)(e:H a=↑(.ins C dx fs))(c:Cls X.K C)(n:B7 X.K C f)(l:fs.lookup f=↑v)
  (h:∀u s',Inv X pz O H s'->Ak v u->Q u s'):wpAny (model X.prog X.w) A (getAttr (.ref a) f b) Q E s:=by
 let(i,σ,r,_,_,_):=OD I.hok e;let(u,g,d):=E2.some_of (v:=v) (o:=i f)<|by grind
 exact zm1 I.kIn σ (c.get f) c.hd n g (zgm d)<|h u _ (I.tok _) d
def gI(I:Inv X pz O H s)(e:H a=↑(.ins C dx fs))(c:Cls X.K C)(k:Meth X.K C m g)(l:fs.lookup m=none)
  (h:Q (.ref g,[.ref a]) s):wpAny (model X.prog X.w) A (getMethod (.ref a) m pl) Q E s:=by
 let(d,σ,r,_,_,_):=OD I.hok e;have b:d m=none:=E2.none_of<|by grind
 exact zj6 I.kIn σ (c.get m) k.at_ k.fn b h
def zf4(I:Inv X pz O H s)(e:H a=↑(.ins C dx fs))(c:Cls X.K C)(n:B7 X.K C f)(v:fs.length<1000)(t:Ak y u)
  (h:∀s',Inv X pz O (upd H a<|.ins C dx<|DL f y fs) s'->Q () s'):wpAny (model X.prog X.w) A (setAttr (.ref a) f u) Q E s:=by
 let(w,σ,r,j,_,i):=OD I.hok e;have p:(fs.map (·.1)).length<=sizeLine:=by rw[À,č];lia
 refine zk5 I.kIn σ c.sa c.po n.taker c.hd j p λk d sb=>h _ ?_;have hd:∃o,k.get? dx=↑o:=let ⟨o,_,_,e',_⟩:=d.ns;{(o),e'};refine I.write (by rw[e];exact True.intro) (.inr i) (λb q l z=>(sb.2 b l).trans z) hd ?_
 refine{by rw[BF σ.ne];exact i,?_,σ.ne,d.obj,_,d.ns,λg=>?_,λg m=>?_};have:=e8 f y fs;lia;rw[eO];by_cases q:g=f;rw[if_pos q,if_pos q];exact t;rw[if_neg q,if_neg q];exact r g;by_cases q:g=f;rw[q];exact(Uc f y fs).1;refine(Uc f y fs).2 g (j g λz=>m ?_);grind
def Inv.made(I:Inv X pz O H s):Inv X pz O (upd (upd H s.heap.objs.size<|.own<|s.heap.objs.size+1) (s.heap.objs.size+1)<|.ins C s.heap.objs.size [])
  { s with heap:=(s.heap.push W.emptyDict).push (W.instObj C s.heap.objs.size) }:=by
 have a:(s.heap.push W.emptyDict).get? s.heap.objs.size=↑W.emptyDict:=â s.heap rfl
 have d:((s.heap.push W.emptyDict).push (W.instObj C s.heap.objs.size)).get? (s.heap.objs.size+1)=↑(W.instObj C s.heap.objs.size):=by
  have:=â (s.heap.push W.emptyDict) (o:=W.instObj C s.heap.objs.size) rfl;simp_all
 have f:(s.heap.push W.emptyDict).Ns s.heap.objs.size (λϊ=>none):={W.emptyDict,#[],_,a,rfl,(λe g=>absurd g<|by simp),λϊ=>rfl};have c:=I.laid (o:=.own<|s.heap.objs.size+1) (t':=s.toks) (λb u q=>Ó _ q) (Ä _) {_,a};refine c.laid (λb u q=>Ó _ q) (Nat.le_of_eq<|Ė _ _) ?_;have ne:s.heap.objs.size≠s.heap.objs.size+1:=Ô<|ċ _;refine{by rw[BF ne,C2],ò _,ne,d,λϊ=>none,(Heap.Ns1.of_empty f).at λo q=>Ó _ q,λϊ=>True.intro,λy h=>absurd rfl h}
theorem zmg(a:attributeBase e f env (eval e env)=eval e env)
  (h:wpAny (model prog w) A (eval e env) (λo s₁=>wpAny (model prog w) A (getAttr o f true) Q E s₁) E s):wpAny (model prog w) A (eval (.Attribute e f pos) env) Q E s:=
 Attribute_any_ h (by rw[arm_eval_Attribute,a])
end
def tFld(K:q9)(d:TE)(f:Str):TE:=λO H Q=>d O H λx b=>∃a C c fs v,x=.ref a/\b a=↑(.ins C c fs)/\Cls K C/\B7 K C f/\fs.lookup f=↑v/\Q v b
def sFld(K:q9)(e g:TE)(f:Str):TS:=λD O H=>g O H λy d=>e O d λx b=>∃a C c fs,x=.ref a/\b a=↑(.ins C c fs)/\Cls K C/\B7 K C f/\fs.length<1000 /\
 D.nx O (upd b a<|.ins C c<|DL f y fs)
section
variable {X:Cx}{o e value:Expr}{f:Str}{pos pos' tpos:Pos}{ta tv:TE}
def NI(k:PE X e ta)(j:attributeBase e f X.env (eval e X.env)=eval e X.env):PE X (.Attribute e f pos)<|tFld X.K ta f:=by
 intro m s O H Q I h;refine zmg j<|A5 (k m s O H _ I h) λu w r=>?_
 let(x,b,d,p,a,C,t,fs,v,ex,i,c,n,l,q):=r;subst ex;obtain rfl:u=Value.ref a:=p;exact zfk d i c n l λz y g o=>{(v),b,g,o,q}
def ZD(i:PE X o ta)(k:PE X value tv)(j:swapsWith value (↑(.Attribute o f pos')) pos.line X.env=pure false):PS X (.Assign [.Attribute o f pos'] value pos)<|sFld X.K ta tv f:=by
 intro b s O H D I h;refine plainObj_wpAny_Assign_Attribute (A5 (k b s O H _ I h) λu t ⟨y,H1,I1,ry,q⟩=>A5 (i b t O H1 _ I1 q) λm A v=>?_) j;let(x,w,d,r,a,C,z,fs,ex,g,c,n,l,p):=v;subst ex;obtain rfl:m=Value.ref a:=r;exact zf4 d g c n l ry λB e=>{O,_,e,p}
end
section
variable {X:Cx}{pz:List<|Addr×Obj}{O:St}{H:Hp}{s:Shared}{A:Around}{E:Value->Shared->Prop}{Q:Value->Shared->Prop}{c:Value}{b:Bool}
inductive TyOf(K:q9)(H:Hp):V->Value->Prop where
 |non:TyOf K H .non<|.type "NoneType"
 |bl (x:Bool):TyOf K H (.bl x)<|.type "bool"
 |int (i:Int):TyOf K H (.int i)<|.type "int"
 |str (x:Str):TyOf K H (.str x)<|.type "str"
 |flt (x:UInt64):TyOf K H (.flt x)<|.type "float"
 |lst {a:Addr} {xs:List V} (e:H a=↑(.lst xs)):TyOf K H (.ref a)<|.type "list"
 |frz {a:Addr} {o:Obj} {xs:List V} (e:H a=↑(.frz o<|.lst xs)):TyOf K H (.ref a)<|.type "list"
 |tup {a:Addr} {xs:List V} (e:H a=↑(.tup xs)):TyOf K H (.ref a)<|.type "tuple"
 |dK {a:Addr} {kvs:List<|Key×V} (e:H a=↑(.dK kvs)):TyOf K H (.ref a)<|.type "dict"
 |dT {a:Addr} {kvs:List<|List Key×V} (e:H a=↑(.dT kvs)):TyOf K H (.ref a)<|.type "dict"
 |ins {a C dx:Addr} {fs:List<|Str×V} (e:H a=↑(.ins C dx fs)) (cl:Cls K C) (ha:W.findIn K (.ref C) "__class__"=↑(↑(.builtin "object.__class__")))
   (hn:W.specialIn K (.builtin "object.__class__") "__get__"=↑(↑(.builtin "getset_descriptor.__get__"))) (htk:W.takesIn K (.builtin "object.__class__")=↑true)
   (hm:W.mroIn K C (.type "object")=↑true):TyOf K H (.ref a)<|.ref C
def Ui{x:V}  (I:Inv X pz O H s)(f:Ak x u)(ty:TyOf X.K H x t)(e:W.kitOne X.K t c=↑b)(h:∀tk,Q (.bool b) { s with toks:=tk }) :
  wpAny (model X.prog X.w) A (call (.builtin "isinstance") [u,c]) Q E s:=by
 cases ty with
 |non=>cases (f);exact î W.kitx_none I.kIn True.intro e (λz=>nomatch z) h
 |bl y=>cases (f);exact î W.kitx_bool I.kIn True.intro e (λz=>nomatch z) h
 |int i=>let(t,q):=(f);cases q;exact î W.kitx_int I.kIn True.intro e (λz=>nomatch z) h
 |str y=>let(t,q):=(f);cases q;exact î W.kitx_str I.kIn True.intro e (λz=>nomatch z) h
 |flt y=>let(t,q):=(f);cases q;exact î W.kitx_float I.kIn True.intro e (λz=>nomatch z) h
 |@lst a xs d=>cases (f);let(_,_,n,_,g):=(I.hok a _ d);exact î ŵ I.kIn {_,g,rfl} e (λz=>nomatch z) h
 |@frz a ob xs d=>cases (f);let(_,_,_,n,_,g):=(I.hok a _ d);exact î ŵ I.kIn {_,g,rfl} e (λz=>nomatch z) h
 |@tup a xs d=>cases (f);let(_,_,_,p):=(I.hok a _ d);let(o,g,j,_):=p;exact î W.kitx_tuple I.kIn {(o),g,j} e (λz=>nomatch z) h
 |@dK a l d=>cases (f);let(_,_,J,_,p):=(I.hok a _ d);let(o,r,m,g,j,_):=p;exact î Ŷ I.kIn {(o),g,j.1} e (λz=>nomatch z) h
 |@dT a l d=>cases (f);let(_,_,xs,_,o,r,m,g,j,_):=(I.hok a _ d);exact î Ŷ I.kIn {(o),g,j.1} e (λz=>nomatch z) h
 |@ins a C D fs d cl v B k w=>cases (f);let(F,σ,_):=OD I.hok d;let(G,Γ,_):=σ.look;exact î (W.kitx_own (cl.get _) cl.hd v B k w) I.kIn Γ e (λz=>nomatch z) h
end
structure Room(k:Nat)(A:Around):Prop where
 hd:A.handled=none
 dp:A.depth+3 * k+5<recursionLimit
 un:A.units+16 * k+200<cLine
theorem Room.mono(r:Room k A)(h:j<=k):Room j A:={r.hd,by have:=r.dp;lia,by have:=r.un;lia}
theorem Room.deeper(r:Room (k+1) A)(env):Room k<|A.deeper env:=
 {r.hd,by have:=r.dp;show A.depth+1+3 * k+5<_;lia,by have:=r.un;show A.units+3+16 * k+200<_;lia}
def zfa{A:Around}:(A.under<|.builtin "type.__call__" {.ref C::us,kw}).depth=A.depth+1:=by
 rfl
def zf9{A:Around}:(A.under<|.builtin "type.__call__" {.ref C::us,kw}).units=A.units+1:=by
 rfl
theorem Room.make(r:Room (k+1) A)(C)(us)(kw):Room k<|A.under<|.builtin "type.__call__" {.ref C::us,kw}:=
 {r.hd,by have:=r.dp;rw[zfa];lia,by have:=r.un;rw[zf9];lia}
def Room.depth(r:Room k A):A.depth<recursionLimit:=by have:=r.dp;lia
def Room.units(r:Room k A):A.units+64<cLine:=by have:=r.un;lia
def Xv:TA:=λϊ H Q=>Q [] H
def tCons(c:TE)(tr:TA):TA:=λO H Q=>c O H λx a=>tr O a λxs b=>Q (x::xs) b
section
variable {X:Cx}{e:Expr}{es:ku}{te:TE}{t:TA}{pos:Pos}
theorem GA:PA X [] Xv:=λϊ ϊ ϊ ϊ H Q I h=>Calls.spliced_nil {[],H,I,.nil,h}
def FK(d:PE X e te)(f:PA X es t)(g:starEach (e::es) X.env=(false,eval e X.env)::starEach es X.env:=by rfl):PA X (e::es)<|tCons te t:=by
 intro pos a s O H Q I h;rw[g];refine Calls.spliced_cons<|A5 (d a s O H _ I h) λu k l=>?_
 let(x,b,c,j,i):=l;exact A5 (f pos a k O b _ c i) λn m ⟨xs,H2,I2,r2,q2⟩=>{x::xs,H2,I2,.cons j r2,q2}
def tTup(t:TA):TE:=λO H Q=>t O H λxs a=>xs.length<=sizeLine/\∀p,a p=none->Q (.ref p) (upd a p<|.tup xs)
def tLst(t:TA):TE:=λO H Q=>t O H λxs a=>xs.length<=sizeLine/\∀p,a p=none->Q (.ref p) (upd a p<|.lst xs)
def zol(h:PA X es t):PE X (.Tuple es x1 pos)<|tTup t:=by
 intro f s O H Q I d;refine wpAny_Tuple_spliced<|A5 (h pos f s O H _ I d) λg a ⟨xs,H1,I1,r,z,q⟩=>{by rw[<- r.length];exact z,?_}
 have c :=I1.hok.fresh<|Ä _;refine{.ref a.heap.objs.size,upd H1 a.heap.objs.size<|.tup xs,I1.laid (λb u e=>Ó _ e) (Ä _) ?_,rfl,q _ c}
 exact{z,g,r,{_,â _ rfl,rfl,_,rfl}}
def zop(h:PA X es t):PE X (.List es pos)<|tLst t:=by
 intro f s O H Q I d;refine wpAny_List_spliced<|A5 (h pos f s O H _ I d) λg a ⟨xs,H1,I1,r,z,q⟩=>{by rw[<- r.length];exact z,?_}
 have c :=I1.hok.fresh<|Ä _;refine{.ref a.heap.objs.size,upd H1 a.heap.objs.size<|.lst xs,I1.laid (λb u e=>Ó _ e) (Ä _) ?_,rfl,q _ c}
 exact{z,g,0,r,â _ rfl}
end
abbrev Sp:=qE->Hp->VK->XK->Prop
abbrev Gc:=List Env->Hp->Shared->XK->Value->Shared->Prop
structure Env0(P:Program)(w:World)(K:q9)(mg:Str->Option Value)(base:Heap)(A:Around)(outer:List Env)(s:Shared)(H:Hp):Prop where
 frames:A.frames=↑outer
 mod:Mod K mg base
 bs:∀b o,base.get? b=↑o->s.heap.get? b=↑o/\H b=none
 bsz:base.objs.size<=s.heap.objs.size
 funs:s.heap.FunFrames base outer
 frf:∀b∈Bg outer,H b=none
 hok:HOk P w H s.heap
 bare:AllBare s.gens
def CE(outer:List Env)(P:Program)(w:World)(H:Hp)(s:Shared)(Q:VK)(u:Value)(s':Shared):Prop:=
 ∃v a,s'.os=s.os/\AllBare s'.gens/\Un (Bg outer) [] H a s.heap s'.heap/\HOk P w a s'.heap/\Ak v u/\Q v a
def CR(CX:Gc)(outer:List Env)(P:Program)(w:World)(H:Hp)(s:Shared)(Q:VK)(E:XK)(r:Result)(s':Shared):Prop:=
 match r with
 |.ok (.ret u)=>CE outer P w H s Q u s'|.ok ϊ=>False|.error e=>CX outer H s E e s'
structure FnOk(P:Program)(w:World)(K:q9)(mg:Str->Option Value)(base:Heap)(CX:Gc)(k:Nat)(f:Addr)(fd:FuncData)(ps:ky)(sp:Sp):Prop where
 len:∀vs H Q E,sp vs H Q E->vs.length=ps.length
 run:∀(A:Around) (outer:List Env) (s:Shared) (H:Hp) (args:Args) (us:ki) (vs:qE) (Q:VK) (E:XK),Room k A->Env0 P w K mg base A outer s H->BindsTo s fd args (ps.zip us)->Al vs us->sp vs H Q E ->
  codeAny (model P w) A (.call (.ref f) args) (CR CX outer P w H s Q E) s
theorem Env0.make{w:World}{K}{s:Shared}{H:Hp}(e:Env0 P w K mg base A outer s H)(C:Addr)(us)(kw) :
  Env0 P w K mg base (A.under<|.builtin "type.__call__" {.ref C::us,kw}) outer s H:={by first|exact e.frames|rfl,e.mod,e.bs,e.bsz,e.funs,e.frf,e.hok,e.bare}
section
variable {X:Cx}{pz:List<|Addr×Obj}{O:St}{H:Hp}{s s':Shared}
theorem Inv.env0(I:Inv X pz O H s):Env0 X.prog X.w X.K X.mg X.base X.A X.stack s H:=
 {I.ok.frames,I.ok.mod,I.bs,Õ I.ok.bsz I.sz,I.stack,I.stkFree,I.hok,I.bare}
def Inv.after(I:Inv X pz O H s)(h:CE X.stack X.prog X.w H s Q u s'):EP X pz O Q u s':=by
 let(v,c,os,bare,un,hok,r,q):=h;let(hh,g,d,t,a):=s';obtain rfl:a=s.os:=os;exact{v,c,I.call un hok bare<|λb z=>absurd z<|by simp,r,q}
end
def Cn(K:q9)(fd:FuncData)(ps:ky)(ds:ki):Prop:=
 ∀(s:Shared) (a:ki),K.In s.heap->(a++ds).length=ps.length->BindsTo s fd {a,[]} (ps.zip<|a++ds)
theorem Cn.all{K }   (h:∀us ,us.length=ps.length->bindArgs fd {us,[]}=pure (ps.zip us)):Cn K fd ps []:=λs us ϊ a=>by
 rw[è]at a ⊢;exact .of_eq<|h us a
section
variable {X:Cx}{CX:Gc}{k:Nat}{f C:Addr}{fd:FuncData}{ps:ky}{sp:Sp}{dvs:qE}{ds:ki}{E:XK}{x m:Str}{p pos apos:Pos}{e o:Expr}{es:ku}{ta:TE}{t:TA}
structure Mk(K:q9)(C f:Addr):Prop where
 makes:W.makesIn K C=true
 init:W.findIn K (.ref C) "__init__"=↑(↑(.ref f))
 fn:W.isFn K (.ref f)=true
 kp:W.keepIn K (.ref C)=true
end
section
variable {X:Cx}{CX:Gc}{k:Nat}{f C:Addr}{fd:FuncData}{ps ks:ky}{sp:Sp}{E:XK}{x m:Str}{p pos apos kpos:Pos}{e o:Expr}{es:ku}{kws:List Keyword}{te ta:TE}{t tk:TA}{nm:Option Str}
variable {g:ki->ki->ki}{gV:qE->qE->qE}
end
structure FnScope(N P:ky)(sc:Scope):Prop where
 kind:sc.kind=.function
 co:sc.isCoroutine=false
 gen:sc.isGenerator=false
 nd:N.Nodup
 pre:N.take P.length=P
 par:∀x∈P,sc.names.lookup x=↑.local\/sc.names.lookup x=↑.cell
 nofree:∀y∈sc.names,y.2≠.free
def kY{kindOf}:∀{binds} {m},(∀v,(x,v)∉binds)->bindL kindOf binds m x=m x
 |[],ϊ,ϋ=>rfl|(n,v)::r,m,h=>by
  unfold bindL;rw[kY λw a=>h w<|Í _ a];split;grind;rfl
def k6{kindOf}:∀{binds} {m},(∀v,(x,v)∉binds)->bindC kindOf binds m x=m x
 |[],ϊ,ϋ=>rfl|(n,v)::r,m,h=>by
  unfold bindC;rw[k6 λw a=>h w<|Í _ a];split;rfl;grind
def kZ{kindOf}{x:Str}{v}:∀{P:ky} {vs} {i:Nat} {m},P.Nodup->P[i]?=↑x->vs[i]?=↑v->kindOf x=↑.local ->
  bindL kindOf (P.zip vs) m x=↑v
 |[],ϊ,ϋ,ό,ύ,h,ώ,Ϗ=>by simp at h|ϊ::ϋ,[],ό,ύ,ώ,Ϗ,h,ϐ=>by simp at h|p::P,w::vs,0,m,nd,a,b,hk=>by
  simp at a b;subst a;subst b;show bindL kindOf ((p,w)::P.zip vs) m p=_;unfold bindL;rw[kY λv c=>(ĸ.mp nd).1 (List.of_mem_zip c).1,if_pos hk]
  simp
 |p::P,w::vs,i+1,m,nd,a,b,hk=>by
  unfold bindL;exact kZ (i:=i) (ĸ.mp nd).2 (by grind) (by grind) hk
def k7{kindOf}{x:Str}{v}:∀{P:ky} {vs} {i:Nat} {m},P.Nodup->P[i]?=↑x->vs[i]?=↑v->kindOf x≠↑.local ->
  bindC kindOf (P.zip vs) m x=↑v
 |[],ϊ,ϋ,ό,ύ,h,ώ,Ϗ=>by simp at h|ϊ::ϋ,[],ό,ύ,ώ,Ϗ,h,ϐ=>by simp at h|p::P,w::vs,0,m,nd,a,b,hk=>by
  simp at a b;subst a;subst b;show bindC kindOf ((p,w)::P.zip vs) m p=_;unfold bindC;rw[k6 λv c=>(ĸ.mp nd).1 (List.of_mem_zip c).1,if_neg hk]
  simp
 |p::P,w::vs,i+1,m,nd,a,b,hk=>by
  unfold bindC;exact k7 (i:=i) (ĸ.mp nd).2 (by grind) (by grind) hk
def start(N:ky)(vs:qE):St:=vs.map some++List.replicate (N.length - vs.length) none
def G0(CX:Gc)(P:Program)(w:World)(K:q9)(mg:Str->Option Value)(base:Heap)(N:ky)(b:Str)(a:Scope)(f:Addr)(cd:Value)(A:Around)(outer:List Env)(s:Shared)(H:Hp)(E:XK):Cx where
 prog:=P
 w:=w
 K:=K
 mg:=mg
 base:=base
 A:=A.deeper (envOfC b a s.heap.objs.size f cd)
 N:=N
 s₀:=s
 H₀:=H
 env:=envOfC b a s.heap.objs.size f cd
 outer:=outer
 stack:=envOfC b a s.heap.objs.size f cd::outer
 ex:=[]
 calm:=true
 fn:=λϊ=>true
 pn:=[]
 xe:=λe g=>wpAny (model P w) (A.deeper<|envOfC b a s.heap.objs.size f cd) (leaving (envOfC b a s.heap.objs.size f cd) e) (λϊ c=>CX outer H s E e c) (λd c=>CX outer H s E d c) g
def kJ{a:Scope}(h:a.names.lookup x=↑.cell):∃c,(cellsFrom n a.names []).lookup x=↑c:=by
 have q:=W.cellsFrom_some a.names n []<|.inl h;exact Ń.mp q
def zgj{CX:Gc}{P:Program}{w:World}{K:q9}{base:Heap}{N ps:ky}{g:Str}{d:Scope}{f:Addr}{cd:Value}{A:Around}{s F:Shared}{H:Hp}{E:XK}{vs:qE}
  (S:FnScope N ps d) (hd:A.handled=none) (l:Env0 P w K mg base A outer s H) (M:vs.length=ps.length) (r:Al vs us)
  (x:InCallC s s.heap.objs.size (bindL (envOfC g d s.heap.objs.size f cd).kindOf (ps.zip us) λϊ=>none) (cellsFrom (s.heap.objs.size+1) d.names []) (bindC (envOfC g d s.heap.objs.size f cd).kindOf (ps.zip us) λϊ=>none) F) :
  Inv (G0 CX P w K mg base N g d f cd A outer s H E) [] (start N vs) H F:=by
 have I :=by have:=congrArg List.length S.pre;rw[û]at this;lia
 let(B,tk,rfl,hk):=x.done;have n:∀b ,b∉(G0 CX P w K mg base N g d f cd A outer s H E).ex:=λb z=>absurd (show b∈[] from z)<|by simp
 refine{{l.mod,S.kind,rfl,rfl,Ä _,λy z c B j=>?_,λy m=>?_,λy c ϊ h=>?_,λϊ=>hd,Around.frames_deeper l.frames,.inr {(rfl),rfl},λb z=>absurd z<|n b,l.bs,l.bsz,λb ϊ ϊ=>n b,λb z=>absurd z<|n b,l.funs,l.frf},
  rfl,l.bare,Un.kept hk,{_,x.toInCall.ns,λi y v B j L=>?_},λy c h=>{_,x.cell y c h},l.hok.fresh<|Ä _,λy c h=>?_,λp o=>absurd (show p∈[] from o) (by simp),l.hok.kept hk,?_}
 exact name_of_addr x.apart (ĉ B)<|ĉ j
 have m :=m;rcases m with m|m;exact kJ m;exact absurd rfl<|S.nofree _<|ĉ m
 exact Ř<|x.above y c<|ĉ h
 have C:i<vs.length:=by
  unfold start at j;by_cases C:i<vs.length;exact C;rw[ą<|by simpa using C]at j;rw[Ť]at j;split at j<;>cases j
 have G:vs[i]?=↑v:=by
  unfold start at j;rw[ô (by simpa using C),Î]at j;cases e:vs[i]? with
  |none=>rw[e]at j;cases j|some a=>rw[e]at j;cases j;rfl
 let(u,D,J):=r.get G
 have o:ps[i]?=↑y:=by
  rw[<- S.pre,ţ<|by lia];exact B
 have t:ps.Nodup:=by rw[<- S.pre];exact S.nd.sublist<|List.take_sublist _ _
 refine{u,J,?_};rcases S.par y (ĳ o) with k|k;exact .inl {k,kZ t o D k};let(c,e):=kJ k;refine .inr {.inl k,c,e,?_};have q:=x.cell y c e;rw[k7 t o D (by show d.names.lookup y≠_;rw[k];decide)]at q
 exact q;exact l.hok.fresh<|Ř<|x.above y c<|ĉ h
 unfold start;show _=N.length;rw[Ü,À,ň]
 lia
def fn_of{CX:Gc}   {K }   {k:Nat}{f:Addr}     {F kV h G a ct U:Value}
   {sp:Sp} (lk:K.lookup f=↑{U,od,.func<|W.fnOf name qual params body scope F kV h G an a ct,osl}) (m:W.codeIn K a qual=true) (S:FnScope N ps scope)
  (len:∀vs H Q E,sp vs H Q E->vs.length=ps.length)
  (c : ∀ (A : Around) (outer ) (s : Shared) (H : Hp) (vs : qE) (Q : VK) (E : XK), Room k (A.deeper<|envOfC qual scope s.heap.objs.size f a) -> sp vs H Q E ->
   ∃t,Bf (G0 CX P w K mg base N qual scope f a A outer s H E) body t/\t { nx:=λϊ H'=>Q .non H',rt:=Q } (start N vs) H) :
  FnOk P w K mg base CX (k+1) f (W.fnOf name qual params body scope F kV h G an a ct) ps sp:=by
 refine{len,λA outer s H D X vs Q E p i L r j=>?_};have O:=len _ _ _ _ j;have C :=i.mod.kin.keeps λb o e=>(i.bs b o e).1
 have BI :=i.mod.nolimit.keeps λb o e=>(i.bs b o e).1
 have d:∀y∈ps.zip X,scope.names.lookup y.1=↑.local\/(scope.names.lookup y.1=↑.cell/\((cellsFrom (s.heap.objs.size+1) scope.names []).lookup y.1).isSome=true):=λ⟨n,v⟩ hy=>by
  rcases S.par n (List.of_mem_zip hy).1 with q|q;exact .inl q;exact .inr {q,W.cellsFrom_some _ _ _<|.inl q}
 refine codeAny_call_function p.depth (C _ _ lk) rfl S.co S.gen rfl (W.codeRec_of C m)<|L _ _ _ _ ?_;refine wpAny_newFunctionEnv_cells S.kind d λenv M J x=>?_
 subst M;refine{BI.keeps x.toInCall.keep,codeAny_func ?_};let(t,T,R):=c A outer s H vs Q E (p.deeper _) j;have I:Inv (G0 CX P w K mg base N qual scope f a A outer s H E) [] (start N vs) H J:=zgj S p.hd i O r x;refine ê (T [] J (start N vs) H _ I R) (λfl B g=>?_) λe B g=>g
 have BZ:∀{l } {H' } {v } {u },Inv (G0 CX P w K mg base N qual scope f a A outer s H E) [] l H' B->Ak v u->Q v H'->CE outer P w H s Q u B:=
  λ{l H' v u} Γ z q=>{(v),H',Γ.os,Γ.bare,Γ.base,Γ.hok,z,q}
 cases fl with
 |ret u=>let(v,l,H',Γ,z,q):=g;exact BZ Γ z q
 |next=>let(l,H',Γ,q):=g;exact BZ (v:=V.non) Γ rfl q
 |brk=>let(_,_,_,q):=g;exact False.elim q
 |cont=>let(_,_,_,q):=g;exact False.elim q
section
variable {X:Cx}{x:Str}{p pos:Pos}{e:Expr}{es:ku}{t:TA}{id T:String}{r:qE->Hp->VK->Prop}
def YE(r:qE->Hp->VK->Prop)(t:TA):TE:=λO H Q=>t O H λb a=>r b a Q
def NJ(f:CT X (.builtin id) r)(i:Gl X x)(j:X.mg x=none)(l:bootBuiltins x=↑(.builtin id))(d:PA X (e::es) t)(k:x≠"__name__")(a:(x == "__debug__")=false)
  (g:starEach (e::es) X.env=(false,eval e X.env)::starEach es X.env) (b:(backTo pos<|starEach es X.env).any (·.1)=false):PE X (.Call (.Name x p) (e::es) [] pos)<|YE r t:=by
 intro c s O H Q I h;refine ī<|Gq I i j l ?_ k a;exact PyProof.Rows.callWith_builtin1 (A5 (d pos c s O H _ I h) λn m ⟨o,H1,I1,r1,q1⟩=>f c m O H1 o n Q I1 r1 q1) g b
def ZP(f:CT X (.type T) r)(i:Gl X x)(j:X.mg x=none)(l:bootBuiltins x=↑(.type T))(d:PA X (e::es) t)(k:x≠"__name__")(a:(x == "__debug__")=false)
  (g:starEach (e::es) X.env=(false,eval e X.env)::starEach es X.env) (b:(backTo pos<|starEach es X.env).any (·.1)=false):PE X (.Call (.Name x p) (e::es) [] pos)<|YE r t:=by
 intro c s O H Q I h;refine ī<|Gq I i j l ?_ k a;exact Đ (A5 (d pos c s O H _ I h) λn m ⟨o,H1,I1,r1,q1⟩=>f c m O H1 o n Q I1 r1 q1) g b
end
end L2
namespace HT
open PySem PyProof.Rows
section
open PySem.SeqAt
open PySem.AutoSeq1 (wpAny_loadPart')
open PySem.MeetsSeq PySem.MeetsSeq2 PySem.MeetsSeq3
end
section
variable {prog:Program}{w:World}{A:Around}{E:Value->Shared->Prop}{s:Shared}
def sIx(n d:Nat):kj->Nat
 |none=>d|some v=>if v<0 then (v+(n:Int)).toNat else min v.toNat n
end
end HT
namespace L2
open PySem PySem.Spec PyProof.Rows
abbrev TO:=St->Hp->(kj->Hp->Prop)->Prop
def PO(X:Cx)(e:Option Expr)(t:TO):Prop:=
 ∀(b:List<|Addr×Obj) (s:Shared) (O:St) (H:Hp) (Q:kj->Hp->Prop),Inv X b O H s->t O H Q ->
  wpAny (model X.prog X.w) X.A (evalPart e X.env) (λu c=>∃o a,Inv X b O a c/\IsPart u o/\Q o a) X.xe s
def zjx:TO:=λϊ H Q=>Q none H
def tPart(t:TE):TO:=λO H Q=>t O H λx a=>∃i,x=.int i/\Q ↑i a
section
variable {X:Cx}{e:Expr}{te:TE}{lo hi:Option Expr}{tl th:TO}{pos p2:Pos}
def zkv:PO X none zjx:=by
 intro a s O H Q I h;exact Ð {none,H,I,.none,h}
def zku(h:PE X e te):PO X ↑e<|tPart te:=by
 intro d s O H Q I c;refine A5 (h d s O H _ I c) λu k j=>?_;let(x,a,b,g,f):=j;let(i,rfl,q):=f;let(t,rfl):=g;exact{↑i,a,b,.int i t,q}
def Wg(X:Cx)(r:V->kj->kj->Hp->VK->Prop):Prop:=
 ∀(c:List<|Addr×Obj) (s:Shared) (O:St) (H:Hp) (x:V) (v vl e:Value) (b a:kj) (d:Addr) (Q:VK),Inv X c O H s->Ak x v->s.heap.IsSliceOf d vl e .none->IsPart vl b->IsPart e a->r x b a H Q ->
  ∃T id,typeLookup (.type T) "__getitem__"=pure (↑(.builtin id))/\s.TypeIs v T/\wpAny (model X.prog X.w) X.A (getItem v<|.ref d) (EP X c O Q) X.xe s
def tSl(r:V->kj->kj->Hp->VK->Prop)(d:TE)(e th:TO):TE:=λO H Q=>d O H λx a=>e O a λl b=>th O b λu c=>r x l u c Q
def ZK(w:Wg X r)(o:PE X e te)(t:PO X lo tl)(z:PO X hi th):PE X (.Subscript e (.Slice lo hi none p2) pos)<|tSl r te tl th:=by
 intro a s O H Q I h;refine Subscript_<|A5 (o a s O H _ I h) λv E f=>?_
 let(x,i,j,D,B):=f;refine wpAny_Slice<|A5 (t a E O i _ j B) λvl F ⟨l,H2,I2,pl,q2⟩=>A5 (z a F O H2 _ I2 q2) λd c f=>?_
 let(u,g,k,A,C):=f;refine Ð ?_;have m:Inv X a O g { c with heap:=c.heap.push { cls:=.type "slice",data:=.fields #[vl,d,.none] } }:=k.kept λb ob q=>Ó _ q
 let(T,id,n,y,p):=w a { c with heap:=c.heap.push { cls:=.type "slice",data:=.fields #[vl,d,.none] } } O g x v vl d l u c.heap.objs.size Q m D (Heap.IsSliceOf.new ..) pl A C;exact tail_any y n p<|by rfl
def Lh(xs:qE)(a b:kj):qE:=(xs.drop<|HT.sIx xs.length 0 a).take (HT.sIx xs.length xs.length b - HT.sIx xs.length 0 a)
def zem(xs)(lo hi):(Lh xs lo hi).length<=xs.length:=by
 unfold Lh;grind
end
def Bk(n:Nat)(i:Int):Option Nat:=if 0<=i then (if i<n then ↑i.toNat else none) else if -(n:Int)<=i then ↑(i+n).toNat else none
def Ar{α:Type}(xs:List α)(i:Int):Option α:=(Bk xs.length i).bind λj=>xs[j]?
def Ji(h:Bk n i=↑j):seqIndex? i n=↑j/\j<n/\-n<=i/\i<n:=by
 unfold Bk at h;by_cases b:0<=i;rw[if_pos b]at h;by_cases a:i<n;rw[if_pos a]at h;have e :=Ù h;exact{by rw[seqIndex_of b a,e],by lia,by lia,a}
 grind;rw[if_neg b]at h;by_cases a:-n<=i;rw[if_pos a]at h;have e :=Ù h;exact{by rw[seqIndex_neg (by lia) a,e],by lia,a,by lia}
 grind
def Wc(h:Ar xs i=↑v):∃j,seqIndex? i xs.length=↑j/\xs[j]?=↑v/\j<xs.length/\-xs.length<=i/\i<xs.length:=by
 unfold Ar at h;cases e:Bk xs.length i with
 |none=>grind|some j=>
  let(a,b,c,d):=Ji e;grind
def G2{j:Nat}{v}(h:xs[j]?=↑v):Ar xs j=↑v:=by
 have a :=(É.mp h).1
 have e:Bk xs.length j=↑j:=by
  unfold Bk;grind
 unfold Ar;grind
def KU(b:Expr):Prop:=∀o i,subscripted b false o i=operate [o,i] (getItem o i)
def Ga(X:Cx)(r:R2):Prop:=
 ∀(b a:Expr) (c:List<|Addr×Obj) (s:Shared) (O:St) (H:Hp) (x y:V) (v u:Value) (Q:VK),Inv X c O H s->Ak x v->Ak y u->r x y H Q ->
  subscripted a false v u=operate [v,u] (getItem v u)->wpAny (model X.prog X.w) X.A (subscriptTail b a v u) (EP X c O Q) X.xe s
def MtR(X:Cx)(id:String)(r:V->qE->Hp->VK->Prop):Prop:=
 ∀(a:List<|Addr×Obj) (s:Shared) (O:St) (H:Hp) (x:V) (xs:qE) (v:Value) (b:ki) (Q:VK),Inv X a O H s->Ak x v->Al xs b->r x xs H Q ->
  wpAny (model X.prog X.w) X.A (call (.builtin id)<|v::b) (EP X a O Q) X.xe s
section
variable {X:Cx}{a b:Expr}{ta tb:TE}{pos:Pos}
def Ga.or(h:Ga X r)(g:Ga X r'):Ga X<|λx y H Q=>r x y H Q\/r' x y H Q:=by
 intro b a d s O H x y v u Q I e f q c;rcases q with q|q;exact h b a d s O H x y v u Q I e f q c;exact g b a d s O H x y v u Q I e f q c
def NH(g:Ga X r)(e:PE X a ta)(f:PE X b tb)(i:KU b):PE X (.Subscript a b pos)<|JN r ta tb:=by
 intro j s O H Q I h;exact Subscript_<|W6 e f I h λv u m x y c d k l q=>g a b j m O c x y v u Q d k l q<|i _ _
def Yv(K:q9):R2:=λx y H Q=>∃p xs i v,x=.ref p/\y=.int i/\Ai K H p xs/\Ar xs i=↑v/\Q v H
def Yt(K:q9):R2:=λx y H Q=>∃p xs i v,x=.ref p/\y=.int i/\CJ K H p xs/\Ar xs i=↑v/\Q v H
def Yu:R2:=λx y H Q=>∃z i c,x=.str z/\y=.int i/\z.length<=sizeLine/\Ar z.cps.toList i=↑c/\Q (.str {#[c]}) H
def fM:Ga X<|Yv X.K:=by
 intro g f D s O H x y v u Q I E F h m;let(p,xs,i,z,rfl,rfl,C,B,q):=h;cases E;let(t,rfl):=F;let(c,r,d,L):=I.list C;let(j,a,n,G,o,A):=Wc B;let(w,k,e):=r.get n;have J:=r.length;have K:=LM;have BZ:EP X D O Q w s:={(z),H,I,e,q}
 by_cases l:0<=i
 have b :=by
  rw[seqIndex_of l A]at a;exact Ù a
 exact item_listR d.isList l (by lia) (by rw[b];simpa using k) BZ m
 have b:(i+c.toArray.size).toNat=j:=by
  rw[seqIndex_neg (by lia) o]at a;grind
 exact subscriptTail_builtinR d.isList.typeIs slot_list_getitem.lookup
  (wpAny_getItem_list_neg d.isList (by lia) (by rw[ë]<;>lia) (by lia) (by rw[b];simpa using k) {(rfl),BZ}) m
def zpz:Ga X<|Yt X.K:=by
 intro c b m s O H x y v u Q I n o h k;let(p,xs,i,z,rfl,rfl,g,f,q):=h;cases n;let(t,rfl):=o;let(l,r,d,J):=I.tuple g;let(j,B,e,C,D,E):=Wc f;let(w,A,a):=r.get e;have F:=r.length;have G:=LM;have BZ:EP X m O Q w s:={(z),H,I,a,q}
 exact subscriptTail_builtinR d.typeIs slot_tuple_getitem.lookup
  (getItem_tuple (j:=j) d (by lia) (by lia) (by grind) (by grind) {(rfl),BZ}) k
def zq0:Ga X Yu:=by
 intro b a A s O H x y v u Q I m n h l;let(z,i,c,rfl,rfl,w,g,q):=h;let(t,rfl):=m;let(B,rfl):=n;let(j,d,o,p,e,f):=Wc g;have k:z.cps.toList.length=z.length:=by simp[Str.length]
 rw[k]at d e f;have r:=LM
 exact tail_any (Ĭ s z t) slot_str_getitem.lookup (getItem_str (by
  grind) (by grind) {.str {#[c]},H,I.tok _,{_,rfl},q}) l
def Yw(K:q9):R2:=λx y H Q=>Yv K x y H Q\/Yt K x y H Q\/Yu x y H Q
theorem zq1:Ga X<|Yw X.K:=fM.or<|zpz.or zq0
def zf8(a:ki)(n j )(u ):Obj.mapSeq (·.setIfInBounds j u) { cls:=.type "list",data:=.seq a.toArray n }={ cls:=.type "list",data:=.seq (a.set j u).toArray n }:=by
 simp[Obj.mapSeq]
def Inv.lst{a:List<|Addr×Obj}{O:St}{H:Hp}{s:Shared}{p:Addr}{xs:qE}(I:Inv X a O H s)(h:H p=↑(.lst xs)) :
  ∃(its:ki) (n:Nat),Al xs its/\s.heap.get? p=↑{ cls:=.type "list",data:=.seq its.toArray n }/\xs.length<=sizeLine:=by
 let(z,its,n,r,e):=I.hok p _ h;grind
def Inv.lstUpd{O:St}     {c a:ki}   (I:Inv X pz O H s)(h:H p=↑(.lst xs))
  (i:s.heap.get? p=↑{ cls:=.type "list",data:=.seq c.toArray n }) (d:f { cls:=.type "list",data:=.seq c.toArray n }={ cls:=.type "list",data:=.seq a.toArray n' }) (r:Al ys a) (j:ys.length<=sizeLine) (t:Nat) :
  Inv X pz O (upd H p<|.lst ys) { s with heap:=s.heap.update p f,toks:=t }:=by
 have e:(s.heap.update p f).get? p=↑{ cls:=.type "list",data:=.seq a.toArray n' }:=by
  rw[ŉ f i (by rw[d]<;>rfl),d]
 refine I.write (by rw[h];trivial) (.inl rfl) (λb u g q=>(Ć _ _<|Ë g).trans q) {_,e} ?_;exact{(j),a,n',r,e}
def rSetL:V->V->V->Hp->(Hp->Prop)->Prop:=λo i v H Q=>∃p xs k j,o=.ref p/\i=.int k/\H p=↑(.lst xs)/\Bk xs.length k=↑j/\Q (upd H p<|.lst<|xs.set j v)
def Qd:Wp X rSetL:=by
 intro F s O H o i v E D u Q I y x z h;let(p,xs,k,j,rfl,rfl,f,m,q):=h;cases y;let(t,rfl):=x;let(a,n,r,c,w):=I.lst f;let(b,A,g,l):=Ji m;have B:=r.length;have C:=LM
 have d :=
  I.lstUpd f c (zf8 a n j u) (r.set z j) (by rw[Ā];exact w) s.toks
 by_cases e:0<=k
 have hk :=by
  rw[seqIndex_of e l]at b;exact Ù b
 exact W.ki_setAt c e (by lia) (by grind) (by rw[hk];exact{_,d,q})
 have hk:(k+a.toArray.size).toNat=j:=by
  rw[seqIndex_neg (by lia) g]at b;grind
 exact W.ki_setBack c (by lia) (by grind) (by lia) (by rw[hk];exact{_,d,q})
def zcv(lo hi)(n):(sliceBounds lo hi none n).1=HT.sIx n 0 lo/\(sliceBounds lo hi none n).2.1=HT.sIx n n hi/\(sliceBounds lo hi none n).2.2=1:=by
 refine{?_,?_,rfl};cases lo with
 |none=>simp[sliceBounds,HT.sIx]|some i=>
  erw[sliceBounds,HT.sIx,Option.getD_none,Å];grind
 cases hi with
 |none=>simp[sliceBounds,HT.sIx]|some i=>
  erw[sliceBounds,HT.sIx,Option.getD_none,Å];grind
def zcf(a:ki)(lo hi):slicePick a.toArray lo hi none=((a.drop<|HT.sIx a.length 0 lo).take (HT.sIx a.length a.length hi - HT.sIx a.length 0 lo)).toArray:=by
 let(b,c,d):=zcv lo hi a.toArray.size;unfold slicePick;rw[b,c,d];erw[sliceRange_one,pick_run]<;>rfl
def Ys(K:q9):V->kj->kj->Hp->VK->Prop:=λx c b H Q=>∃a xs,x=.ref a/\Ai K H a xs/\∀p,H p=none->Q (.ref p) (upd H p<|.lst<|Lh xs c b)
def zk1:Wg X<|Ys X.K:=by
 intro o s O H x v vl t d e p Q I n g l m h;let(a,xs,rfl,i,q):=h;cases n;let(k,r,f,j):=I.list i;have c:=r.length;refine{"list",_,slot_list_getitem.lookup,f.isList.typeIs,?_};refine wpAny_getItem_list_slice f.isList g l m .none (by simp) ?_<|by grind
 rw[zcf,<- c];refine{.ref s.heap.objs.size,_,I.laid (λb ob q=>Ó _ q) (Ä _) ?_,rfl,q _<|I.hok.fresh<|Ä _};exact{Õ (zem xs d e) j,_,0,(r.drop<|HT.sIx xs.length 0 d).take (HT.sIx xs.length xs.length e - HT.sIx xs.length 0 d),â _ rfl}
def zdy:CT X (.type "list") (λxs H Q=>∃p ys,xs=[.ref p]/\(Ai X.K H p ys\/CJ X.K H p ys)/\∀l,H l=none->Q (.ref l) (upd H l<|.lst ys)):=by
 intro w s O H xs y Q I r h;let(p,ys,rfl,i,q):=h;let(u,rfl,x):=Fq r;cases x
 have BZ:∀(a ),Al ys a->ys.length<=sizeLine->∀(c ) (d ),(∀b v,s.heap.get? b=↑v->c.get? b=↑v) ->
   c.get? s.heap.objs.size=↑{ cls:=.type "list",dict:=none,data:=.seq a.toArray d,slots:=#[] }->EP X w O Q (.ref s.heap.objs.size) { s with heap:=c }:=λa f j c d kp e=>
  {.ref s.heap.objs.size,_,I.laid kp (Ä _) (show DH X.prog X.w _ c _ (.lst ys) from{(j),a,d,f,e}),rfl,q _<|I.hok.fresh<|Ä _}
 rcases i with i|i;let(a,f,t,j):=I.list i;have g:=f.length;let(o,m,k,n,hd):=t.isList;exact call_list_seq p (.inl rfl) m k hd (λc d kp e=>BZ a f j c d kp e)<|by grind
 let(a,f,t,j):=I.tuple i;have g:=f.length;let(o,m,k,n,hd):=t;exact call_list_seq p (.inr rfl) m k hd (λc d kp e=>BZ a f j c d kp e)<|by grind
def Xh(K:q9)(T:String)(x:V)(H:Hp):Prop:=match x with
 |.str ϊ=>T="str"|.int ϊ=>T="int"|.ref p=>(T="list"/\∃xs,Ai K H p xs)\/(T="tuple"/\∃o,K.lookup p=↑o/\o.cls=.type "tuple"/\o.dict=none) \/
   (T="dict"/\((∃a,H p=↑(.dK a))\/∃a,H p=↑(.dT a)))\/(T="set"/\∃S n,H p=↑(.set S n))
 |ϊ=>False
def zmp{O:St}{x:V}(I:Inv X pz O H s)(r:Ak x v)(ty:Xh X.K T x H) :
  s.TypeIs v T/\∀a,v=.ref a->∃ob,s.heap.get? a=↑ob/\ob.dict=none:=by
 cases x with
 |str z=>let(t,rfl):=r;cases (ty);exact{Ĭ s z t,λϊ e=>nomatch e}
 |int i=>let(t,rfl):=r;cases (ty);exact{typeIs_int s i t,λϊ e=>nomatch e}
 |ref p=>
  cases r;rcases ty with ⟨rfl,xs,h⟩|⟨rfl,o,hk,g,hd⟩|⟨rfl,hk⟩|⟨rfl,S,n,hk⟩;let(j,_,f,_):=I.list h;refine{f.isList.typeIs,λa e=>?_};cases e;let(o,n,e,c,hd,_):=f;exact{(o),e,hd}
  refine{{o,I.kIn p o hk,g},λa e=>?_};cases e;exact{o,I.kIn _ o hk,hd}
  have z:∃o,s.heap.get? p=↑o/\o.ExactDict:=by
   rcases hk with ⟨d,hk⟩|⟨d,hk⟩;let(_,_,_,_,o,_,_,e,ex,_):=I.hok p _ hk;exact{(o),e,ex};let(_,_,_,_,o,_,_,e,ex,_):=I.hok p _ hk;exact{(o),e,ex}
  let(o,e,ex):=z;refine{{(o),e,ex.1},λa b=>?_};cases b;exact{(o),e,ex.2.1};let(o,_,_,_,e,ex,_):=I.hok p _ hk;refine{{(o),e,ex.1},λa b=>?_};cases b;exact{(o),e,ex.2.1}
 |_=>exact False.elim ty
def tBM(K:q9)(T:String)(r:V->qE->Hp->VK->Prop)(c:TE)(t:TA):TE:=λO H Q=>c O H λx a=>Xh K T x a/\t O a λxs b=>r x xs b Q
variable {o e:Expr}{es:ku}{to:TE}{t:TA}{name:Str}{apos cpos:Pos}{T id:String}{r:V->qE->Hp->VK->Prop}
def NK(y:PlainAttrs T)(slot:Slot T name id)(f:typeOf (.builtin id)=pure (.type "method_descriptor"))(q:MtR X id r)(u:PE X o to)(p:PA X (e::es) t)
  (a:attributeBase o name X.env (eval o X.env)=eval o X.env)
  (c : ((backTo cpos<|starEach (e :: es) X.env).all (fun x => !x.1) && (backToKw cpos<|keywordEach [] X.env).all (fun x => x.1.isSome)
   && decide ((e::es).length+([]:List Keyword).length+(if ([]:List Keyword).isEmpty then 0 else 1)<30))=true:=by rfl)
  (b:(apos.endLine == cpos.line)=true) (w:starEach (e::es) X.env=(false,eval e X.env)::starEach es X.env) (d:(backTo cpos<|starEach es X.env).any (·.1)=false) :
  PE X (.Call (.Attribute o name apos) (e::es) [] cpos) (tBM X.K T r to t):=by
 intro g s O H Q I h;refine wpAny_Call_method_late a c b rfl<|A5 (u g s O H _ I h) λv A E=>?_
 let(x,l,i,k,ty,z):=E;let(m,n):=zmp i k ty;refine{T,id,y,slot,f,m,n,?_};have j:=p cpos g A O l _ i z;rw[w]at j ⊢;refine Calls.callWith_builtin (by grind)<|Calls.evalArgs_plain ?_
 exact A5 j λC B ⟨D,H2,I2,r2,q2⟩=>q g B O H2 x D v C Q I2 k r2 q2
end
def Wq(X:Cx)(id:String)(r:V->qE->Hp->VK->Prop):Prop:=
 ∀(a:List<|Addr×Obj) (s:Shared) (O:St) (H:Hp) (x:V) (xs:qE) (v:Value) (b:ki) (Q:VK),Inv X a O H s->Ak x v->Al xs b->r x xs H Q ->
  wpAny (model X.prog X.w) X.A (call (.builtin id)<|v::b) (EP X a O Q) X.xe s
def Al.one:∀{x} {us},Al [x] us->∃u,us=[u]/\Ak x u
 |_,_,.cons r .nil=>{_,rfl,r}
def Al.rep(h:Al xs us):∀k ,Al (List.replicate k xs).flatten (List.replicate k us).flatten
 |0=>.nil|k+1=>by
  exact Al.append h<|Al.rep h k
def gU(its):∀(k) (acc:ki),
  List.foldl (λx1 x2=>x1++x2) acc.toArray (List.replicate k its.toArray)=(acc++(List.replicate k its).flatten).toArray
 |0,acc=>by simp|k+1,acc=>by
  have e:acc.toArray++its.toArray=(acc++its).toArray:=by simp
  have a:(acc++its)++(List.replicate k its).flatten=acc++(List.replicate (k+1) its).flatten:=by
   grind
  rw[<- a,<- gU its k<|acc++its,<- e,List.replicate_succ,List.foldl_cons]
section
variable {X:Cx}{pz:List<|Addr×Obj}{O:St}{H:Hp}{s:Shared}{l b:Addr}{xs ys zs:qE}
def Inv.lset{b a:ki}(I:Inv X pz O H s)(c:H l=↑(.lst xs))
  (e:s.heap.get? l=↑{ cls:=.type "list",data:=.seq b.toArray n }) (g:f b.toArray=a.toArray) (i:Al ys a) (j:ys.length<=sizeLine) :
  Inv X pz O (upd H l<|.lst ys) { s with heap:=s.heap.update l<|Obj.mapSeq f,toks:=t' }:=by
 have q:=PySem.IsL.update e f;rw[g]at q;refine I.write (by rw[c];exact trivial) (.inl rfl) (λk u d h=>(Ć s.heap (Obj.mapSeq f)<|Ë d).trans h) {_,q} ?_;exact{j,a,_,i,q}
theorem Inv.lnew(I:Inv X pz O H s)(a:Al ys its)(b:ys.length<=sizeLine) :
  Inv X pz O (upd H s.heap.objs.size<|.lst ys) { s with heap:=s.heap.push { cls:=.type "list",data:=.seq its.toArray },toks:=t' }:=
 I.laid (λϊ ϊ q=>Ó _ q) (Ä _) {b,its,0,a,â _ rfl}
def Inv.fresh(I:Inv X pz O H s):H s.heap.objs.size=none:=I.hok.fresh<|Ä _
def Inv.lstM(I:Inv X pz O H s)(a:H l=↑(.lst xs)):xs.length<=sizeLine/\∃(its:ki) (n:Nat),Al xs its/\xs.length=its.length/\s.heap.get? l=↑{ cls:=.type "list",data:=.seq its.toArray n }:=by
 let(z,its,n,r,e):=I.hok l _ a;exact{(z),its,n,r,r.length,e}
def cZ(h:n<=sizeLine):Builtin.List.listTooLong n=false:=by
 exact Ý<|by lia
end
section
variable {X:Cx}
def zkk:V->qE->Hp->VK->Prop:=λx a H Q=>∃l xs y,x=.ref l/\a=[y]/\H l=↑(.lst xs)/\xs.length<sizeLine/\Q .non (upd H l<|.lst<|xs++[y])
def dJ:Wq X "list.append" zkk:=by
 intro j s O H x m v k Q I f d h;let(l,xs,y,rfl,rfl,b,i,q):=h;cases f;let(u,rfl,c):=d.one;let(z,a,n,r,g,e):=I.lstM b;refine Ŀ F.slot_list_append {_,e,rfl} F.entry_list_append (F.args_list_append_2 _ _) (PySem.list_append l a.toArray n u<|by grind) {e,?_}
 refine{.non,_,I.lset b e (by simp) (r.append<|.cons c .nil) ?_,rfl,q};grind
def zkj:V->qE->Hp->VK->Prop:=λx c H Q=>∃l b xs a,x=.ref l/\c=[.ref b]/\H l=↑(.lst xs)/\H b=↑(.lst a)/\xs.length+a.length<=sizeLine/\Q .non (upd H l<|.lst<|xs++a)
def zgc:Wq X "list.extend" zkj:=by
 intro A s O H x C v B Q I t p h;let(l,b,xs,E,rfl,rfl,g,j,y,q):=h;cases t;let(u,rfl,o):=p.one;cases o;let(z,c,n,r,w,e):=I.lstM g;let(D,a,n2,m,k,i):=I.lstM j;have f:c.toArray.size+a.toArray.size<=sizeLine:=by grind
 have d:¬ (!c.toArray.isEmpty && Builtin.List.listTooLong (c.toArray.size+a.toArray.size))=true:=by
  rw[cZ f];simp
 refine Ŀ F.slot_list_extend {_,e,rfl} F.entry_list_extend (F.args_list_extend_2 _ _)
  (AutoSeq1.list_extend_list_list_0 l c.toArray n b a.toArray n2 d (by lia)<|by lia) {e,i,?_}
 refine{.non,_,I.lset g e (by simp) (r.append m) ?_,rfl,q};grind
def rCat:R2:=λx y H Q=>∃l b xs a,x=.ref l/\y=.ref b/\H l=↑(.lst xs)/\H b=↑(.lst a)/\xs.length+a.length<=sizeLine/\∀p,H p=none->Q (.ref p) (upd H p<|.lst<|xs++a)
def zoy:As X (binaryOp .Add) rCat:=by
 intro w s O H x y v u Q I m o h;let(l,b,xs,B,rfl,rfl,i,g,t,q):=h;cases m;cases o;let(z,c,n,r,p,e):=I.lstM i;let(A,a,n2,k,j,d):=I.lstM g;refine PySem.P.add_list e d ?_<|by grind
 have f:c.toArray++a.toArray=(c++a).toArray:=by simp
 rw[f];exact{.ref _,_,I.lnew (r.append k) (by grind),rfl,q _ I.fresh}
def rRep:R2:=λx y H Q=>∃l k xs,x=.ref l/\y=.int k/\H l=↑(.lst xs)/\-(2 ^ 63)<=k/\k<2 ^ 63/\xs.length * k.toNat<=sizeLine /\
 ∀p,H p=none->Q (.ref p) (upd H p<|.lst (List.replicate k.toNat xs).flatten)
def zlq{α:Type}(xs:List α)(k):(List.replicate k xs).flatten.length=k * xs.length:=by
 simp
def zou:As X (binaryOp .Mult) rRep:=by
 intro G s O H x y v u Q I B C h;let(l,k,xs,rfl,rfl,w,o,p,j,q):=h;cases B;let(t,rfl):=C;let(z,b,n,r,A,e):=I.lstM w;have g:b.toArray.size * k.toNat<=sizeLine:=by rw[ë,<- A];exact j
 have d:¬ b.toArray.size * k.toNat > (2 ^ 63 - 1) / 8:=by
  have:sizeLine<=(2 ^ 63 - 1) / 8:=by decide
  lia
 have f:¬ (!Builtin.List.listFitsIndex k)=true:=by
  rw[fitsIndex_both o p];exact ġ
 have c:¬ Builtin.List.listTooLong (b.toArray.size * k.toNat)=true:=by
  rw[cZ g];exact ġ
 have i:List.foldl (λE x2=>E++x2) #[] (List.replicate (if b.toArray.isEmpty=true then 0 else k.toNat) b.toArray)=(List.replicate k.toNat b).flatten.toArray:=by
  have f0 :=λm=>by
   have:=gU b m [];rw[ŏ]at this;exact this
  rw[f0];cases b with
  |nil=>simp|cons a J=>rw[if_neg<|by simp]
 refine wpAny_binaryOp_repeat_ref (by decide) {_,e,rfl} (λD=>typeIs_int D k t) noFill_list_mul F.fills_int_mul F.slot_int_rmul repeat_list F.slot_int_index.lookup
  (Ŀ F.slot_int_rmul (typeIs_int s k t) F.entry_int_rmul (F.args_int_rmul_2 _ _) (int___rmul___int_list k t l b.toArray n)
   {e,rfl,{_,e,rfl},Ŀ F.slot_list_mul {_,e,rfl} F.entry_list_mul (F.args_list_mul_2 _ _) (AutoListH.list___mul___list_int_3 l b.toArray n k t f d c) {e,?_}})
 rw[i];exact{.ref _,_,I.lnew (r.rep k.toNat) (by rw[zlq,Nat.mul_comm];exact j),rfl,q _ I.fresh}
variable {prog:Program}{w:World}{A:Around}{E:Value->Shared->Prop}{s:Shared}
end
section
variable {X:Cx}
end
end L2
namespace Att
open PySem PySem.W PySem.Calls PyProof.Rows
def zbi:∀(ns) (vs),WellAll P h vs (ns.map WData.int)->IntsAre vs ns:=by
 intro ns
 induction ns with
 |nil=>intro vs w;cases w;exact .nil|cons n ns c=>
  intro vs w;cases w with
  |cons a b=>cases a;exact .cons _ _<|c _ b
def zg2{l:OpenLaw}(u:l.most=↑n)
  (b:l.row.toRowW.claim.pre args=true) (g:WellAll P h vals args) :
  ∃a vs ns,vals=[Value.ref a]/\args=[WData.list<|ns.map WData.int]/\h.get? a=↑{ cls:=.type "list",data:=.seq vs.toArray }/\IntsAre vs ns/\ns.length<=n:=by
 have f :=(pre_splitW b).1;have o:l.pre.holds [] { args:=args }=true:=(pre_splitW b).2;let(d,r,rfl,j,k):=hasAllW_cons f;obtain rfl:=hasAllW_nil k;let(xs,rfl,m):=hasW_list j;let(ns,rfl):=items_int m
 have e:ns.length<=n:=by
  have i:(WTm.not<|.lt (.lit<|.int n)<|.len<|.arg 0).holds [] { args:=[.list<|ns.map .int] }=true:=by
   have i:=(holds_andW o).1;grind
  have t:=condW_of i<|w_not<|w_lt w_lit<|w_len_list<|w_arg rfl
  grind
 cases g with
 |cons q s=>
  cases s;cases q with
  |list p c=>exact{_,_,ns,rfl,rfl,p,zbi ns _ c,e}
def zg3(l:OpenLaw)(args):l.row.toRowW.claim.post args (.bool true) args=true:=
 postW_of
  (by rfl)
  (w_eq_bool (w_res rfl) w_lit) rfl
def attach_call{l:OpenLaw}
  (C:l.most=↑n) (i:d.params.defaults=[])
  (call : ∀ (w ) (s₀ s₁ ) (mg mb ) (fa ) (o ) (pm cd doc ) (a ) (vs ) (ns ),
   Ground q loose [] XP w s₀ mg mb s₁.heap->YP w s₁.heap ->
   s₁.heap.get? fa=↑o->o.data=.func (docDef d.name d.params d.body d.scope pm cd doc)->s₁.heap.CodeRec cd d.name->mg d.name=↑(.ref fa) ->
   s₁.heap.get? a=↑{ cls:=.type "list",data:=.seq vs.toArray }->IntsAre vs ns->ns.length<=n->s₁.gens=#[] ->
   codeAny (model l.prog w) callerA (.call (.ref fa) {[.ref a],[]}) (λr s'=>r=.ok (.ret<|.bool true)/\OldK s₁.heap s'.heap/\s'.os=s₁.os/\AllBare s'.gens) s₁) :
  WalkO q loose XP YP l.row.toRowW d [] (λf vs=>PySem.call f vs):=by
 intro w s₀ s₁ mg mb G τ fa o pm cd doc u kV D hd h p j z m t H g s F k A;obtain rfl:u=.none:=Dflts.none p i;obtain rfl:kV=.none:=Dflts.noKw p;let(a,vs,ns,rfl,rfl,e,b,c):=zg2 C g k;refine enter_call<|Ě (call w s₀ s₁ mg mb fa o pm cd doc a vs ns G τ D (fd_plain hd) h j e b c z) λr s' E=>?_
 let(rfl,v,x,y):=E;exact{.inl {.bool true,.bool true,[],rfl,λϊ=>rfl,.bool true,zg3 l _,λϊ=>{List.Pairwise.nil,λϊ B=>(nomatch B)}},v,x,y}
section
variable {prog:Program}{w:World}{A:Around}{E:Value->Shared->Prop}{s:Shared}{K:Frag}
end
end Att
namespace L2
open PySem PySem.Spec PyProof.Rows
def Xa:∀{vs} {ns},IntsAre vs ns->Al (ns.map V.int) vs
 |_,_,.nil=>.nil|_,_,.cons n t h=>.cons {(t),rfl}<|Xa h
def Pn(H:Hp):Prop:=∀b,H b=none\/∃o xs,H b=↑(.frz o<|.lst xs)
def zir{K }   {k:Nat}   {x:Str}{sp:Sp}
  (I:K.In s₁.heap) (p:s₁.heap.Ns mainGlobals mg) (f:s₁.heap.Ns builtinsNs mb) (E:∀x:Str,x≠"__name__"->mb x=bootBuiltins x) (l:s₁.heap.NoLimit) (W:s₁.gens=#[])
  (ha:s₁.heap.get? a=↑{ cls:=.type "list",data:=.seq vs.toArray }) (hi:IntsAre vs ns) (hl:ns.length<=sizeLine) (hr:Room k callerA)
  (F:∀base:Heap,K.In base->base.Ns mainGlobals mg->FnOk P w K mg base CX k fa fd [x] sp) (hbind:∀(s:Shared) (u:Value),BindsTo s fd {[u],[]} [(x,u)])
  (hsp:∀H:Hp,Pn H->Ai K H a (ns.map V.int)->sp [.ref a] H (λv ϊ=>v=.bl true) λϊ ϊ ϊ=>False)
  (hCX:∀H e s',CX [] H s₁ (λϊ ϊ ϊ=>False) e s'->False) :
  codeAny (model P w) callerA (.call (.ref fa) {[.ref a],[]}) (λr s'=>r=.ok (.ret<|.bool true)/\OldK s₁.heap s'.heap/\s'.os=s₁.os/\AllBare s'.gens) s₁:=by
 have N:=Xa hi;have y:=hi.length
 have i:∀H ,Pn H->Ai K H a (ns.map V.int)->HOk P w H s₁.heap->(∀b,H b≠none->b=a)->(H a≠none->K.lookup a=none) ->
   codeAny (model P w) callerA (.call (.ref fa) {[.ref a],[]}) (λr s'=>r=.ok (.ret<|.bool true)/\OldK s₁.heap s'.heap/\s'.os=s₁.os/\AllBare s'.gens) s₁:=by
  intro H M U hok L S;have c:∀{b } {o },s₁.heap.get? b=↑o->H b=none->(Hn s₁.heap H).get? b=↑o:=λe n=>Μ e n
  have G:∀{b } {o } {C } {B },s₁.heap.get? b=↑o->o.data=.dict C B->H b=none:=λ{b o C B} e d=>by
   cases q:H b with
   |none=>rfl|some u=>
    have D :=L b (by rw[q];simp);subst D;rw[ha]at e;cases e;have O :=d;cases O
  have g:∀{b } {m },s₁.heap.Ns b m->(Hn s₁.heap H).Ns b m:=λ{b m} ⟨o,C,B,e,d,r⟩=>{o,C,B,c e<|G e d,d,r}
  have j :=λb o e=>c (I b o e) (by
   cases q:H b with
   |none=>rfl|some u=>
    have D :=L b (by rw[q];simp)
    subst D;rw[S (by rw[q];simp)]at e;cases e)
  have T:Mod K mg<|Hn s₁.heap H:={j,g p,{mb,g f,E},let ⟨mc,h1,h2⟩:=l;{mc,g h1,h2}};have Q:Env0 P w K mg (Hn s₁.heap H) callerA [] s₁ H:={rfl,T,λb o e=>Ν e,Nat.le_of_eq<|Λ _ _,trivial,λb f=>absurd (show b∈[] from f) (by simp),hok,.of_eq W}
  refine Ě ((F _ j<|g p).run callerA [] s₁ H {[.ref a],[]} [.ref a] [.ref a] _ _ hr Q (hbind s₁<|.ref a) (.cons rfl .nil) (hsp H M U)) λr s' h=>?_;cases r with
  |error e=>exact(hCX H e s' h).elim|ok fl=>
   cases fl with
   |next=>exact False.elim h|brk=>exact False.elim h|cont=>exact False.elim h|ret u=>
    let(v,H',os,bare,un,t,Y,q):=h;have X :=q;subst X;obtain rfl:u=Value.bool true:=Y;refine{rfl,OldK.of_keep λb o e=>?_,os,bare}
    cases q:H b with
    |none=>exact un.keep b o e q (by intro z;exact absurd (show b∈[] from z)<|by simp) (by simp)|some u=>
     rcases M b with z|⟨ob,xs,z⟩;rw[q]at z;cases z;have Z:=un.frzs b ob _ z;let(J,_):=hok b _ z;let(R,_):=t b _ Z;rw[e]at J;cases J;exact R
 cases hk:K.lookup a with
 |some o=>have e:=I a o hk;rw[ha]at e;cases e;refine i (λϊ=>none) (λϊ=>.inl rfl) (.inr {_,vs.toArray,_,hk,rfl,rfl,rfl,by rw[ë,y];exact hl,by simpa using N}) (λb u z=>by have A :=z;cases A) (λb z=>absurd rfl z) λz=>absurd rfl z|none=>
  refine i (λb=>if b=a then ↑(.frz { cls:=.type "list",data:=.seq vs.toArray }<|.lst<|ns.map V.int) else none) (λb=>?_) (.inl<|.inr {{ cls:=.type "list",data:=.seq vs.toArray },if_pos rfl}) (λb u z=>?_) (λb z=>?_) λϊ=>hk;by_cases f:b=a;exact .inr {_,_,if_pos f};exact .inl<|if_neg f
  by_cases f:b=a;have A:=(if_pos f).symm.trans z;cases A;subst f;exact{ha,by rw[À];exact hl,vs,_,N,ha};have A:=(if_neg f).symm.trans z;cases A;by_cases f:b=a;exact f;exact absurd (if_neg f) z
def walk_of{l:PySem.W.OpenLaw}{n k:Nat}     {d:DefRec}{K:Params->q9}{CX:World->Gc}{sp:World->Sp}{x:Str}
  (L:l.most=↑n) (r:n<=sizeLine) (m:d.params.defaults=[]) (M:Room k callerA)
  (D:∀(w:World) (h:Heap),YP w h->(K w.params).In h)
  (F : ∀ (w : World) (mg ) (fa : Addr) (h : Heap), (K w.params).In h -> h.Ns mainGlobals mg -> mg d.name = ↑(.ref fa) ->
   ∃fd:FuncData,(∀(s:Shared) (u:Value),BindsTo s fd {[u],[]} [(x,u)]) /\
    ∀base:Heap,(K w.params).In base->base.Ns mainGlobals mg->FnOk l.prog w (K w.params) mg base (CX w) k fa fd [x] (sp w))
  (t:∀(w:World) (H:Hp) (a:Addr) (ns:kz),ns.length<=n->Pn H->Ai (K w.params) H a (ns.map V.int)->sp w [.ref a] H (λv ϊ=>v=.bl true) λϊ ϊ ϊ=>False)
  (j:∀(w:World) (H:Hp) (s:Shared) (e:Value) (s':Shared),CX w [] H s (λϊ ϊ ϊ=>False) e s'->False) :
  PySem.W.WalkO q loose XP YP l.row.toRowW d [] (λf vs=>PySem.call f vs):=by
 refine Att.attach_call L m λw s₀ i mg O fa o P cd z a vs ns G τ N hd I p g c b J=>?_;have y:=D w _ τ;let(fd,E,A):=F w mg fa _ y G.T.g p;exact zir y G.T.g G.T.b G.T.builtins G.T.nolimit J g c (Õ b r) M A E (λH B C=>t w H a ns b B C) λH e s'=>j w H i e s'
def Oa(s:Stmt):Arguments:=match s with
 |.FunctionDef ϊ a ϋ ό ύ ώ Ϗ ϐ ϑ ϒ=>a|ϊ=>{ posonlyargs:=[],args:=[],vararg:=none,kwonlyargs:=[],kw_defaults:=[],kwarg:=none,defaults:=[] }
def Ht(s:Stmt):kx:=match s with
 |.FunctionDef ϊ ϋ b ό ύ ώ Ϗ ϐ ϑ ϒ=>b|ϊ=>[]
def DY(s:Stmt):Scope:=match s with
 |.FunctionDef ϊ ϋ ό ύ ώ Ϗ a ϐ ϑ ϒ=>a|ϊ=>{ kind:=.function,names:=[],isGenerator:=false,isCoroutine:=false }
abbrev MU:Gc:=λϊ ϊ ϊ ϊ ϊ ϊ=>False
abbrev E0:XK:=λϊ ϊ ϊ=>False
section
variable {P:Program}{w:World}{K:q9}{mg:Str->Option Value}{base:Heap}
variable {X:Cx}
end
def LV{A B:Prop}(h:B):if false=true then A else B:=by
 grind
def LU{A B:Prop}(h:A):if true=true then A else B:=by
 rw[if_pos rfl];exact h
def Ag(H H':Hp):Prop:=∀b o,H b=↑o->H' b=↑o
theorem Ag.refl(H:Hp):Ag H H:=λϊ ϊ h=>h
theorem Ag.trans(a:Ag H H1)(b:Ag H1 H2):Ag H H2:=λc o h=>b c o<|a c o h
def Ag.seq{K}(e:Ag H H')(h:Ai K H a xs):Ai K H' a xs:=by
 rcases h with (h|⟨o,h⟩)|h;exact .inl<|.inl<|e _ _ h
 exact .inl<|.inr {o,e _ _ h}
 exact .inr h
section
variable {κ:Type} [DecidableEq κ]
def E6(a:List<|κ×V)(k:κ):Option V:=(a.find? λb=>decide (b.1=k)).map (·.2)
def E9(a:List<|κ×V)(k:κ)(v:V):List<|κ×V:=
 if (a.any λb=>decide (b.1=k))=true then a.map (λb=>if b.1=k then (b.1,v) else b) else a++[(k,v)]
def M8{k:κ}(e:p.1=k):E6 (p::r) k=↑p.2:=by simp[E6,e]
def M9{k:κ}(e:¬ p.1=k):E6 (p::r) k=E6 r k:=by simp[E6,e]
def Xb(k:κ):∀kvs ,(kvs.any λkv=>decide (kv.1=k))=(E6 kvs k).isSome
 |[]=>rfl|p::r=>by
  rw[ė];by_cases e:p.1=k;erw[M8 e,Ì e,Bool.true_or,Option.isSome_some];rw[M9 e,Ý e];exact Xb k r
def eY(kvs)(k:κ)(v):(E9 kvs k v).length<=kvs.length+1:=by
 unfold E9;grind
def E2.isSome_eq(r:E2 o u):o.isSome=u.isSome:=by
 cases o with
 |none=>cases u with
  |none=>rfl|some ϊ=>exact(r).elim
 |some ϊ=>cases u with
  |none=>exact(r).elim|some ϊ=>rfl
def KV.val(r:KV kvs vs)(k:κ):E2 (E6 kvs k)<|valueAt vs k:=by
 induction r with
 |nil=>exact True.intro|@cons p q ps c h t g=>
  let(d,f):=h;by_cases e:p.1=k;have a :=d.symm.trans e;have b:valueAt (q::c) k=↑q.2:=by simp[valueAt,a]
  rw[M8 e,b];exact f;have a:¬ q.1=k:=λz=>e<|d.trans z
  have b:valueAt (q::c) k=valueAt c k:=by simp[valueAt,a]
  rw[M9 e,b];exact g
def KV.any(r:KV kvs vs)(k:κ):(kvs.any λkv=>decide (kv.1=k))=vs.any λkv=>decide (kv.1=k):=by
 induction r with
 |nil=>rfl|cons h t a=>grind
def KV.repl(r:KV kvs vs)(k:κ)(c:Ak y u) :
  KV (kvs.map λkv=>if kv.1=k then (kv.1,y) else kv) (vs.map λkv=>if kv.1=k then (kv.1,u) else kv):=by
 induction r with
 |nil=>exact .nil|@cons p q ps b h t a=>
  refine .cons ?_ a;grind
def KV.put(r:KV kvs vs)(k:κ)(a:Ak y u):KV (E9 kvs k y)<|stored vs k u:=by
 unfold E9 stored;rw[r.any k];by_cases e:(vs.any λb=>decide (b.1=k))=true;rw[if_pos e,if_pos e];exact r.repl k a;rw[if_neg e,if_neg e];exact Paired.snoc r {(rfl),a}
def KV.length{a:List<|κ×V}(r:KV a vs):a.length=vs.length:=ŗ r
end
def Ug(r:Ak (kV k) u):(Dl P w).is k u=true:=by
 cases k with
 |inl i=>let(t,e):=(r);subst e;exact Ι P w i t
 |inr x=>let(t,e):=(r);subst e;exact Κ P w x t
def fR:∀{ks} {us},Al (ks.map kV) us->ItemsAre (Dl P w) ks us
 |[],ϊ,r=>by cases r;exact .nil|k::ks,ϊ,r=>by
  cases r with
  |cons h t=>exact .cons (Ug h)<|fR t
abbrev KT(H:Hp):List (List Key×V)->List (List Key×Addr×Value)->Prop:=Paired λp q=>p.1=q.1/\H q.2.1=↑(.tup<|p.1.map kV)/\Ak p.2 q.2.2
def KT.val(r:KT H kvs xs)(k):E2 (E6 kvs k) ((atKey xs k).map (·.2)):=by
 induction r with
 |nil=>exact True.intro|@cons p q ps c h t g=>
  let(d,_,f):=h;by_cases e:p.1=k;have a :=d.symm.trans e;have b:atKey (q::c) k=↑q.2:=by simp[atKey,a]
  rw[M8 e,b];exact f;have a:¬ q.1=k:=λz=>e<|d.trans z
  have b:atKey (q::c) k=atKey c k:=by simp[atKey,a]
  rw[M9 e,b];exact g
def KT.repl(r:KT H kvs xs)(k)(c:Ak y u) :
  KT H (kvs.map λkv=>if kv.1=k then (kv.1,y) else kv) (xs.map<|putAt k u):=by
 induction r with
 |nil=>exact .nil|@cons p q ps b h t a=>
  refine .cons ?_ a;unfold putAt;grind
def KT.put{H:Hp}(r:KT H kvs xs)(k:List Key){y:V}(c:H b=↑(.tup<|k.map kV))(a:Ak y u) :
  KT H (E9 kvs k y) (storedH xs k b u):=by
 have e:(kvs.any λd=>decide (d.1=k))=(atKey xs k).isSome:=by
  rw[Xb,(r.val k).isSome_eq,Option.isSome_map]
 unfold E9 storedH;rw[e];by_cases q:(atKey xs k).isSome=true;rw[if_pos q,if_pos q];exact r.repl k a;rw[if_neg q,if_neg q];exact Paired.snoc r {(rfl),c,a}
theorem KT.keeps(r:KT H kvs xs)(a:∀b ys,H b=↑(.tup ys)->H' b=↑(.tup ys)):KT H' kvs xs:=
 Paired.mapP r λϊ ϊ z=>{z.1,a _ _ z.2.1,z.2.2}
section
variable {P:Program}{w:World}{H:Hp}{h:Heap}{a:Addr}
theorem Yd{u:HO}(ok:HOk P w H h)(e:Rd H a u):DH P w H h a u:=e.ok ok
theorem V6(ok:HOk P w H h)(e:Rd H a<|.dK kvs):kvs.length<=sizeLine/\(a == sysModules)=false/\∃vs,KV kvs vs/\h.DictOf (Dl P w) a vs:=
 Yd ok e
theorem dk_of(ok:HOk P w H h)(e:H a=↑(.dK kvs)):kvs.length<=sizeLine/\(a == sysModules)=false/\∃vs,KV kvs vs/\h.DictOf (Dl P w) a vs:=V6 ok<|.inl e
def Ue(ok:HOk P w H h)(e:H a=↑(.tup<|ks.map kV)):(tupleKind<|Dl P w).is h ks a:=by
 let(_,b,r,o,c,d,n,f):=(ok a _ e);exact{o,b.toArray,n,c,d,f,by simpa using fR r}
def jY(ok:HOk P w H h)(e:Rd H a<|.dT kvs):kvs.length<=sizeLine/\(a == sysModules)=false /\
  ∃xs,KT H kvs xs/\h.DictOfH (tupleKind<|Dl P w) a xs:=by
 let(z,y,xs,r,o,d,c,f,g,i,j,k):=(Yd ok e);refine{z,y,xs,r,o,d,c,f,g,i,j,λx b=>?_,k}
 have all:∀{l } {m },KT H l m->∀x∈m,(tupleKind<|Dl P w).is h x.1 x.2.1:=by
  intro l m q
  induction q with
  |nil=>simp|@cons p q ps u n t s=>
   intro x b;rcases(Ñ.mp b) with e|b;exact Ue ok<|by grind
   grind
 grind
theorem dt_of(ok:HOk P w H h)(e:H a=↑(.dT kvs)):kvs.length<=sizeLine/\(a == sysModules)=false /\
  ∃xs,KT H kvs xs/\h.DictOfH (tupleKind<|Dl P w) a xs:=jY ok<|.inl e
end
def Pw(H:Hp)(a:Addr)(y:V)(r:Option V):Prop:=
 (∃c k,Rd H a (.dK c)/\y=kV k/\r=E6 c k)\/∃c k b,Rd H a (.dT c)/\y=.ref b/\H b=↑(.tup<|k.map kV)/\r=E6 c k
def Pt(H:Hp)(a:Addr)(y v:V)(H':Hp):Prop:=
 (∃c k,H a=↑(.dK c)/\y=kV k/\c.length<sizeLine/\H'=upd H a (.dK<|E9 c k v)) \/
 ∃c k b,H a=↑(.dT c)/\y=.ref b/\H b=↑(.tup<|k.map kV)/\c.length<sizeLine/\H'=upd H a (.dT<|E9 c k v)
theorem Pw.k{k}(e:H a=↑(.dK kvs)):Pw H a (kV k)<|E6 kvs k:=.inl {kvs,k,.inl e,rfl,rfl}
theorem Pt.k{k}(e:H a=↑(.dK kvs))(b:kvs.length<sizeLine):Pt H a (kV k) v<|upd H a<|.dK<|E9 kvs k v:=.inl {(kvs),k,e,rfl,b,rfl}
section
variable {X:Cx}{pz:List<|Addr×Obj}{O:St}{H:Hp}{s:Shared}{a:Addr}{y v:V}{u r:Value}{o:Option V}{A:Around}{E:Value->Shared->Prop}
def Inv.big(I:Inv X pz O H s):sysModules<s.heap.objs.size:=by
 have h :=(I.mod.glob.keeps I.bk).lt;exact Ĩ (by decide) h
def zh3(r:A.units+1<cLine)(I:Inv X pz O H s)(g:Pw H a y ↑v)(o:Ak y u)(h:∀w' s',Inv X pz O H s'->Ak v w'->Q w' s') :
  wpAny (model X.prog X.w) A (getItem (.ref a) u) Q E s:=by
 rcases g with ⟨n,k,e,i,l⟩|⟨n,k,b,e,i,eb,l⟩;subst i;let(z,hd,t,c,f):=V6 I.hok e;let(w',m,d):=E2.some_of (by rw[l];exact c.val k)
 exact wpAny_getItem_of (Ug o) f.mapOf m<|h w' _ (I.tok _) d
 subst i;cases (o);let(z,hd,xs,c,f):=jY I.hok e;let(w',m,d):=E2.some_of (by rw[l];exact c.val k)
 let(p,q,j):=Ú.mp m;refine wpAny_getItem_heap (tupleKind_room_in1 r) (Ue I.hok eb) f q ?_;rw[j];exact h w' _ (I.tok _) d
theorem j6(I:Inv X pz O H s)(mu:MR<|H a)(e:Heap.SameBut a s.heap h')(d:∃q,h'.get? a=↑q)(new:DH X.prog X.w (upd H a ob) h' a ob) :
  Inv X pz O (upd H a ob) { s with heap:=h',toks:=t' }:=
 I.write mu (.inl rfl) (λb q c z=>(e.2 b c).trans z) d new
theorem zqq(z:kvs.length<=sizeLine)(hd:(a == sysModules)=false)(b:KV kvs vs)(dd:h'.DictOf (Dl P w) a vs) :
  DH P w H' h' a (.dK kvs):={(z),hd,vs,b,dd}
def zh2(N:A.units+1<cLine)(I:Inv X pz O H s)(g:Pt H a y v H')(C:Ak y u)(B:Ak v r)(h:∀s',Inv X pz O H' s'->Q () s') :
  wpAny (model X.prog X.w) A (setItem (.ref a) u r) Q E s:=by
 rcases g with ⟨d,k,e,o,l,n⟩|⟨d,k,b,e,o,eb,l,n⟩;subst o n;let(z,hd,R,f,m):=dk_of I.hok e;have P:R.length<=sizeLine:=by rw[<- f.length];exact z
 have p:(E9 d k v).length<=sizeLine:=by have:=eY d k v;lia
 refine wpAny_setItem_pairs (Ug C) m λx i t=>h _ ?_;have M:∃q,x.get? a=↑q:=let ⟨q,_,_,j,_⟩:=i;{(q),j};exact j6 I (by rw[e];exact True.intro) t M<|zqq p hd (f.put k B) i
 subst o n;cases (C);let(z,hd,xs,f,m):=dt_of I.hok e;have P:xs.length<=sizeLine:=by rw[<- ŗ f];exact z
 have p:(E9 d k v).length<=sizeLine:=by have:=eY d k v;lia
 refine wpAny_setItem_heap (tupleKind_room_in1 N) (Ue I.hok eb) m λx i t=>h _ ?_;let(q,F,D,j,G,J,K,_,L):=i;refine j6 I (by rw[e];exact True.intro) t {(q),j} {p,hd,_,(f.put k eb B).keeps λc S w=>?_,q,F,D,j,G,J,K,L};rw[BF<|ne_of w e<|λz=>nomatch z];exact w
variable {kvs:List<|Key×V}{k:Key}
end
section
variable {X:Cx}{o i e value:Expr}{pos pos' tpos:Pos}{td ty tv:TE}
end
theorem zj9(h:Heap)(a:sysModules<h.objs.size):DH P w H (h.push { cls:=.type "dict",data:=.dict #[]}) h.objs.size<|.dK []:=
 {ò _,beq_eq_false_iff_ne.mpr<|Ë<|Ô a,[],.nil,Heap.DictOf.new h}
section
variable {X:Cx}{pos:Pos}
variable {pz:List<|Addr×Obj}{O:St}{H:Hp}{s:Shared}{a:Addr}{y d:V}{u r:Value}{o:Option V}{A:Around}{E:Value->Shared->Prop}
end
section
variable {X:Cx}{o e f:Expr}{apos cpos:Pos}{td ty tx:TE}
variable {pz:List<|Addr×Obj}{O:St}{H:Hp}{s:Shared}{a:Addr}{kvs:List<|Key×V}{A:Around}{E:Value->Shared->Prop}
end
section
variable {X:Cx}{pz:List<|Addr×Obj}{O:St}{H:Hp}{s:Shared}{a:Addr}{y:V}{u:Value}{A:Around}{E:Value->Shared->Prop}
end
end L2
namespace Zm
def zj7(a b):Int.gcd b (a.fmod b)=Int.gcd a b:=by
 rw[Int.fmod_def,Int.gcd_comm a b];simp
def fmod_less(a:Int)(h:b≠0):(a.fmod b).natAbs<b.natAbs:=by
 rcases Int.lt_or_gt_of_ne h with c|c;have e:a.fmod b=-((-a).fmod (-b)):=by rw[Int.neg_fmod_neg,Int.neg_neg]
 have d:=Ğ (-a)<|show 0 < -b by lia
 have f:=Ő (-a)<|show 0 < -b by lia
 lia;have d:=Ğ a c;have f:=Ő a c
 lia
def gd(a b:Int):Int:=(Int.gcd a b:Nat)
def gd_turn(c:gd a b=gd a0 b0):gd b (a.fmod b)=gd a0 b0:=by
 rw[<- c];unfold gd;rw[zj7]
def gd_abs(a b):gd (if a<0 then -a else a) (if b<0 then -b else b)=gd a b:=by
 unfold gd
 have c:Int.gcd (if a<0 then -a else a) (if b<0 then -b else b)=Int.gcd a b:=by
  split<;>split<;>simp[Int.gcd_neg]
 rw[c]
def gd_pos{a b:Int}(h:b≠0):0<gd a b:=by
 unfold gd;simp_all
def gd_le(h:0<b):gd a b<=b:=by
 exact Int.le_of_dvd h<|Int.gcd_dvd_right a b
def lt(t b:Int):Int:=t.fdiv<|gd t b
def lb(t b:Int):Int:=b.fdiv<|gd t b
def jQ{x g:Int}(a:g≠0)(h:g ∣ x):x.fdiv g * g=x:=by
 rw[ā];exact Int.mul_fdiv_cancel' h
def lt_mul(h:b≠0):lt t b * gd t b=t:=by
 exact jQ (by have:=gd_pos (a:=t) h;lia)<|Int.gcd_dvd_left t b
def lb_mul(h:b≠0):lb t b * gd t b=b:=by
 exact jQ (by have:=gd_pos (a:=t) h;lia)<|Int.gcd_dvd_right t b
def lb_pos(h:0<b):0<lb t b:=by
 have d:=lb_mul (t:=t)<|show b≠0 by lia
 have c:=gd_pos (a:=t)<|show b≠0 by lia
 rcases Ļ 0 (lb t b) with q|q;exact q;have:=ſ q<|ĩ c
 lia
def zfv{x g:Int}(h:0<g):x.natAbs<=(x * g).natAbs:=by
 rw[Int.natAbs_mul];exact Nat.le_mul_of_pos_right _<|by lia
def lb_le(h:0<b):lb t b<=b:=by
 have c:=lb_mul (t:=t)<|show b≠0 by lia
 have d:=zfv (x:=lb t b)<|gd_pos (a:=t)<|show b≠0 by lia
 grind
end Zm
namespace Zw
open PySem PySem.Spec PyProof.Rows L2
def Sm(i:Int):Prop:=-(10 ^ 70)<i/\i<10 ^ 70
def Sm.nat{i:Int}(h:Sm i):i.natAbs<10 ^ 70:=by
 unfold Sm at h;lia
def zoe:10 ^ 70<=2 ^ 300:=by decide +kernel
def Sm.log(h:Sm i):i.natAbs.log2<300:=by
 by_cases z:i.natAbs=0;simp_all;exact(Nat.log2_lt z).mpr (Û h.nat zoe)
def Sm.bits(h:Sm i):Builtin.Int.intBits i<=2 ^ 20:=by
 have q:=h.log;unfold Builtin.Int.intBits;grind
section
variable {X:Cx}
theorem zl7:As X (binaryOp .Mult)<|rI (λi j=>Sm i/\Sm j) λi j=>.int<|i * j:=Ku λϊ ϊ ϊ ϊ ϊ ϊ ϊ a q=>mul_int q<|.of_bits a.1.bits a.2.bits
theorem zig:As X (binaryOp .FloorDiv)<|rI (λϊ j=>j≠0/\Sm j) λi j=>.int<|i.fdiv j:=
 Ku λϊ ϊ ϊ ϊ ϊ ϊ ϊ a q=>floordiv_int a.1 q<|.inl<|PyProof.noPylong_of_log2<|Ĩ a.2.log<|by decide
def fU(r:Ak x v):PySem.plainIs v (.bool b)=true/\(v == Value.bool b)=decide (x=V.bl b):=by
 cases x with
 |non=>cases r;exact{rfl,by simp}|bl c=>cases r;exact{rfl,by grind}|int i=>let(t,rfl):=r;exact{rfl,by simp}
 |str i=>let(t,rfl):=r;exact{rfl,by simp}
 |byt i=>let(t,rfl):=r;exact{rfl,by simp}
 |flt i=>let(t,rfl):=r;exact{rfl,by simp}
 |ref i=>cases r;exact{rfl,by simp}|ty i=>cases r;exact{rfl,by simp}
def zox:As X (compareOp .Is) (λx y H Q=>∃b,y=.bl b/\Q (.bl<|decide (x=.bl b)) H):=by
 intro f s O H x y v u Q I d e h;let(b,rfl,q):=h;cases e;let(a,c):=fU d;exact wpAny_is_plain a<|Lb I q c.symm
def zl6:As X (compareOp .IsNot) (λx y H Q=>∃b,y=.bl b/\Q (.bl<|!decide (x=.bl b)) H):=by
 intro f s O H x y v u Q I d e h;let(b,rfl,q):=h;cases e;let(a,c):=fU d;exact wpAny_isNot_plain a<|Lb I q<|by rw[c]
def zjj:CT X (.builtin "isinstance") (λxs H Q=>∃x t b,xs=[x,.ty c]/\TyOf X.K H x t/\W.kitOne X.K t (.type c)=↑b/\Q (.bl b) H):=by
 intro f s O H xs g Q I r h;let(x,t,b,rfl,ty,e,q):=h;let(u,i,rfl,a,d):=IG r;cases d;exact Ui I a ty e λtk=>{.bl b,H,I.tok _,rfl,q}
variable {pos:Pos}
end
section
variable {X:Cx}
end
def ze5:W.kitMeta "int"=true:=by decide +kernel
def zcy:W.kitMeta "bool"=true:=by decide +kernel
def zcg:W.kitMeta "tuple"=true:=by decide +kernel
def zis(K)(c):W.kitOne K (.type c) (.type c)=↑true:=by
 unfold W.kitOne;simp
def zpt(K){l:ki}(h:t≠c)(d:W.kitMeta c=true)(a:(fastBuiltinMro t).map (·.contains (Value.type c))=↑b):W.kitOne K (.type t) (.type c)=↑b:=by
 unfold W.kitOne;rw[if_neg<|by simpa using h];show(if W.kitMeta c=true then W.subIn K (.type t) (.type c) else none)=↑b;rw[if_pos d];exact a
structure FunD(K:q9)(x qual:Str)(st:Stmt)(f:Addr)(fd:FuncData):Prop where
 ex:∃(oc:Value) (od:Option Addr) (dV kV doc pm:Value) (an:Option Addr) (cdv ct:Value) (osl:Array<|Option Value),
  fd=W.fnOf x qual (Oa st) (Ht st) (DY st) dV kV doc pm an cdv ct/\K.lookup f=↑{oc,od,.func fd,osl}/\W.codeIn K cdv qual=true
 kp:W.keepIn K (.ref f)=true
theorem zm3{K}{st}{dV kV doc pm cdv ct}(l:K.lookup f=↑{oc,od,.func<|W.fnOf x qual (Oa st) (Ht st) (DY st) dV kV doc pm an cdv ct,osl})
  (c:W.codeIn K cdv qual=true) (k:W.keepIn K (.ref f)=true):FunD K x qual st f<|W.fnOf x qual (Oa st) (Ht st) (DY st) dV kV doc pm an cdv ct:={{(oc),od,dV,kV,doc,pm,an,cdv,ct,osl,rfl,l,c},k}
structure Tx(K:q9)(mg:Str->Option Value)(x:Str)(st:Stmt)(ps:ky) where
 f:Addr
 fd:FuncData
 F:FunD K x x st f fd
 m:mg x=↑(.ref f)
 b:Cn K fd ps []
section
variable {X:Cx}{k j:Nat}{x:Str}{ps:ky}{sp:Sp}{p pos:Pos}{e:Expr}{es:ku}{t:TA}
end
theorem Ms(h:H p=none)(o):Ag H<|upd H p o:=λb u q=>by
 rw[BF<|DB q h];exact q
def zqs(X:Cx)(a:Scope)(cl:List<|Str×Addr)(b:ky)(C:Addr)(s₀:Shared)(H₀:Hp)(ex:List Addr):Cx:=
 { X with N:=b,s₀:=s₀,H₀:=H₀,env:=compEnvC a cl C X.env,outer:=X.stack,ex:=ex,fn:=λϊ=>false,xe:=λϊ ϊ=>False }
theorem HOk.adopt(x:HOk P w H h)(f:H a=none)(new:DH P w (upd H a o) h a o):HOk P w (upd H a o) h:=λb u e=>by
 by_cases d:b=a;subst d;rw[C2]at e;grind;rw[BF d]at e;exact(x b u e).stay (λc v ϊ q=>q) (λc q=>by rw[BF<|DB q f];exact q) λc xs q=>by rw[BF<|DB q f];exact q
section
variable {X:Cx}{elt iter tg:Expr}{scope:Scope}{pos:Pos}{cl:List<|Str×Addr}{N':ky}{wi:TI}{g:TG}{te:TE}
end
end Zw
namespace Zx
open PySem PySem.Spec PyProof.Rows L2 Zw
def Oy(h B:Heap)(a:Addr)(b:Value×Option Addr)(fl:Value):Prop:=
 ∃oe c T oT d,h.get? a=↑oe/\((oe.cls,oe.dict)=b/\c[2]?=↑.none)/\oe.data=.fields c/\c[1]?=↑(.ref T)/\B.get? T=none/\T≠a/\h.get? T=↑oT/\oT.data=.fields d/\d[3]?=↑fl
def Fp(B:Heap)(l:List Env)(a:Addr)(b:Value×Option Addr)(h:Heap):Prop:=B.StaysIn h/\B.get? a=none/\h.FunFrames B l/\Oy h B a b .none
def Wy(B:Heap)(l:List Env)(a:Addr)(b:Value×Option Addr)(L:Addr)(h:Heap):Prop:=B.StaysIn h/\B.get? a=none/\h.FunFrames B l/\Oy h B a b (rawInt L)
def Fp.first(x:Fp B l a cls h):∃oe vs,h.get? a=↑oe/\(oe.cls,oe.dict)=cls/\oe.data=.fields vs/\vs[2]?=↑.none:=
 let ⟨_,_,_,oe,vs,_,_,_,he,hc,hd,_⟩:=x;{(oe),vs,he,hc.1,hd,hc.2}
def Fp.there(x:Fp B l a cls h):∃ob,h.get? a=↑ob/\ob.cls=cls.1:=
 let ⟨oe,_,he,hc,_⟩:=x.first;{oe,he,congrArg Prod.fst hc}
def zge(f)(o):((Obj.mapFields f o).cls,(Obj.mapFields f o).dict)=(o.cls,o.dict):=by
 unfold Obj.mapFields;split<;>rfl
section
variable {M:Model}{A:Around}{E:Value->Shared->Prop}{s:Shared}{B:Heap}{env v:Env}{l:List Env}{L a:Addr}{cls:Value×Option Addr}{Q:Unit->Shared->Prop}
def jV(m:A.frames=↑(v::l))(i:s.heap.FunFrames B<|v::l)(F:v.frame=↑L)(k:s.heap.get? a=↑oe)(hk:B.StaysIn s.heap)(w:B.get? a=none)
  (hd:oe.data=.fields vs) (g:1<vs.size) (D:vs[2]?=↑.none) (h:∀h',Wy B (v::l) a (oe.cls,oe.dict) L h'->s.heap.UpToSlots h'->Q () { s with heap:=h' }) :
  wpAny M A (do let f <- frameOf v;let pl <- entryPlaceOf L hn;let b <- EntryCells.newEntry head f .none (rawInt L) .none pl;setField (.ref a) 1 b) Q E s:=by
 have r:a∉(v::l).filterMap (·.frame):=λz=>by
  let(_,o,x,n):=i.mem z;rw[k]at x;cases x;exact n vs hd
 refine Â<|wpAny_frameOf_fun m i F λc p=>?_
 refine Â<|wpAny_entryPlaceOf λpl e=>?_
 unfold EntryCells.newEntry newFields;refine Â<|wpAny_newObj_type ?_<|e.sizeOk5 _ _ _ _ _;have j :=(p.2.1 a r).trans k;have u:B.StaysIn c:=λb o q=>(p.2.1 b λz=>by rw[(i.mem z).1]at q;cases q).trans (hk b o q)
 have ne :=Nat.ne_of_gt<|Ç j;refine Ŝ (Ó _ j) hd g ?_;have d:=ő hd (·.setIfInBounds 1 (Value.ref c.objs.size));have kp:∀nw b o,b≠a->c.get? b=↑o->((c.push nw).update a (Obj.mapFields (·.setIfInBounds 1 (Value.ref c.objs.size)))).get? b=↑o:=λnw b o n q=>(Ć _ _<|Ë n).trans (Ó _ q)
 have nr:∀b o,s.heap.get? b=↑o->(∀ws,o.data≠.fields ws)->b≠a:=λb o q n z=>by
  rw[z,k]at q;cases q;exact n vs hd
 have C:∀nw,s.heap.UpToSlots ((c.push nw).update a (Obj.mapFields (·.setIfInBounds 1 (Value.ref c.objs.size)))):=λnw b o q n=>by
  let(y,t):=p.2.2 b o q;exact{y,kp nw b _ (nr b o q n) t}
 refine h _ {λb o q=>kp _ b o (λz=>by rw[z,w]at q;cases q)<|u b o q,w,i.of_keeps λb o q n=>?_,_,_,c.objs.size,_,_,ŉ _ (Ó _ j)<|Ū d,{by rw[zge],?_},d,by simp[g],u.fresh,ne,
  (Ć _ _<|Ë ne).trans (â c rfl),rfl,?_}<|C _
 let(y,t):=C _ b o q n;exact{_,t,rfl};rw[Array.getElem?_setIfInBounds_ne<|by decide];exact D
 .first|(simp;done)|(rcases e with rfl|⟨_,_,_,_,_,_,_,rfl⟩<;>simp)
def jL(hk:B.StaysIn s.heap)(m:B.get? a=none)(t:s.heap.FunFrames B l)(u:Oy s.heap B a cls fl)(h:∀h',Fp B l a cls h'->s.heap.UpToSlots h'->Q () { s with heap:=h' }):wpAny M A (setFlight (.ref a) none) Q E s:=by
 let(oe,v,T,oT,j,g,r,hd,g1,nT,d,e,dT,k):=u;have i:3<j.size:=(İ.mp k).1;have c:∀b,b≠T->(s.heap.update T (Obj.mapFields (·.setIfInBounds 3 ((none:Option Addr).elim Value.none λf=>rawInt f)))).get? b=s.heap.get? b:=λb p=>Ć _ _<|Ë p
 have nr:∀b o,s.heap.get? b=↑o->(∀ws,o.data≠.fields ws)->b≠T:=λb o q n z=>by
  rw[z,e]at q;cases q;exact n j dT
 unfold setFlight;refine Â<|Ď g hd g1 ?_;rw[if_pos<|by simp]
 exact Ŝ e dT i (h _ {λb o q=>(c b λz=>by rw[z,nT]at q;cases q).trans (hk b o q),m,t.of_keeps λb o q n=>{o,(c b<|nr b o q n).trans q,rfl},
  oe,v,T,_,_,(c a<|Ë d).trans g,r,hd,g1,nT,d,ŉ _ e<|Ū<|ő dT _,ő dT _,by simp[i]} λb o q n=>{o.slots,(c b<|nr b o q n).trans q})
theorem Ub(hh:Wy B l a cls L s.heap)(b:∀h',Fp B l a cls h'->s.heap.UpToSlots h'->Q () { s with heap:=h' }):wpAny M A (setFlight (.ref a) none) Q E s:=
 jL hh.1 hh.2.1 hh.2.2.1 hh.2.2.2 b
theorem zr3(hh:Fp B l a cls s.heap)(b:∀h',Fp B l a cls h'->s.heap.UpToSlots h'->Q () { s with heap:=h' }):wpAny M A (setFlight (.ref a) none) Q E s:=
 jL hh.1 hh.2.1 hh.2.2.1 hh.2.2.2 b
structure MadeO(h h':Heap)(a:Addr)(cls:Value×Option Addr):Prop where
 keeps:∀b o,h.get? b=↑o->h'.get? b=↑o
 new:h.get? a=none
 there:∃oe t,h'.get? a=↑oe/\(oe.cls,oe.dict)=cls/\oe.data=.fields #[.ref t,.none,.none,.none,.bool false,.none]
theorem madeO(b:Heap.MadeExcOf h h' a c args):MadeO h h' a (c,none):=
 {b.keeps,b.new,let ⟨t,he,_,_⟩:=b.there;{_,t,he,rfl,rfl}}
def madeX(d:A.frames=↑(v::l))(i:v.frame=↑L)(hk:B.StaysIn h)(n:h.FunFrames B<|v::l)(c:MadeO h s.heap a cls)
  (m:∀h',Fp B l a cls h'->s.heap.UpToSlots h'->Q () { s with heap:=h' }):wpAny M A (leaving v<|.ref a) Q E s:=by
 let(oe,t,j,rfl,hd):=c.there
 have fr:B.get? a=none:=by
  cases q:B.get? a with
  |none=>rfl|some o=>have:=hk a o q;rw[c.new]at this;cases this
 unfold leaving noteFrame;erw[i];refine Â<|Â<|Ď j hd rfl ?_;refine jV d (n.of_keeps λb o q ϊ=>{o,c.keeps b o q,rfl}) i j (λb o q=>c.keeps b o<|hk b o q) fr hd (by simp) rfl λw e u=>Ub e λk f g=>?_
 let(e,f,(_,_,p),r):=f;exact m k {(e),f,p,r}<|u.trans g
end
def Pq(B:Heap)(l:List Env)(a:Addr)(b:Value×Option Addr)(h:Heap):Prop:=∃fl,B.StaysIn h/\B.get? a=none/\h.FunFrames B l/\Oy h B a b fl
theorem jK(x:Fp B l a cls h):Pq B l a cls h:={.none,x}
section
variable {M:Model}{A:Around}{E:Value->Shared->Prop}{s:Shared}{B:Heap}{env v:Env}{l:List Env}{L a:Addr}{cls:Value×Option Addr}{Q:Unit->Shared->Prop}
def Sw(q:A.frames=↑(v::l))(w:env.frame=v.frame)(p:v.frame=↑L)(x:Pq B (v::l) a cls s.heap)(r:∀h',Wy B (v::l) a cls L h'->s.heap.UpToSlots h'->Q () { s with heap:=h' }):wpAny M A (noteFrame (.ref a) env) Q E s:=by
 have en:noteFrame (.ref a) env=noteFrame (.ref a) v:=by
  unfold noteFrame PySem.frameOf;rw[w]
 rw[en];let(fl,f1,f2,f3,f4):=x
 by_cases g:fl=rawInt L;subst g;let(oe,ws,h,oT,t,j,_,hd,g1,_,_,f,dT,i):=id f4;unfold noteFrame;erw[p];refine Â<|Ď j hd g1 ?_;rw[if_pos<|by simp]
 refine Â<|Ď f dT i ?_;rw[if_pos<|by simp]
 exact Ð<|r _ {(f1),f2,f3,f4}<|.refl _
 let(oe,ws,h,oT,t,j,(rfl,u),hd,g1,nT,m,f,dT,i):=f4;have n:=(İ.mp i).1;have d:∀b,b≠h->(s.heap.update h (Obj.mapFields (·.setIfInBounds 3 Value.none))).get? b=s.heap.get? b:=λb c=>Ć _ _<|Ë c
 have nr:∀b o,s.heap.get? b=↑o->(∀C,o.data≠.fields C)->b≠h:=λb o c e z=>by
  rw[z,f]at c;cases c;exact e t dT
 unfold noteFrame;erw[p];refine Â<|Ď j hd g1 ?_;rw[if_pos<|by simp]
 refine Â<|Ď f dT i ?_;rw[if_neg<|λz=>g<|beq_iff_eq.mp z]
 refine Â<|Ŝ f dT n ?_;refine jV q (f3.of_keeps λb o c e=>{o,(d b<|nr b o c e).trans c,rfl}) p ((d a<|Ë m).trans j) (λb o c=>(d b λz=>by rw[z,nT]at c;cases c).trans (f1 b o c)) f2 hd (İ.mp g1).1 u λh' k y=>?_
 exact r h' k λb o c e=>y b o ((d b<|nr b o c e).trans c) e
def leavX(b:A.frames=↑(v::l))(f:v.frame=↑L)(i:Pq B (v::l) a cls s.heap)(g:∀h',Fp B l a cls h'->s.heap.UpToSlots h'->Q () { s with heap:=h' }):wpAny M A (leaving v<|.ref a) Q E s:=by
 refine Â<|Sw b rfl f i λo hh c=>Ub hh λe h d=>?_
 let(j,k,(_,_,m),n):=h;exact g e {(j),k,m,n}<|c.trans d
end
def Dg(P:Program)(w:World):Gc:=λouter H s E e d=>∃(a:Addr) (c:Value×Option Addr) (f:Hp) (B:Heap),
 e=.ref a/\d.os=s.os/\AllBare d.gens/\Un (Bg outer) [] H f s.heap d.heap/\HOk P w f B/\(∀b o,s.heap.get? b=↑o->H b=none->b∉Bg outer->B.get? b=↑o) /\
 (∀b o,s.heap.get? b=↑o->b∉Bg outer->∃g,B.get? b=↑g)/\Pq B outer a c d.heap/\E c.1 c.2 f
def C1(X:Cx)(E:L2.St->XK):Prop:=∀(b:List<|Addr×Obj) (O:L2.St) (H:Hp) (s:Shared) (e:Value) (a:Shared),Inv X b O H s->Dg X.prog X.w X.stack H s (E O) e a->X.xe e a
def Ws(X:Cx)(E:L2.St->XK):Prop:=∀(d:List<|Addr×Obj) (O:L2.St) (H:Hp) (s:Shared) (a:Addr) (b:Value) (e:ki) (c:Heap),Inv X d O H s->Heap.MadeExcOf s.heap c a b e->E O b none H->X.xe (.ref a) { s with heap:=c }
section
variable {X:Cx}{pz:List<|Addr×Obj}{O:L2.St}{H:Hp}{s:Shared}
theorem NX(I:Inv X pz O H s)(e:X.s₀.heap.get? b=↑o)(a:b∉Bg X.outer):b∉Bg X.stack:=λz=>by
 rcases Ñ.mp (I.stkSub b z) with q|q;exact absurd (Û (Ç e) I.ok.above) (by rw[q];exact ã _);exact a q
def zg1(a:X.stack=X.env::X.outer)(e:b∈Bg X.outer):b∈Bg X.stack:=by
 rw[a];let(v,c,d):=Ē.mp e;exact Ē.mpr {v,Í _ c,d}
theorem zq9(I:Inv X pz O H s):HOk X.prog X.w H<|W.hideAll s.heap<|Bg X.stack:=λb u e=>(I.hok b u e).stay (λc v a q=>Ġ _ q λz=>by
  have f:=I.stkFree c z
  grind) (λϊ q=>q) λϊ ϊ q=>q
def zll(h:X.stack=X.env::X.outer)(x:X.env.frame=↑X.env.locals)(hex:X.ex=[])       (I:Inv X pz O H s)(k:Heap.MadeExcOf s.heap h' a cls vs)(w:E cls none H) :
  wpAny (model X.prog X.w) X.A (leaving X.env<|.ref a) (λϊ s2=>Dg X.prog X.w X.outer X.H₀ X.s₀ E (.ref a) s2) Ex { s with heap:=h' }:=by
 have d:∀b ,b∉X.ex:=λb z=>by grind
 have i :=h▸I.ok.frames
 have p:s.heap.FunFrames (W.hideAll s.heap<|Bg X.stack)<|X.env::X.outer:=by
  rw[<- h];exact W.funFrames_hide I.stack λv y b c=>Ē.mpr {(v),y,c}
 refine madeX i x (λb o q=>Ĵ _ q) p (madeO k) λu fl A=>?_;have l :=λb o e n c=>Ġ _ (I.base.keep b o e n c<|d b)<|NX I e c
 have tB:∀b o,X.s₀.heap.get? b=↑o->b∉Bg X.outer->∃f,(W.hideAll s.heap<|Bg X.stack).get? b=↑f:=λb o e c=>by
  let(f,r):=I.base.there b o e<|d b;exact{f,Ġ _ r<|NX I e c}
 have m:∀b o,X.s₀.heap.get? b=↑o->X.H₀ b=none->b∈Bg X.outer->∃z,u.get? b=↑{ o with slots:=z }:=λb o e n c=>by
  let(z,j):=I.base.slot b o e n c<|d b;let(_,o2,g,hd):=I.funs.mem c;rw[j]at g;cases g;let(B,t):=A b { o with slots:=z } (k.keeps b _ j) hd
  exact{(B),t}
 refine{a,(cls,none),H,_,rfl,I.os,I.bare,{λb o e n c ϊ=>fl.1 b o<|l b o e n c,λb o e n c ϊ=>m b o e n c,λb o e n ϊ=>I.base.free b o e n<|d b,λb o e ϊ=>?_,I.base.tups,I.base.frzs,I.base.tbls},zq9 I,l,tB,jK fl,w};by_cases c:b∈Bg X.outer;let(z,q):=m b o e (I.ok.frf b c) c;exact{_,q};let(f,q):=tB b o e c;exact{f,fl.1 b f q}
def zl4(g:X.stack=X.env::X.outer)(G:X.env.frame=↑X.env.locals)(hex:X.ex=[])     (I:Inv X pz O H s)(h:Dg X.prog X.w X.stack H s E e s') :
  wpAny (model X.prog X.w) X.A (leaving X.env e) (λϊ s2=>Dg X.prog X.w X.outer X.H₀ X.s₀ E e s2) Ex s':=by
 let(a,k,A,B,rfl,os,bare,un,hok,v,w,p,F):=h;have d:∀b ,b∉X.ex:=λb z=>by rw[hex]at z;cases z
 have t :=g▸I.ok.frames;have r :=g▸p;refine leavX t G r λD fl J=>?_
 have x :=λb o e n c=>v b o (I.base.keep b o e n c<|d b) (I.base.free b o e n<|d b)<|NX I e c
 have tB:∀b o,X.s₀.heap.get? b=↑o->b∉Bg X.outer->∃f,B.get? b=↑f:=λb o e c=>by
  let(f,l):=I.base.there b o e<|d b;exact w b f l<|NX I e c
 have y:∀b o,X.s₀.heap.get? b=↑o->X.H₀ b=none->b∈Bg X.outer->∃z,D.get? b=↑{ o with slots:=z }:=λb o e n c=>by
  let(z,j):=I.base.slot b o e n c<|d b;let(_,o2,i,hd):=I.funs.mem c;rw[j]at i;cases i;let(K,m):=un.slot b { o with slots:=z } j (I.base.free b o e n<|d b) (zg1 g c)<|by simp
  let(L,C):=J b { o with slots:=K } m hd;exact{(L),C}
 refine{a,k,A,B,rfl,os.trans I.os,bare,{λb o e n c ϊ=>fl.1 b o<|x b o e n c,λb o e n c ϊ=>y b o e n c,λb o e n ϊ=>?_,λb o e ϊ=>?_,λb xs e=>un.tups b xs<|I.base.tups b xs e,λb o u e=>un.frzs b o u<|I.base.frzs b o u e,λb ps e=>?_},hok,x,tB,jK fl,F};let(f,l):=I.base.there b o e<|d b;exact un.free b f l (I.base.free b o e n<|d b)<|by simp
 by_cases c:b∈Bg X.outer;let(z,q):=y b o e (I.ok.frf b c) c;exact{_,q};let(f,q):=tB b o e c;exact{f,fl.1 b f q};let(m1,j):=I.base.tbls b ps e;let(m2,m):=un.tbls b _ j;exact{m1++m2,m.trans<|by rw[Array.append_assoc]}
end
section
variable {P:Program}{w:World}{K:q9}{mg:Str->Option Value}{base:Heap}
theorem ZR:C1 (G0 (Dg P w) P w K mg base N qual sc f cd A outer s H E)<|λϊ=>E:=
 λϊ ϊ ϊ ϊ ϊ ϊ I h=>zl4 rfl rfl rfl I h
theorem d7:Ws (G0 (Dg P w) P w K mg base N qual sc f cd A outer s H E)<|λϊ=>E:=
 λϊ ϊ ϊ ϊ ϊ ϊ ϊ ϊ I b a=>zll rfl rfl rfl I b a
def Z4{st }      (F:FunD K x qual st f fd)(S:FnScope N ps<|DY st)(len:∀vs H Q E,sp vs H Q E->vs.length=ps.length)
  (a : ∀ (cdv ) (A ) (outer ) (s ) (H ) (vs ) (Q ) (E ), Room k (A.deeper<|envOfC qual (DY st) s.heap.objs.size f cdv) -> sp vs H Q E ->
   ∃t,Bf (G0 (Dg P w) P w K mg base N qual (DY st) f cdv A outer s H E) (Ht st) t/\t { nx:=λϊ H'=>Q .non H',rt:=Q } (start N vs) H):FnOk P w K mg base (Dg P w) (k+1) f fd ps sp:=by
 let(j,l,i,kV,d,m,h,cdv,ct,g,rfl,lk,b):=F.ex;exact fn_of lk b S len λA outer s H vs Q E e c=>a cdv A outer s H vs Q E e c
end
structure DefX(P:Program)(w:World)(K:q9)(mg:Str->Option Value)(base:Heap)(k:Nat)(x:Str)(ps:ky)(sp:Sp) where
 f:Addr
 fd:FuncData
 ok:FnOk P w K mg base (Dg P w) k f fd ps sp
 m:mg x=↑(.ref f)
 kp:W.keepIn K (.ref f)=true
 b:Cn K fd ps []
structure DefsX(K:q9)(fd:FuncData)(ps:ky)(dvs:qE):Prop where
 ex:∃ds,Cn K fd ps ds/\Al dvs ds
section
variable {X:Cx}{k j:Nat}{f:Addr}{fd:FuncData}{x:Str}{ps:ky}{sp:Sp}{p pos:Pos}{e:Expr}{es:ku}{t:TA}{E:L2.St->XK}{dvs:qE}
def Mw{O:L2.St}      (F:FnOk X.prog X.w X.K X.mg X.base (Dg X.prog X.w) k f fd ps sp)(e:Room k X.A)(c:Cn X.K fd ps ds)(hd:Al dvs ds)(g:C1 X E)
  (I:Inv X pz O H s) (r:Al vs us) (h:sp (vs++dvs) H Q<|E O):wpAny (model X.prog X.w) X.A (call (.ref f) us) (EP X pz O Q) X.xe s:=by
 have b :=r.append hd;have d :=b.length.symm.trans<|F.len _ _ _ _ h;refine ŀ<|Ě (F.run X.A X.stack s H {us,[]} (us++ds) (vs++dvs) Q (E O) e I.env0 (c s us I.kIn d) b h) λr i a=>?_
 cases r with
 |error v=>exact g pz O H s v i I a|ok fl=>
  cases fl with
  |ret u=>exact I.after a|_=>exact False.elim a
def Q4(sp:Sp)(dvs:qE)(E:L2.St->XK)(t:TA):TE:=λO H Q=>t O H λb a=>sp (b++dvs) a Q<|E O
def px(D:DefX X.prog X.w X.K X.mg X.base k x ps sp)(g:Room j X.A)(i:C1 X E)(c:PA X (e::es) t)(hk:k<=j)(f:Gl X x)(a:(x == "__debug__")=false)
  (d:starEach (e::es) X.env=(false,eval e X.env)::starEach es X.env) (b:(backTo pos<|starEach es X.env).any (·.1)=false):PE X (.Call (.Name x p) (e::es) [] pos)<|Q4 sp [] E t:=by
 intro l s O H Q I h;refine ī<|Jc I f D.m ?_ a;refine Œ I.ok.mod.kin D.kp (A5 (c pos l s O H _ I h) λn m ⟨o,H1,I1,r,q⟩=>{I1.kIn,?_}) d b
 exact Mw D.ok (g.mono hk) D.b .nil i I1 r q
def pxd(D:DefX X.prog X.w X.K X.mg X.base k x ps sp)(c:DefsX X.K D.fd ps dvs)(l:Room j X.A)(m:C1 X E)(d:PA X (e::es) t)(hk:k<=j)(i:Gl X x)(a:(x == "__debug__")=false)
  (g:starEach (e::es) X.env=(false,eval e X.env)::starEach es X.env) (b:(backTo pos<|starEach es X.env).any (·.1)=false):PE X (.Call (.Name x p) (e::es) [] pos)<|Q4 sp dvs E t:=by
 intro n s O H Q I h;let(ds,f,hd):=c.ex;refine ī<|Jc I i D.m ?_ a;refine Œ I.ok.mod.kin D.kp (A5 (d pos n s O H _ I h) λu o ⟨v,H1,I1,r,q⟩=>{I1.kIn,?_}) g b
 exact Mw D.ok (l.mono hk) f hd m I1 r q
end
abbrev QT:ki:=[.type "ValueError",.type "Exception",.type "BaseException",.type "object"]
def Se:Value->Bool
 |.type s=>s == "type"|ϊ=>false
def Sg:Data->Option ClassData
 |.cls k=>↑k|ϊ=>none
def Sf:Value->Option Addr
 |.ref D=>↑D|ϊ=>none
def Sh:Value->Bool
 |.builtin n=>n == "ValueError.__new__"|ϊ=>false
def Ld(K:q9)(C:Addr):Bool:=match K.lookup C with
 |some o=>(match Sg o.data with
  |some k=>Se o.cls && (o.slots.toList.length == 6 && ((o.slots.toList.getD 4 none).elim false Sh && (!k.hasDel && (k.mro.head?.bind Sf == ↑C && (W.tailIn K QT k.mro.tail && W.nsOkIn K k.ns)))))|none=>false)
 |none=>false
def EI(K:q9)(C:Addr):Option<|Option Value:=(W.clsIn K C).bind λk=>W.nsIn K k.ns "__init__"
structure ExcK(K:q9)(C:Addr):Prop where
 q:Ld K C=true
 self:W.subIn K (.ref C) (.ref C)=↑true
 cd:∃cd,W.clsIn K C=↑cd
 ty:W.typeIn K (.ref C)=↑(.type "type")
 ga:W.findIn K (.ref C) "__getattribute__"=↑(↑(.builtin "BaseException.__getattribute__"))
 gt:W.findIn K (.ref C) "__getattr__"=↑none
 ca:W.findIn K (.ref C) "__class__"=↑(↑(.builtin "object.__class__"))
 ob:W.mroIn K C (.type "object")=↑true
 be:W.mroIn K C (.type "BaseException")=↑true
 gs:W.specialIn K (.builtin "object.__class__") "__get__"=↑(↑(.builtin "getset_descriptor.__get__"))
 tk:W.takesIn K (.builtin "object.__class__")=↑true
structure ECls(K:q9)(mg:Str->Option Value)(x:Str) where
 C:Addr
 m:mg x=↑(.ref C)
 k:ExcK K C
def znp{c:Value}(h:Se c=true):c=.type "type":=by
 cases c<;>first|exact congrArg _ (eq_of_beq h)|cases h
def znr{d:Data}{k:ClassData}(h:Sg d=↑k):d=.cls k:=by
 cases d<;>cases h;rfl
def znq{l:ki}{C:Addr}(h:l.head?.bind Sf=↑C):∃bm,l=.ref C::bm:=by
 cases l with
 |nil=>cases h|cons w bm=>refine{bm,congrArg (·::bm) ?_};cases w<;>cases h;rfl
def znt{o:Option Value}(h:o.elim false Sh=true):o=↑(.builtin "ValueError.__new__"):=by
 cases o with
 |none=>cases h|some v=>cases v<;>first|exact congrArg (λn=>↑(Value.builtin n)) (eq_of_beq h)|cases h
def six{l:List<|Option Value}(h:l.length=6):l=[l.getD 0 none,l.getD 1 none,l.getD 2 none,l.getD 3 none,l.getD 4 none,l.getD 5 none]:=by
 let(a,l,rfl):=Ĝ h;let(b,l,rfl):=Ĝ<|ï h;let(c,l,rfl):=Ĝ<|ï<|ï h;have h:l.length=3:=ï<|ï<|ï h;let(d,l,rfl):=Ĝ h;let(e,l,rfl):=Ĝ<|ï h;let(f,l,rfl):=Ĝ<|ï<|ï h;rw[List.eq_nil_of_length_eq_zero<|ï<|ï<|ï h]
 rfl
def zm5{K:q9}{C:Addr}(q:Ld K C=true):∃c dd sl k,K.lookup C=↑{c,dd,.cls k,sl}/\Se c=true/\sl.toList.length=6/\(sl.toList.getD 4 none).elim false Sh=true/\k.hasDel=false/\k.mro.head?.bind Sf=↑C/\W.tailIn K QT k.mro.tail=true/\W.nsOkIn K k.ns=true:=by
 unfold Ld at q;cases a:K.lookup C with
 |none=>rw[a]at q;exact absurd q ġ|some o=>
  rw[a]at q;let(c,dd,b,sl):=o;dsimp only at q;cases hk:Sg b with
  |none=>rw[hk]at q;exact absurd q ġ|some k=>rw[hk]at q;cases znr hk;erw[Æ,Ł,ŷ]at q;exact{(c),dd,sl,k,rfl,q}
def jS{K}(X:K.In h)(q:Ld K C=true):∃(k:ClassData) (bm:ki) (dd:Option Addr) (f:Nat->Option Value) (mN:Str->Option Value),h.get? C=↑(excClassObj k.name k.qualname C k.ns k.bases bm k.hasDict k.slotNames k.subclasses k.abstract k.collection dd (f 0) (f 1) (f 2) (f 3) (f 5) "ValueError.__new__")/\h.Ns k.ns mN/\(W.clsIn K C=↑k/\k.mro=.ref C::bm)/\OwnTail h QT bm:=by
 let(c,dd,a,k,e,l,m,n,o,p,g,hok):=zm5 q;let(bm,b):=znq p
 have j:a=#[a.toList.getD 0 none,a.toList.getD 1 none,a.toList.getD 2 none,a.toList.getD 3 none,↑(.builtin "ValueError.__new__"),a.toList.getD 5 none]:=by
  rw[<- znt n];exact congrArg List.toArray<|six m
 have d:h.get? C=↑{c,dd,.cls {(k.name),k.bases,k.mro,k.ns,k.qualname,k.hasDict,k.slotNames,k.subclasses,k.abstract,k.collection,k.hasDel},a}:=X _ _ e;rw[znp l,b,o,j]at d;rw[b]at g;exact{k,bm,dd,λi=>a.toList.getD i none,_,d,.of_isNs<|W.isNs_of_in X hok,{by unfold W.clsIn;rw[e],b},W.tail_of_in X g}
def ziw{K}(X:K.In h)(G:h.Ns N mN)(a:W.clsIn K C=↑cd)(b:cd.ns=N)(q:EI K C=↑none):mN "__init__"=none:=by
 unfold EI at q;rw[a]at q;subst b;exact W.ns_none_of X G q
section
variable {X:Cx}{x:Str}{p cpos pos:Pos}{e:Expr}{es:ku}{t:TA}{E:L2.St->XK}
def zmt(C:Addr)(E:L2.St->XK)(t:TA):TS:=λϊ O H=>t O H λb a=>b.length<=sizeLine/\E O (.ref C) none a
def zib(T:ECls X.K X.mg x)(b:EI X.K T.C=↑none)(w:X.calm=true)(C:Ws X E)(v:PA X (e::es) t)(A:Gl X x)(f:(x == ("__debug__":Str))=false)
  (y:starEach (e::es) X.env=(false,eval e X.env)::starEach es X.env) (i:(backTo cpos<|starEach (e::es) X.env).any (·.1)=false) :
  PS X (.Raise (↑(.Call (.Name x p) (e::es) [] cpos)) none pos) (zmt T.C E t):=by
 intro n s O H D I h;let(cd,J,k,c,K,u,m,(d,_),j):=jS I.mod.kin T.k.q;have g:=ziw I.mod.kin m d rfl b
 refine wpAny_Raise_call_subT (nm:=cd.name) (q:=cd.qualname) (N:=cd.ns) (bs:=cd.bases) (hdct:=cd.hasDict) (sn:=cd.slotNames) (sub:=cd.subclasses) (ab:=cd.abstract) (col:=cd.collection) (dd:=k) (k0:=c 0) (k1:=c 1) (k2:=c 2) (k3:=c 3) (k5:=c 5)
  Š (j.hasType Š.hasBase) (I.ok.hd w) i g (Jc I A T.m {rfl,?_} f)
 have l:=v cpos n s O H _ I h;rw[y]at l ⊢;exact Calls.evalArgs_plain<|A5 l λG F ⟨L,H1,I1,r,z,q1⟩=>{rfl,r.length▸z,I1.bk _ _ u,m.keeps I1.bk,j.keeps I1.bk,λo a B=>C n O H1 F a _ G o I1 B q1}
end
def IsX(H:Hp)(a C:Addr):Prop:=∃ob,H a=↑(.frz ob<|.own 0)/\ob.cls=.ref C/\∃b,ob.data=.fields b/\b[2]?=↑.none
def Pp(H:Hp)(a C:Addr)(c:Option Addr):Prop:=∃ob,H a=↑(.frz ob<|.own 0)/\(ob.cls,ob.dict)=(.ref C,c)/\∃b,ob.data=.fields b/\b[2]?=↑.none
theorem Pp.of(x:Pp H a C dx)(e:∀u,H a=↑u->F a=↑u):Pp F a C dx:=
 let ⟨ob,y,r⟩:=x;{ob,e _ y,r}
section
variable {K:q9}{a C:Addr}
variable {X:Cx}
end
abbrev F8(X:Cx)(a:List<|Addr×Obj)(xe:Value->Shared->Prop):Cx:={ X with pn:=X.pn++a,xe:=xe }
abbrev Lg(X:Cx)(a:Addr):Cx:={ X with A:=X.A.mark<|↑(.ref a),calm:=false,xe:=λϊ ϊ=>False }
section
variable {X:Cx}{pz:List<|Addr×Obj}{O:L2.St}{H:Hp}{s:Shared}{xe:Value->Shared->Prop}
theorem zp5(ok:X.Ok):(F8 X pz xe).Ok:={(ok.mod),ok.kind,ok.glob,ok.blt,ok.above,ok.inj,ok.has,ok.cab,ok.hd,ok.frames,ok.stk,ok.exf,ok.bs,ok.bsz,ok.noex,ok.exfs,ok.funs,ok.frf}
theorem zij(ok:X.Ok):(Lg X a).Ok:={ok.mod,ok.kind,ok.glob,ok.blt,ok.above,ok.inj,ok.has,ok.cab,λz=>Bool.noConfusion z,ok.frames,ok.stk,ok.exf,ok.bs,ok.bsz,ok.noex,ok.exfs,ok.funs,ok.frf}
theorem zq5(I:Inv X pz O H s):Inv (F8 X pz xe) [] O H s:={zp5 I.ok,I.os,I.bare,I.base,I.loc,I.cell,I.free,I.freeC,λp a=>I.pin p (by simpa using a),I.hok,I.len}
theorem Z6{ok:X.Ok}(I:Inv (F8 X pz xe) pn2 O H s):Inv X pz O H s:={ok,I.os,I.bare,I.base,I.loc,I.cell,I.free,I.freeC,λp a=>I.pin p<|ù _ a,I.hok,I.len}
theorem fY{a:Addr}(I:Inv X pz O H s):Inv (Lg X a) pz O H s:={zij I.ok,I.os,I.bare,I.base,I.loc,I.cell,I.free,I.freeC,I.pin,I.hok,I.len}
theorem NS(ok:X.Ok)(I:Inv (Lg X a) pz O H s):Inv X pz O H s:={(ok),I.os,I.bare,I.base,I.loc,I.cell,I.free,I.freeC,I.pin,I.hok,I.len}
variable {A:Around}{E:Value->Shared->Prop}{M:Model}
def exm{h:Heap}{d:Drawn}{t:Nat}{os:OsState}{a C W N:Addr}{oe:Obj}{nm q:Str}{hdct:Bool}{sn:ky}{ab:Bool}
     {b:String} (i:h.get? W=↑(excClassObj nm q W N bs bm hdct sn sub ab col dd k0 k1 k2 k3 k5 b)) (l:h.get? a=↑oe) (c:oe.cls=.ref C) (k:bm.contains (.type "BaseException")=true)
    (j:PySem.W.Looks M h (isSubtype (.ref C)<|.ref W) true) (m:Q true {(h),g,d,t,os}):wpAny M A (excMatches (.ref a)<|.ref W) Q E {(h),g,d,t,os}:=by
  have e:(Value.ref W::bm).contains (.type "BaseException")=true:=by
    rw[œ,k];exact Bool.or_true _
  have f:=tc_notTuple;unfold excMatches
  repeat (first|(with_reducible refine wpAny_loadPart_at l ?_;rw[c])|with_reducible refine wpAny_loadPart_at i ?_|(with_reducible refine wpAny_isSubtype_exc i ?_;rw[e])|with_reducible refine PySem.W.Looks.at j ?_|wp_step)
  exact m
end
section
variable {X:Cx}{i:Nat}{x n:Str}{np pos hpos:Pos}{body suite:kx}{b₀:Stmt}{tb th:TS}{E:L2.St->XK}
end
end Zx
namespace Pu
open PySem PySem.Spec PyProof.Rows L2 Zw Zx
abbrev Rg:=Addr->Prop
def R0:Rg:=λϊ=>False
set_option genInjectivity true in
inductive Kd where
 |lst|rl|tup|rt|pin (p:Addr)
set_option genInjectivity true in
inductive Ob where
 |ins (C:Addr) (fs:List Str)|exn (C:Addr)|sdc (ks:List Str)|lab (p:Addr)
set_option genInjectivity true in
inductive T where
 |non|bl (b:Bool)|int (i:Int)|str (x:Str)|nd (o:Bool) (k:Kd) (l:List T)|dic (ks:List Int) (l:List T)|pdc (ks:List Int) (l:List T)|odc (ks:List Int) (l:List T)
 |obj (k:Ob) (l:List T)|oob (p C:Addr) (fs:List Str) (l:List T)|osd (ks:List Str) (l:List T)
abbrev qB:=Option T
abbrev qF:=List T
abbrev T.lst(l:qF):T:=.nd false .lst l
abbrev T.own(l:qF):T:=.nd true .lst l
abbrev T.tup(l:qF):T:=.nd false .tup l
mutual
noncomputable def T.share:T->T
 |.nd ϊ k l=>.nd false k (BP l)|.dic a l=>.dic a (BP l)|.pdc a l=>.pdc a (BP l)|.odc a l=>.pdc a (BP l)|.obj k l=>.obj k (BP l)|.oob ϊ C fs l=>.obj (.ins C fs) (BP l)|.osd a l=>.obj (.sdc a) (BP l)|.non=>.non|.bl b=>.bl b|.int i=>.int i|.str x=>.str x
noncomputable def BP:List T->List T
 |[]=>[]|t::r=>t.share::BP r
end
mutual
noncomputable def T.sh:T->Bool
 |.nd o ϊ l=>!o && AX l|.dic ϊ l=>AX l|.pdc ϊ l=>AX l|.odc ϊ ϋ=>false|.obj ϊ l=>AX l|.oob ϊ ϋ ό ύ=>false|.osd ϊ ϋ=>false|.non=>true|.bl ϊ=>true|.int ϊ=>true|.str ϊ=>true
noncomputable def AX:List T->Bool
 |[]=>true|t::r=>t.sh && AX r
end
def T.flat:T->Bool
 |.nd ϊ ϋ ό=>false|.dic ϊ ϋ=>false|.pdc ϊ ϋ=>false|.odc ϊ ϋ=>false|.obj ϊ ϋ=>false|.oob ϊ ϋ ό ύ=>false|.osd ϊ ϋ=>false|.non=>true|.bl ϊ=>true|.int ϊ=>true|.str ϊ=>true
def EA:∀l ,BP l=l.map T.share
 |[]=>rfl|t::r=>by rw[BP,EA r];rfl
def CM:∀l ,AX l=l.all T.sh
 |[]=>rfl|t::r=>by rw[AX,CM r];rfl
mutual
theorem AO:∀t:T,t.sh=true->t.share=t
 |.nd o k l,h=>by
  rw[T.sh,Æ]at h;have b:o=false:=by simpa using h.1
  subst b;rw[T.share,AI l h.2]
 |.dic a l,h=>by
  rw[T.sh]at h;rw[T.share,AI l h]
 |.pdc a l,h=>by
  rw[T.sh]at h;rw[T.share,AI l h]
 |.odc a l,h=>by
  rw[T.sh]at h;cases h
 |.obj k l,h=>by
  rw[T.sh]at h;rw[T.share,AI l h]
 |.oob p C fs l,h=>by
  rw[T.sh]at h;cases h
 |.osd a l,h=>by
  rw[T.sh]at h;cases h
 |.non,ϊ=>rfl|.bl ϊ,ϋ=>rfl|.int ϊ,ϋ=>rfl|.str ϊ,ϋ=>rfl
theorem AI:∀l:List T,AX l=true->BP l=l
 |[],ϊ=>rfl|t::r,h=>by
  rw[AX,Æ]at h;rw[BP,AO t h.1,AI r h.2]
end
def HE(K:q9)(F:Hp)(p:Addr)(xs:qE):Prop:=(∃o,F p=↑(.frz o<|.lst xs))\/∃(o:Obj) (a:Array Value) (n:Nat),K.lookup p=↑o/\o.cls=.type "list"/\o.dict=none/\o.data=.seq a n/\a.size<=sizeLine/\Al xs a.toList
theorem HE.l{K}(h:HE K F p xs):Ai K F p xs:=h.elim (λz=>.inl<|.inr z) .inr
def G7(K:q9)(F:Hp)(k:Kd)(p:Addr)(xs:qE):Prop:=match k with
 |.lst=>F p=↑(.lst xs)|.rl=>HE K F p xs|.tup=>F p=↑(.tup xs)|.rt=>CJ K F p xs|.pin ϊ=>F p=↑(.lst xs)
def HM{K}(s:Ag F F')(h:CJ K F p xs):CJ K F' p xs:=by
 rcases h with (h|⟨o,h⟩)|h;exact .inl<|.inl<|s _ _ h
 exact .inl<|.inr {o,s _ _ h}
 exact .inr h
def G7.same{K}(h:G7 K F k p xs)(s:Ag F F'):G7 K F' k p xs:=by
 cases k with
 |lst=>exact s _ _ h|rl=>exact h.elim (λ⟨o,z⟩=>.inl {o,s _ _ z}) .inr|tup=>exact s _ _ h|rt=>exact HM s h|pin q=>exact s _ _ h
def Kd.isT:Kd->Bool
 |.tup=>true|ϊ=>false
def MQ(k:Kd)(p:Addr):Prop:=match k with
 |.lst=>True|.pin q=>q=p|.tup=>True|ϊ=>False
def Ur:Kd->qE->HO
 |.tup,xs=>.tup xs|ϊ,xs=>.lst xs
def gB(h:k.isT=false):Ur k xs=.lst xs:=by cases k<;>first|rfl|cases h
def MQ.node{K}(hk:MQ k p)(h:F p=↑(Ur k xs)):G7 K F k p xs:=by
 cases k with
 |lst=>exact h|pin q=>exact h|tup=>exact h|_=>exact hk.elim
def Je(a:kz)(xs:qE):List<|Key×V:=List.zipWith (λk x=>(Sum.inl k,x)) a xs
def Cf(a:ky)(xs:qE):List<|Key×V:=List.zipWith (λk x=>(Sum.inr k,x)) a xs
def Lr(F:Hp)(b:Option Addr)(v:V):Prop:=∃d a u,b=↑d/\F d=↑(.frz a<|.own 0)/\Ak v u/\W.lookIn "step" a=↑↑u
theorem Lr.of(h:Lr F dx v)(s:∀a u,F a=↑u->F' a=↑u):Lr F' dx v:=
 let ⟨d,od,u,e,h1,r⟩:=h;{d,od,u,e,s _ _ h1,r}
def KW(F:Hp)(k:Ob)(p:Addr)(xs:qE):Prop:=match k with
 |.ins C fs=>∃a,F p=↑(.ins C a<|fs.zip xs)|.exn C=>∃a,Pp F p C a/\∀v∈xs,Lr F a v|.sdc b=>b.length=xs.length/\F p=↑(.dK<|Cf b xs)|.lab q=>q=p/\xs=[.ref p]
def KW.same(h:KW F k p xs)(s:Ag F F'):KW F' k p xs:=by
 cases k with
 |ins C fs=>exact h.elim λa e=>{a,s _ _ e}|exn C=>exact h.elim λa e=>{a,e.1.of λu=>s p u,λv b=>(e.2 v b).of s}|sdc c=>exact{h.1,s _ _ h.2}|lab q=>exact h
inductive Rp(K:q9)(F H:Hp):T->V->Rg->Prop where
 |non:Rp K F H .non .non R0
 |bl (b:Bool):Rp K F H (.bl b) (.bl b) R0
 |int (i:Int):Rp K F H (.int i) (.int i) R0
 |str (x:Str):Rp K F H (.str x) (.str x) R0
 |shr {k:Kd} {p:Addr} {xs:List V} {l:List T} (h:G7 K F k p xs) (e:l.length=xs.length) (c:∀(i:Nat) (t:T) (x:V),l[i]?=↑t->xs[i]?=↑x->Rp K F H t x R0):Rp K F H (.nd false k l) (.ref p) R0
 |dic {p:Addr} {ob:Obj} {ks:List Int} {xs:List V} {l:List T} (h:F p=↑(.frz ob<|.dK<|Je ks xs)) (e:l.length=xs.length) (ek:ks.length=xs.length) (c:∀(i:Nat) (t:T) (x:V),l[i]?=↑t->xs[i]?=↑x->Rp K F H t x R0):Rp K F H (.dic ks l) (.ref p) R0
 |pdc {p:Addr} {ks:List Int} {xs:List V} {l:List T} (h:F p=↑(.dK<|Je ks xs)) (e:l.length=xs.length) (ek:ks.length=xs.length) (c:∀(i:Nat) (t:T) (x:V),l[i]?=↑t->xs[i]?=↑x->Rp K F H t x R0):Rp K F H (.pdc ks l) (.ref p) R0
 |odc {p:Addr} {ks:List Int} {xs:List V} {l:List T} (f:F p=none) (h:H p=↑(.dK<|Je ks xs)) (e:l.length=xs.length) (ek:ks.length=xs.length) (c:∀(i:Nat) (t:T) (x:V),l[i]?=↑t->xs[i]?=↑x->Rp K F H t x R0):Rp K F H (.odc ks l) (.ref p)<|λa=>a=p
 |obj {k:Ob} {p:Addr} {xs:List V} {l:List T} (h:KW F k p xs) (e:l.length=xs.length) (c:∀(i:Nat) (t:T) (x:V),l[i]?=↑t->xs[i]?=↑x->Rp K F H t x R0):Rp K F H (.obj k l) (.ref p) R0
 |oob {C p dx:Addr} {fs:List Str} {xs:List V} {l:List T} (R:Nat->Rg) (f:F p=none) (h:H p=↑(.ins C dx<|fs.zip xs)) (e:l.length=xs.length) (c:∀(i:Nat) (t:T) (x:V),l[i]?=↑t->xs[i]?=↑x->Rp K F H t x (R i))
   (d:∀i j a,i≠j->R i a->¬ R j a) (dp:∀i,¬ R i p) (o:∀i a,R i a->i<l.length):Rp K F H (.oob p C fs l) (.ref p) (λa=>a=p\/∃i,R i a)
 |osd {p:Addr} {ks:List Str} {xs:List V} {l:List T} (R:Nat->Rg) (f:F p=none) (h:H p=↑(.dK<|Cf ks xs)) (e:l.length=xs.length) (ek:ks.length=xs.length) (c:∀(i:Nat) (t:T) (x:V),l[i]?=↑t->xs[i]?=↑x->Rp K F H t x (R i))
   (d:∀i j a,i≠j->R i a->¬ R j a) (dp:∀i,¬ R i p) (o:∀i a,R i a->i<l.length):Rp K F H (.osd ks l) (.ref p) (λa=>a=p\/∃i,R i a)
 |own {k:Kd} {p:Addr} {xs:List V} {l:List T} (hk:MQ k p) (R:Nat->Rg) (f:F p=none) (h:H p=↑(Ur k xs)) (e:l.length=xs.length) (c:∀(i:Nat) (t:T) (x:V),l[i]?=↑t->xs[i]?=↑x->Rp K F H t x (R i))
   (d:∀i j a,i≠j->R i a->¬ R j a) (dp:∀i,¬ R i p) (o:∀i a,R i a->i<l.length):Rp K F H (.nd true k l) (.ref p) (λa=>a=p\/∃i,R i a)
theorem reg0{p:Addr}:(λa=>a=p\/∃_:Nat,R0 a)=λa=>a=p:=funext λϊ=>propext {λz=>z.elim id λ⟨_,w⟩=>w.elim,.inl}
def Rp.osd0{K}{F H:Hp}{p:Addr}{b:ky}{xs:qE}{l:qF}(f:F p=none)(h:H p=↑(.dK<|Cf b xs))(e:l.length=xs.length)(d:b.length=xs.length)(c:∀(i:Nat) (t:T) (x:V),l[i]?=↑t->xs[i]?=↑x->Rp K F H t x R0):Rp K F H (.osd b l) (.ref p)<|λa=>a=p:=by
 have r:Rp K F H (.osd b l) (.ref p) (λa=>a=p\/∃_:Nat,R0 a):=.osd (λϊ=>R0) f h e d c (λϊ ϊ ϊ ϊ z=>z.elim) (λϊ z=>z)<|λϊ ϊ z=>z.elim
 rwa[reg0]at r
section
variable {K:q9}{F F' H H':Hp}{t:T}{x:V}{A:Rg}
def Rp.frame(h:Rp K F H t x A)(s:Ag F F')(k:∀a,A a->H' a=H a/\F' a=none):Rp K F' H' t x A:=by
 induction h with
 |non=>exact .non|bl b=>exact .bl b|int i=>exact .int i|str y=>exact .str y|shr h e c l=>exact .shr (h.same s) e λi t x g j=>l i t x g j λa z=>z.elim|dic h e m c l=>exact .dic (s _ _ h) e m λi t x g j=>l i t x g j λa z=>z.elim|pdc h e m c l=>exact .pdc (s _ _ h) e m λi t x g j=>l i t x g j λa z=>z.elim|odc f h e m c l=>have q:=k _ rfl;exact .odc q.2 (q.1.trans h) e m λi t x g j=>l i t x g j λa z=>z.elim|obj h e c l=>exact .obj (h.same s) e λi t x g j=>l i t x g j λa z=>z.elim|oob R f h e c d dp o l=>have q:=k _<|.inl rfl;exact .oob R q.2 (q.1.trans h) e (λi t x g j=>l i t x g j λa z=>k a<|.inr {(i),z}) d dp o|osd R f h e m c d dp o l=>have q:=k _<|.inl rfl;exact .osd R q.2 (q.1.trans h) e m (λi t x g j=>l i t x g j λa z=>k a<|.inr {(i),z}) d dp o|own hk R f h e c d dp o l=>have q:=k _<|.inl rfl;exact .own hk R q.2 (q.1.trans h) e (λi t x g j=>l i t x g j λa z=>k a<|.inr {(i),z}) d dp o
def Rp.dom(h:Rp K F H t x A)(g:A a):F a=none/\∃u,H a=↑u:=by
 induction h with
 |non=>exact g.elim|bl b=>exact g.elim|int i=>exact g.elim|str y=>exact g.elim|shr h e c j=>exact g.elim|dic h e n c j=>exact g.elim|pdc h e n c j=>exact g.elim|odc f h e n c j=>grind|obj h e c j=>exact g.elim|@osd p s xs l R f h e n c d dp o j=>
  rcases g with rfl|⟨i,z⟩;grind;have k:=o i a z;have m:i<xs.length:=by lia
  exact j i _ _ (Á k) (Á m) z
 |@oob C p q fs xs l R f h e c d dp o j=>
  rcases g with rfl|⟨i,z⟩;grind;have k:=o i a z;have m:i<xs.length:=by lia
  exact j i _ _ (Á k) (Á m) z
 |@own r p xs l hk R f h e c d dp o j=>
  rcases g with rfl|⟨i,z⟩;grind;have k:=o i a z;have m:i<xs.length:=by lia
  exact j i _ _ (Á k) (Á m) z
def Rp.share(h:Rp K F H t x A)(s:Ag F F')(k:∀a u,A a->H a=↑u->F' a=↑u):Rp K F' H' t.share x R0:=by
 induction h with
 |non=>exact .non|bl b=>exact .bl b|int i=>exact .int i|str y=>exact .str y|@shr w p xs l h e c m=>
  rw[T.share,EA];refine .shr (h.same s) (by rw[À];exact e) λi t x g j=>?_;rw[Î]at g;let(q,n,rfl):=Ú.mp g;exact m i q x n j λa u z=>z.elim
 |@dic p ob v xs l h e r c m=>
  rw[T.share,EA];refine .dic (s _ _ h) (by rw[À];exact e) r λi t x g j=>?_;rw[Î]at g;let(q,n,rfl):=Ú.mp g;exact m i q x n j λa u z=>z.elim
 |@pdc p v xs l h e r c m=>
  rw[T.share,EA];refine .pdc (s _ _ h) (by rw[À];exact e) r λi t x g j=>?_;rw[Î]at g;let(q,n,rfl):=Ú.mp g;exact m i q x n j λa u z=>z.elim
 |@odc p v xs l f h e r c m=>
  rw[T.share,EA];refine .pdc (k _ _ rfl h) (by rw[À];exact e) r λi t x g j=>?_;rw[Î]at g;let(q,n,rfl):=Ú.mp g;exact m i q x n j λa u z=>z.elim
 |@obj w p xs l h e c m=>
  rw[T.share,EA];refine .obj (h.same s) (by rw[À];exact e) λi t x g j=>?_;rw[Î]at g;let(q,n,rfl):=Ú.mp g;exact m i q x n j λa u z=>z.elim
 |@oob C p B fs xs l R f h e c d dp o m=>
  rw[T.share,EA];refine .obj {B,k _ _ (.inl rfl) h} (by rw[À];exact e) λi t x g j=>?_;grind
 |@osd p v xs l R f h e r c d dp o m=>
  rw[T.share,EA];refine .obj {r,k _ _ (.inl rfl) h} (by rw[À];exact e) λi t x g j=>?_;grind
 |@own w p xs l hk R f h e c d dp o m=>
  rw[T.share,EA];refine .shr (hk.node<|k _ _ (.inl rfl) h) (by rw[À];exact e) λi t x g j=>?_;grind
def Rp.r0(h:Rp K F H t x A)(s:t.sh=true):A=R0:=by
 cases h with
 |own hk R f h e c d dp o=>cases s|odc f h e a c=>cases s|oob R f h e c d dp o=>cases s|osd R f h e a c d dp o=>cases s|_=>rfl
def Rp.move(h:Rp K F H t x A)(s:t.sh=true)(q:Ag F F'):Rp K F' H' t x R0:=by
 have e:=h.r0 s;subst e;exact h.frame q λa z=>z.elim
def Rp.flat_any(h:Rp K F H t x A)(s:t.flat=true):Rp K F' H' t x R0:=by
 cases h with
 |non=>exact .non|bl b=>exact .bl b|int i=>exact .int i|str y=>exact .str y|shr h e c=>cases s|dic h e a c=>cases s|pdc h e a c=>cases s|odc f h e a c=>cases s|obj h e c=>cases s|oob R f h e c d dp o=>cases s|osd R f h e a c d dp o=>cases s|own hk R f h e c d dp o=>cases s
def Rp.int_inv{i:Int}(h:Rp K F H (.int i) x A):x=.int i:=by cases h;rfl
def Rp.bl_inv{b:Bool}(h:Rp K F H (.bl b) x A):x=.bl b:=by cases h;rfl
def Rp.non_inv(h:Rp K F H .non x A):x=.non:=by cases h;rfl
def Rp.str_inv{y:Str}(h:Rp K F H (.str y) x A):x=.str y:=by cases h;rfl
end
def Am(K:q9)(F:Hp)(ts:qF)(xs:qE):Prop:=ts.length=xs.length/\∀(i:Nat) (t:T) (x:V),ts[i]?=↑t->xs[i]?=↑x->Rp K F F t x R0
theorem Am.nil{K}:Am K F [] []:={rfl,λi t x h=>by simp at h}
theorem Rp.any{K}(h:Rp K F H t x R0):Rp K F H' t x R0:=h.frame (Ag.refl F) λa z=>z.elim
def Am.cons{K:q9}{F H:Hp}{t:T}{x:V}{ts:qF}{xs:qE}(h:Rp K F H t x R0)(r:Am K F ts xs):Am K F (t::ts)<|x::xs:=by
 refine{by simp[r.1],λi c d a b=>?_};cases i with
 |zero=>simp at a b;subst a;subst b;exact h.any|succ j=>exact r.2 j c d (by simpa using a)<|by simpa using b
def Am.inv{K}(r:Am K F (t::ts) xs):∃x xs',xs=x::xs'/\Rp K F F t x R0/\Am K F ts xs':=by
 let(e,h):=r;cases xs with
 |nil=>simp at e|cons x xs'=>exact{x,xs',rfl,h 0 t x rfl rfl,by simpa using e,λi c d a b=>h (i+1) c d (by simpa using a)<|by simpa using b}
def Am.inv0{K}(r:Am K F [] xs):xs=[]:=by
 let(e,h):=r;grind
theorem Am.same{K}(r:Am K F ts xs)(s:Ag F F'):Am K F' ts xs:={r.1,λi t x b c=>((r.2 i t x b c).frame s λa z=>z.elim)}
def Am.node{K}(h:Rp K F H (.nd false k l) (.ref p) A):∃xs,G7 K F k p xs/\Am K F l xs:=by
 cases h with
 |shr h e c=>exact{_,h,e,λi t x a b=>(c i t x a b).any}
def Rp.ref_inv{K}(h:Rp K F H (.nd o k l) x A):∃p,x=.ref p:=by
 cases h with
 |shr h e c=>exact{_,rfl}|own hk R f h e c d dp o=>exact{_,rfl}
theorem Am.of_node{K}(h:G7 K F k p xs)(r:Am K F l xs):Rp K F H (.nd false k l) (.ref p) R0:=.shr h r.1 λi t x a b=>(r.2 i t x a b).any
structure Ext(F H F' H':Hp)(B:Rg):Prop where
 hh:Ag H H'
 ff:Ag F F'
 fh:Ag F' H'
 nb:∀b,B b->H b=none
 nf:∀b u,F' b=↑u->F b=↑u\/H b=none
def IY(s:Ag H H')(h:H' b=none):H b=none:=by
 cases e:H b with
 |none=>rfl|some u=>rw[s b u e]at h;cases h
section
variable {F H F1 H1 F2 H2:Hp}{B C:Rg}
theorem Ext.refl(s:Ag F H):Ext F H F H R0:={.refl _,.refl _,s,λϊ z=>z.elim,λϊ ϊ e=>.inl e}
theorem Ext.trans(a:Ext F H F1 H1 B)(b:Ext F1 H1 F2 H2 C):Ext F H F2 H2 (λx=>B x\/C x) where
 hh:=a.hh.trans b.hh
 ff:=a.ff.trans b.ff
 fh:=b.fh
 nb:=λx z=>z.elim (a.nb x) λz=>IY a.hh (b.nb x z)
 nf:=λx u e=>(b.nf x u e).elim (a.nf x u) λz=>.inr<|IY a.hh z
theorem Ext.mono(a:Ext F H F1 H1 B)(h:∀x,C x->B x):Ext F H F1 H1 C:={a.hh,a.ff,a.fh,λx z=>a.nb x<|h x z,a.nf}
theorem Ext.trans0(a:Ext F H F1 H1 R0)(b:Ext F1 H1 F2 H2 C):Ext F H F2 H2 C:=(a.trans b).mono λx z=>.inr z
open Classical in
def frz(F H:Hp)(A:Rg):Hp:=λb=>if A b then H b else F b
def Ee{A:Rg}{b:Addr}(h:A b):frz F H A b=H b:=by unfold frz;rw[if_pos h]
def F6{A:Rg}{b:Addr}(h:¬ A b):frz F H A b=F b:=by unfold frz;rw[if_neg h]
theorem F7(n:∀a,A a->F a=none):Ag F<|frz F H A:=λb u e=>by
 by_cases h:A b;grind;rw[F6 h];exact e
theorem Jp(s:Ag F H):Ag (frz F H A) H:=λb u e=>by
 by_cases h:A b;rw[Ee h]at e;exact e;rw[F6 h]at e;exact s b u e
theorem Ext.frz(a:Ext F H F1 H1 B)(n:∀b,B b->F1 b=none):Ext F H (frz F1 H1 B) H1 R0 where
 hh:=a.hh
 ff:=a.ff.trans (F7 n)
 fh:=Jp a.fh
 nb:=λϊ z=>z.elim
 nf:=λb u e=>by
  by_cases h:B b;exact .inr<|a.nb b h
  rw[F6 h]at e;exact a.nf b u e
theorem Rp.ext{K }    (h:Rp K F H t x A)(a:Ext F H F1 H1 B):Rp K F1 H1 t x A:=h.frame a.ff λb z=>by
 let(f,u,e):=h.dom z;refine{(a.hh b u e).trans e.symm,?_};cases q:F1 b with
 |none=>rfl|some c=>
  rcases a.nf b c q with z|z;grind;grind
theorem Rp.apart{K}(h:Rp K F H t x A)(a:Ext F H F1 H1 B)(c:B b):¬ A b:=λz=>by
 let(f,u,e):=h.dom z;rw[a.nb b c]at e;cases e
theorem Ext.new(s:Ag F H)(h:H p=none):Ext F H (upd F p o) (upd H p o) R0 where
 hh:=Ms h o
 ff:=Ms (IY s h) o
 fh:=λb u e=>by
  by_cases a:b=p;subst a;rw[C2]at e ⊢;exact e;rw[BF a]at e ⊢;exact s b u e
 nb:=λϊ z=>z.elim
 nf:=λb u e=>by
  by_cases a:b=p;grind;rw[BF a]at e;exact .inl e
theorem Ext.newO(s:Ag F H)(h:H p=none):Ext F H F (upd H p o) (λa=>a=p) where
 hh:=Ms h o
 ff:=.refl _
 fh:=λb u e=>Ms h o b u (s b u e)
 nb:=λb z=>by grind
 nf:=λb u e=>.inl e
end
abbrev AM:=List<|qB
structure StR(K:q9)(F H:Hp)(O:L2.St)(Y:AM)(R:Nat->Rg):Prop where
 fh:Ag F H
 len:O.length=Y.length
 rep:∀i t,Y[i]?=↑↑t->∃x,O[i]?=↑↑x/\Rp K F H t x (R i)
 out:∀i a,R i a->∃t,Y[i]?=↑↑t
 dis:∀i j a,i≠j->R i a->¬ R j a
section
variable {K:q9}{F H F1 H1:Hp}{O:L2.St}{Y:AM}{R:Nat->Rg}{B:Rg}
def StR.dom(h:StR K F H O Y R)(b:R i a):F a=none/\∃u,H a=↑u:=by
 let(t,e):=h.out i a b;let(x,_,r):=h.rep i t e;exact r.dom b
theorem StR.ext(h:StR K F H O Y R)(a:Ext F H F1 H1 B):StR K F1 H1 O Y R where
 fh:=a.fh
 len:=h.len
 rep:=λi t e=>by
  let(x,b,r):=h.rep i t e;exact{x,b,r.ext a}
 out:=h.out
 dis:=h.dis
theorem StR.apart(h:StR K F H O Y R)(a:Ext F H F1 H1 B)(c:B b)(i):¬ R i b:=λz=>by
 let(f,u,e):=h.dom z;rw[a.nb b c]at e;cases e
end
def fI:Key->PyData
 |.inl i=>.int i|.inr x=>.str x
mutual
noncomputable def T.data:T->PyData
 |.non=>.none|.bl b=>.bool b|.int i=>.int i|.str x=>.str x|.nd ϊ .lst l=>.list (Bi l)|.nd ϊ .rl l=>.list (Bi l)|.nd ϊ .tup l=>.tuple (Bi l)|.nd ϊ .rt l=>.tuple (Bi l)|.nd ϊ (.pin ϋ) l=>.list (Bi l)|.dic a l=>.dict ((a.map PyData.int).zip (Bi l))|.pdc a l=>.dict ((a.map PyData.int).zip (Bi l))|.odc a l=>.dict ((a.map PyData.int).zip (Bi l))|.obj ϊ ϋ=>.none|.oob ϊ ϋ ό ύ=>.none|.osd ϊ ϋ=>.none
noncomputable def Bi:List T->List PyData
 |[]=>[]|t::r=>t.data::Bi r
end
mutual
noncomputable def T.pln:T->Bool
 |.nd ϊ ϋ l=>En l|.dic ϊ l=>En l|.pdc ϊ l=>En l|.odc ϊ l=>En l|.obj ϊ ϋ=>false|.oob ϊ ϋ ό ύ=>false|.osd ϊ ϋ=>false|.non=>true|.bl ϊ=>true|.int ϊ=>true|.str ϊ=>true
noncomputable def En:List T->Bool
 |[]=>true|t::r=>t.pln && En r
end
def FI:∀{l},En l=true->∀{i:Nat} {t},l[i]?=↑t->t.pln=true
 |[],ϊ,i,t,e=>by simp at e|a::r,h,i,t,e=>by
  rw[En,Æ]at h;cases i with
  |zero=>simp at e;subst e;exact h.1|succ i=>exact FI h.2<|by simpa using e
def Yc:∀{l} {us},l.length=us.length->(∀(i:Nat) (t) (u),l[i]?=↑t->us[i]?=↑u->∃as,Reads h u t.data as)->∃as,ReadsAll h us (Bi l) as
 |[],[],ϊ,ϋ=>{_,.nil}|[],ϊ::ϋ,e,ό=>by simp at e|ϊ::ϋ,[],e,ό=>by simp at e|t::l,u::us,e,f=>by
  let(k,c):=f 0 t u rfl rfl;let(m,d):=Yc (l:=l) (us:=us) (by simpa using e) λi g j a b=>f (i+1) g j (by simpa using a)<|by simpa using b
  exact{_,.cons c d}
def Ud(e:(Dl P w).is k v=true):Reads h v (fI k) []:=by
 rcases Fj (e) with ⟨i,t,rfl,rfl⟩|⟨x,t,rfl,rfl⟩;exact .int i t;exact .str x t
def NL:∀(ks) (xs) (l) (vs),KV (Je ks xs) vs->l.length=xs.length->ks.length=xs.length->(∀(i:Nat) (t) (x),l[i]?=↑t->xs[i]?=↑x->∀{u},Ak x u->∃as,Reads h u t.data as) ->
  ∃bs,PyProof.V.PairsRead h fI vs ((ks.map PyData.int).zip (Bi l)) bs
 |[],xs,l,vs,r,ϊ,ϋ,ό=>by
  have b:Paired _ [] vs:=(show Paired _ (Je [] xs) vs from r);cases b;exact{_,.nil}
 |k::ks,[],l,vs,r,ϊ,a,ϋ=>by simp at a|k::ks,x::xs,[],vs,r,e,ϊ,ϋ=>by simp at e|k::ks,x::xs,t::l,vs,r,e,a,f=>by
  have b:Paired (λ(p:Key×V) (q:Key×Value)=>p.1=q.1/\Ak p.2 q.2) ((Sum.inl k,x)::Je ks xs) vs:=r;cases b with
  |@cons ϊ q ϋ j hd s=>
   let(w,m):=f 0 t x rfl rfl hd.2;let(y,n):=NL ks xs l j s (by simpa using e) (by simpa using a) λi o v c d=>f (i+1) o v (by simpa using c)<|by simpa using d
   let(g,z):=q;cases (show Sum.inl k=g from hd.1);exact{_,.cons m n}
section
variable {X:Cx}{pz:List<|Addr×Obj}{O:L2.St}{F H:Hp}{s:Shared}
def HQ(I:Inv X pz O H s)(fh:Ag F H)(h:Rp X.K F H t x A)(g:t.pln=true):∀{u},Ak x u->∃as,Reads s.heap u t.data as:=by
 have D:∀{l } {xs } {B },Al xs B->l.length=xs.length->(∀(i:Nat) (t ) (x ),l[i]?=↑t->xs[i]?=↑x->∀{u },Ak x u->∃as,Reads s.heap u t.data as)->∃as,ReadsAll s.heap B (Bi l) as:=by
  intro l xs B r e j;refine Yc (e.trans r.length) λi t u a m=>?_
  have T:i<xs.length:=by
   have:=(É.mp a).1;lia
  let(Z,E,V):=r.get<|Á T;rw[m]at E;cases E;exact j i t _ a (Á T) V
 have w:∀{p } {l } {xs },Ai X.K H p xs->l.length=xs.length->(∀(i:Nat) (t ) (x ),l[i]?=↑t->xs[i]?=↑x->∀{u },Ak x u->∃as,Reads s.heap u t.data as)->∃as,Reads s.heap (.ref p) (.list<|Bi l) as:=by
  intro p l xs Q e j;let(B,r,(o,n,E,N,W,P),_):=I.list Q;let(as,S):=D r e j;exact{_,.list E N P<|by simpa using S}
 have tups:∀{p } {l } {xs },CJ X.K H p xs->l.length=xs.length->(∀(i:Nat) (t ) (x ),l[i]?=↑t->xs[i]?=↑x->∀{u },Ak x u->∃as,Reads s.heap u t.data as)->∃as,Reads s.heap (.ref p) (.tuple<|Bi l) as:=by
  intro p l xs Q e j;let(B,r,(o,E,N,n,P),_):=I.tuple Q;let(as,S):=D r e j;exact{_,.tuple E N P<|by simpa using S}
 induction h with
 |non=>intro u r;cases r;exact{_,.none}|bl b=>intro u r;cases r;exact{_,.bool b}|int i=>intro u r;let(t,rfl):=r;exact{_,.int i t}
 |str y=>intro u r;let(t,rfl):=r;exact{_,.str y t}
 |@shr k p xs l h e c j=>
  intro u r;cases r;cases k with
  |lst=>exact w (Ai.of<|fh _ _ h) e λi t x a m=>j i t x a m (FI g a)|rl=>exact w (fh.seq h.l) e λi t x a m=>j i t x a m (FI g a)|tup=>exact tups (CJ.of<|fh _ _ h) e λi t x a m=>j i t x a m (FI g a)|rt=>exact tups (HM fh h) e λi t x a m=>j i t x a m (FI g a)|pin q=>exact w (Ai.of<|fh _ _ h) e λi t x a m=>j i t x a m<|FI g a
 |@dic p ob K xs l h e G c j=>
  intro u r;cases r;let(Y,z,hd,M,C,J):=(I.hok p _<|fh _ _ h);let(bs,L):=NL K xs l M C e G λi t x a m=>j i t x a m<|FI g a
  exact{_,ŧ (λk v q=>Ud q) J L}
 |@pdc p K xs l h e G c j=>
  intro u r;cases r;let(z,hd,M,C,J):=(I.hok p _<|fh _ _ h);let(bs,L):=NL K xs l M C e G λi t x a m=>j i t x a m<|FI g a
  exact{_,ŧ (λk v q=>Ud q) J L}
 |@odc p K xs l f h e G c j=>
  intro u r;cases r;let(z,hd,M,C,J):=(I.hok p _ h);let(bs,L):=NL K xs l M C e G λi t x a m=>j i t x a m<|FI g a
  exact{_,ŧ (λk v q=>Ud q) J L}
 |obj h e c j=>cases g|oob R f h e c d dp o j=>cases g|osd R f h e G c d dp o j=>cases g|@own U p xs l hk R f h e c d dp o j=>
  intro u r;cases r;cases U with
  |lst=>exact w (Ai.of h) e λi t x a m=>j i t x a m (FI g a)|pin q=>exact w (Ai.of h) e λi t x a m=>j i t x a m (FI g a)|tup=>exact tups (CJ.of h) e λi t x a m=>j i t x a m (FI g a)|_=>exact hk.elim
end
def Ef(t:T):Bool:=t.pln && t.data.canLay0
def Le(t u:T):Bool:=PyData.eqv t.data u.data
def Im(t u:T):Bool:=Ef t && Ef u && decide (min t.data.depth u.data.depth<=60)
def BM(t u:T):qB:=if Im t u then ↑(.bl<|Le t u) else none
def DV(t u:T):qB:=if Im t u then ↑(.bl<|!Le t u) else none
def Hl(t:T)(l:qF):Bool:=Ef t && (En l && PyData.canLayAll0 (Bi l)) && decide (min (PyData.depthAll<|Bi l) t.data.depth<=60)
def Jn(t:T)(l:qF):Bool:=(Bi l).any λy=>PyData.eqv y t.data
def fZ(t:T)(y:Str):qB:=match t with
 |.str x=>↑(.bl<|!(Builtin.Str.occurrences y x 0 y.length 1).isEmpty)|ϊ=>none
def EJ(t c:T):qB:=match c with
 |.nd ϊ ϋ l=>if Hl t l then ↑(.bl<|Jn t l) else none
 |.str y=>fZ t y|ϊ=>none
def GD(t c:T):qB:=match c with
 |.nd ϊ ϋ l=>if Hl t l then ↑(.bl<|!Jn t l) else none
 |ϊ=>none
def Dd(K:q9)(F H:Hp)(v:T)(Q:VK):Prop:=∀b a z C,Ext F H b a C->Rp K b a v z C->Q z a
def Bt(K:q9)(g:T->T->qB):R2:=λx y H Q=>∃F t u v,Ag F H/\Rp K F F t x R0/\Rp K F F u y R0/\g t u=↑v/\Dd K F H v Q
def NC(K:q9)(g:T->qB):V->Hp->VK->Prop:=λx H Q=>∃F t v,Ag F H/\Rp K F F t x R0/\g t=↑v/\Dd K F H v Q
def Dh(K:q9)(g:qF->qB):qE->Hp->VK->Prop:=λxs H Q=>∃F a v,Ag F H/\Am K F a xs/\g a=↑v/\Dd K F H v Q
section
variable {K:q9}{F H:Hp}{Q:VK}
theorem Dd.int(q:Dd K F H (.int i) Q)(s:Ag F H):Q (.int i) H:=q F H _ _ (Ext.refl s)<|.int i
theorem Dd.bl(q:Dd K F H (.bl b) Q)(s:Ag F H):Q (.bl b) H:=q F H _ _ (Ext.refl s)<|.bl b
theorem Dd.str(q:Dd K F H (.str x) Q)(s:Ag F H):Q (.str x) H:=q F H _ _ (Ext.refl s)<|.str x
def Dd.list(q:Dd K F H (.own l) Q)(s:Ag F H)(r:Am K F l xs)  (b:H p=none):Q (.ref p)<|upd H p<|.lst xs:=by
 refine q F (upd H p<|.lst xs) (.ref p) _ ((Ext.newO s b).mono ?_)<|.own (k:=.lst) trivial (λϊ=>R0) (IY s b) C2 r.1 (λi t x c d=>?_) (λϊ ϊ ϊ ϊ z=>z.elim) (λϊ z=>z) (λϊ ϊ z=>z.elim)
 rintro a (z|⟨i,z⟩);exact z;exact z.elim;exact(r.2 i t x c d).any
def Dd.tuple(q:Dd K F H (.tup l) Q)(s:Ag F H)(r:Am K F l xs)(a:H p=none):Q (.ref p)<|upd H p<|.tup xs:=by
 have e:=Ext.new (o:=.tup xs) s a;exact q _ _ _ _ e<|Am.of_node C2<|r.same e.ff
end
def Fe(i:Int):Bool:=@decide (-(2 ^ 64)<i/\i<2 ^ 64) (Classical.propDecidable _)
def DK(i:Int):Bool:=@decide (-(10 ^ 70)<i/\i<10 ^ 70) (Classical.propDecidable _)
def OA(k:Int):Bool:=@decide (k<2 ^ 63/\-(2 ^ 63)<=k) (Classical.propDecidable _)
def Bq(i j:Int):Bool:=Fe i || Fe j || (DK i && DK j)
def BI:Nat:=16777216
def B5:T->T->qB
 |.int i,.int j=>↑(.int<|i+j)|.str x,.str y=>if x.length+y.length<=BI then ↑(.str<|x++y) else none
 |.nd ϊ .lst l,.nd ϋ .lst m=>if l.length+m.length<=BI then ↑(.own<|l++m) else none
 |ϊ,ϋ=>none
def Fc:T->T->qB
 |.int i,.int j=>↑(.int<|i - j)|ϊ,ϋ=>none
def CF:T->T->qB
 |.int i,.int j=>if Bq i j then ↑(.int<|i * j) else none
 |.nd ϊ .lst l,.int k=>if OA k=true/\l.length * k.toNat<=BI then ↑(.own (List.replicate k.toNat l).flatten) else none
 |.str x,.int k=>if 0<=k/\k<=1000000/\x.length<=16 then ↑(.str<|Txt.mul x k) else none
 |ϊ,ϋ=>none
def BO:T->T->qB
 |.int i,.int j=>if j≠0 then ↑(.int<|i.fmod j) else none
 |ϊ,ϋ=>none
def CY:T->T->qB
 |.int i,.int j=>if j≠0/\DK j then ↑(.int<|i.fdiv j) else none
 |ϊ,ϋ=>none
def Ff:T->T->qB
 |.int i,.int j=>if 0<=j/\j<=1000000/\Fe i then ↑(.int<|i ^ j.toNat) else none
 |ϊ,ϋ=>none
def Lk:T->T->qB
 |.int i,.int j=>↑(.int<|Builtin.bitOr i j)|ϊ,ϋ=>none
def Lm:T->T->qB
 |.int i,.int j=>↑(.int<|Builtin.bitAnd i j)|ϊ,ϋ=>none
def C0(f:Int->Int->Bool):T->T->qB
 |.int i,.int j=>↑(.bl<|f i j)|ϊ,ϋ=>none
def EV:T->qB
 |.int i=>↑(.int<|-i)|ϊ=>none
def S9(h:Fe i=true):-(2 ^ 64)<i/\i<2 ^ 64:=@of_decide_eq_true _ (Classical.propDecidable _) h
theorem S8(h:DK i=true):Sm i:=@of_decide_eq_true _ (Classical.propDecidable _) h
def fL(h:OA k=true):k<2 ^ 63/\-(2 ^ 63)<=k:=@of_decide_eq_true _ (Classical.propDecidable _) h
def GP:BI=sizeLine:=by rw[č];rfl
def My{K}{F}:∀{l m} {xs ys},Am K F l xs->Am K F m ys->Am K F (l++m) (xs++ys)
 |[],m,xs,ys,r,q=>by rw[r.inv0];exact q|t::l,m,xs,ys,r,q=>by
  let(x,c,rfl,a,b):=r.inv;exact .cons a<|My b q
def Y5{K}(r:Am K F l xs):∀n ,Am K F (List.replicate n l).flatten (List.replicate n xs).flatten
 |0=>.nil|n+1=>by
  exact My r<|Y5 r n
section
variable {X:Cx}
def EU{K}(h:Rp K F H (.nd o k l) x R0):∃p xs,x=.ref p/\o=false/\G7 K F k p xs/\Am K F l xs:=by
 generalize a:R0=A at h;cases h with
 |shr h e c=>exact{_,_,rfl,rfl,h,e,λi t x b g=>(a▸c i t x b g).any}|@own j p xs l hk R f h e c d dp o=>
  exfalso;have z:=congrFun a p;have:R0 p:=by rw[z];exact .inl rfl
  exact this
set_option tactic.hygienic true in
def zlf:As X (binaryOp .Add)<|Bt X.K B5:=by
 intro f s O H x y v u Q I b c h;let(F,t,w,r,fh,g,i,e,q):=h;unfold B5 at e;split at e
 cases e;rw[g.int_inv]at b;rw[i.int_inv]at c;exact zp0 f s O H _ _ v u Q I b c {_,_,rfl,rfl,q.int fh};split at e;cases e;rename_i d;rw[g.str_inv]at b;rw[i.str_inv]at c;exact zf7 f s O H _ _ v u Q I b c {_,_,rfl,rfl,by rw[<- GP];exact d,q.str fh};cases e;split at e;cases e;rename_i d;let(p,xs,rfl,rfl,m,j):=EU g;let(n,o,rfl,rfl,n2,k):=EU i;refine zoy f s O H _ _ v u Q I b c {p,n,xs,o,rfl,rfl,fh _ _ m,fh _ _ n2,?_,λa l=>q.list fh (My j k) l}
 rw[<- j.1,<- k.1,<- GP];exact d;cases e;cases e
def IV(m:As X f<|rI C g)(l:∀t u v,gT t u=↑v->∃i j,t=.int i/\u=.int j/\C i j/\((∃k,v=.int k/\g i j=.int k)\/∃k,v=.bl k/\g i j=.bl k)):As X f<|Bt X.K gT:=by
 intro o s O H x y v u Q I b c h;let(F,z,A,r,fh,p,w,e,q):=h;let(i,j,rfl,rfl,d,n):=l _ _ _ e;rw[p.int_inv]at b;rw[w.int_inv]at c;refine m o s O H _ _ v u Q I b c {i,j,rfl,rfl,d,?_}
 rcases n with ⟨k,rfl,a⟩|⟨k,rfl,a⟩;rw[a];exact q.int fh;rw[a];exact q.bl fh
theorem As.weak(h:As X f r)(w:∀x y H Q,r' x y H Q->r x y H Q):As X f r':=λa s O H x y v u Q I b c q=>h a s O H x y v u Q I b c<|w x y H Q q
theorem Mz(h:As X f<|FH g):As X f<|rI (λϊ ϊ=>True) g:=As.weak h λx y H Q ⟨i,j,a,b,_,q⟩=>{(i),j,a,b,q}
theorem zl9:As X (binaryOp .Sub)<|Bt X.K Fc:=IV (Mz zot) λt u v h=>by
 unfold Fc at h;split at h;cases h;exact{_,_,rfl,rfl,trivial,.inl {_,rfl,rfl}};cases h
theorem zle:As X (binaryOp .BitOr)<|Bt X.K Lk:=IV (Mz op_or) λt u v h=>by
 unfold Lk at h;split at h;cases h;exact{_,_,rfl,rfl,trivial,.inl {_,rfl,rfl}};cases h
theorem zii:As X (binaryOp .BitAnd)<|Bt X.K Lm:=IV (Mz zoz) λt u v h=>by
 unfold Lm at h;grind
theorem zlc:As X (binaryOp .Mod)<|Bt X.K BO:=IV zl8 λt u v h=>by
 unfold BO at h;split at h;split at h;cases h;exact{_,_,rfl,rfl,by assumption,.inl {_,rfl,rfl}};cases h;cases h
set_option tactic.hygienic true in
theorem zih:As X (binaryOp .FloorDiv)<|Bt X.K CY:=IV zig λt u v h=>by
 unfold CY at h;split at h;split at h;cases h;rename_i a;exact{_,_,rfl,rfl,{a.1,S8 a.2},.inl {_,rfl,rfl}};cases h;cases h
set_option tactic.hygienic true in
theorem zla:As X (binaryOp .Pow)<|Bt X.K Ff:=IV zov λt u v h=>by
 unfold Ff at h;split at h;split at h;cases h;rename_i a;have q:=S9 a.2.2;exact{_,_,rfl,rfl,{a.1,a.2.1,by lia},.inl {_,rfl,rfl}}
 cases h;cases h
theorem NN(a:As X (compareOp op)<|FH λi j=>.bl<|g i j):As X (compareOp op)<|Bt X.K<|C0 g:=IV (Mz a) λt u v h=>by
 unfold C0 at h;grind
set_option tactic.hygienic true in
def zlb:As X (binaryOp .Mult)<|Bt X.K CF:=by
 intro f s O H x y v u Q I d c h;let(F,t,w,r,fh,g,l,e,q):=h;unfold CF at e;split at e
 rename_i i j;split at e;cases e;rename_i b;rw[g.int_inv]at d;rw[l.int_inv]at c;unfold Bq at b;rw[ĕ,ĕ,Æ]at b;rcases b with (b|b)|b;exact ZY f s O H _ _ v u Q I d c {i,j,rfl,rfl,.inl<|S9 b,q.int fh};exact ZY f s O H _ _ v u Q I d c {i,j,rfl,rfl,.inr<|S9 b,q.int fh};exact zl7 f s O H _ _ v u Q I d c {i,j,rfl,rfl,{S8 b.1,S8 b.2},q.int fh};cases e;split at e;cases e;rename_i b;let(p,xs,rfl,rfl,o,m):=EU g;rw[l.int_inv]at c;refine zou f s O H _ _ v u Q I d c {p,_,xs,rfl,rfl,fh _ _ o,(fL b.1).2,(fL b.1).1,?_,λa n=>q.list fh (Y5 m _) n}
 rw[<- m.1,<- GP];exact b.2;cases e;split at e;cases e;rename_i b;rw[g.str_inv]at d;rw[l.int_inv]at c;let(t,rfl):=d;let(w,rfl):=c;exact SB.mul (mulOk_of 16 1048576 b.2.2 (by lia) (by lia) (by decide)<|by decide) λz k=>{.str _,H,I.tok _,{_,rfl},q.str fh}
 cases e;cases e
def zju:Lq X (unaryOp .USub)<|NC X.K EV:=by
 intro b s O H x v Q I a h;let(F,t,r,fh,c,e,q):=h;unfold EV at e;split at e
 cases e;rw[c.int_inv]at a;exact zmo b s O H _ v Q I a {_,rfl,q.int fh};cases e
def j1{A:Around}(a:A.units+64<cLine)(h:n<=60):A.units+n<cLine:=by lia
set_option tactic.hygienic true in
def zp4(b:X.A.units+64<cLine):As X (compareOp .Eq)<|Bt X.K BM:=by
 intro m s O H x y v u Q I i j h;let(F,n,o,r,fh,f,g,e,q):=h;unfold BM at e;split at e
 cases e;rename_i a;unfold Im Ef at a;rw[Æ,Æ,Æ,Æ,ó]at a;let(k,c):=HQ I fh (f.any) a.1.1.1 i;let(l,d):=HQ I fh (g.any) a.1.2.1 j;exact SeqAt.compareEq_reads c d a.1.1.2 a.1.2.2 (j1 b a.2) {.bl _,H,I,rfl,q.bl fh}
 cases e
set_option tactic.hygienic true in
def zp3(t:X.A.units+64<cLine):As X (compareOp .In)<|Bt X.K EJ:=by
 intro j s O H x y v u Q I d f h;let(F,m,w,r,fh,g,i,e,q):=h;unfold EJ at e;split at e
 rename_i o k l;split at e;cases e;rename_i a;unfold Hl Ef at a;rw[Æ,Æ,Æ,Æ,ó]at a;let(n,b):=HQ I fh (g.any) a.1.1.1 d;let(p,c):=HQ I fh (i.any) (a.1.2.1) f;have hd:X.A.units+1+min (PyData.depthAll<|Bi l) m.data.depth<cLine:=by lia
 cases k with
 |lst=>exact Ů c b a.1.2.2 a.1.1.2 hd {.bl _,H,I,rfl,q.bl fh}|rl=>exact Ů c b a.1.2.2 a.1.1.2 hd {.bl _,H,I,rfl,q.bl fh}|tup=>exact SeqAt.in_tuple_reads c b a.1.2.2 a.1.1.2 hd {.bl _,H,I,rfl,q.bl fh}|rt=>exact SeqAt.in_tuple_reads c b a.1.2.2 a.1.1.2 hd {.bl _,H,I,rfl,q.bl fh}|pin ϊ=>exact Ů c b a.1.2.2 a.1.1.2 hd {.bl _,H,I,rfl,q.bl fh}
 cases e;unfold fZ at e;split at e;cases e;rw[g.str_inv]at d;rw[i.str_inv]at f;exact zg6 j s O H _ _ v u Q I d f {_,_,rfl,rfl,q.bl fh};cases e;cases e
set_option tactic.hygienic true in
def zg7(p:X.A.units+64<cLine):As X (compareOp .NotIn)<|Bt X.K GD:=by
 intro t s O H x y v u Q I g i h;let(F,j,w,r,fh,d,f,e,q):=h;unfold GD at e;split at e
 rename_i o k l;split at e;cases e;rename_i a;unfold Hl Ef at a;rw[Æ,Æ,Æ,Æ,ó]at a;let(m,b):=HQ I fh (d.any) a.1.1.1 g;let(n,c):=HQ I fh (f.any) (a.1.2.1) i;have hd:X.A.units+1+min (PyData.depthAll<|Bi l) j.data.depth<cLine:=by lia
 cases k with
 |lst=>exact Ũ c b a.1.2.2 a.1.1.2 hd {.bl _,H,I,rfl,q.bl fh}|rl=>exact Ũ c b a.1.2.2 a.1.1.2 hd {.bl _,H,I,rfl,q.bl fh}|tup=>exact SeqAt.notIn_tuple_reads c b a.1.2.2 a.1.1.2 hd {.bl _,H,I,rfl,q.bl fh}|rt=>exact SeqAt.notIn_tuple_reads c b a.1.2.2 a.1.1.2 hd {.bl _,H,I,rfl,q.bl fh}|pin ϊ=>exact Ũ c b a.1.2.2 a.1.1.2 hd {.bl _,H,I,rfl,q.bl fh}
 cases e;cases e
def isT(b:T)(a:Bool)(t c:T):qB:=↑(.bl (if a then !(decide (t.data.depth=0) && eqIs t b) else eqIs t b))
where eqIs:T->T->Bool
  |.non,.non=>true|.bl x,.bl y=>x == y|ϊ,ϋ=>false
end
set_option genInjectivity true in
inductive Rs where
 |v (t:T) (b:Bool)|x (c:Str)
abbrev AG:=AM->Option Rs
set_option genInjectivity true in
inductive RsL where
 |v (ts:List T) (b:Bool)|x (c:Str)
abbrev BN:=AM->Option RsL
def tot(R:Nat->Rg):Rg:=λa=>∃i,R i a
def Dx(K:q9)(F H:Hp)(R:Nat->Rg)(v:T)(b:Bool)(x:V)(B:Rg):Prop:=match b with
 |true=>B=R0/\∃A,(∀a,A a->tot R a)/\Rp K F H v x A|false=>Rp K F H v x B
def Gz(b:Bool)(F H:Hp)(R:Nat->Rg):Hp:=match b with
 |true=>frz F H (tot R)|false=>F
section
variable {K:q9}{F H F1 H1:Hp}{O:L2.St}{Y:AM}{R:Nat->Rg}{B:Rg}{b c:Bool}{v:T}{x:V}
def StR.tot(S:StR K F H O Y R)(h:tot R a):F a=none/\∃u,H a=↑u:=by
 let(i,z):=h;exact S.dom z
def OJ(S:StR K F H O Y R):Ag F<|Gz b F H R:=by
 cases b with
 |true=>exact F7 λa z=>(S.tot z).1|false=>exact .refl _
def Us(S:StR K F H O Y R):Ag (Gz b F H R) H:=by
 cases b with
 |true=>exact Jp S.fh|false=>exact S.fh
def zly(S:StR K F H O Y R)(e:Ext F H F1 H1 B)(h:b=true->c=true):Ag (Gz b F H R)<|Gz c F1 H1 R:=by
 have f:=S.ext e;cases b with
 |false=>exact e.ff.trans (OJ f)|true=>
  rw[h rfl];intro a u q;show frz F1 H1 (Pu.tot R) a=↑u
  by_cases z:Pu.tot R a;rw[Ee z];have d:frz F H (Pu.tot R) a=↑u:=q;rw[Ee z]at d;exact e.hh _ _ d
  rw[F6 z];have d:frz F H (Pu.tot R) a=↑u:=q;rw[F6 z]at d;exact e.ff _ _ d
def Dx.frz(S:StR K F H O Y R)(e:Ext F H F1 H1 B)(g:Dx K F1 H1 R v b x B):∃F2,Ext F H F2 H1 R0/\Ag F1 F2/\Rp K (Gz b F2 H1 R) (Gz b F2 H1 R) v.share x R0:=by
 have d:=S.ext e;cases b with
 |true=>
  let(rfl,A,f,r):=g
  exact{F1,e,.refl _,r.share (OJ d) λa u z q=>by
   show Pu.frz F1 H1 (Pu.tot R) a=↑u;rw[Ee<|f a z];exact q}
 |false=>
  have c :=g;have n:∀a,B a->F1 a=none:=λa z=>(c.dom z).1
  exact{_,e.frz n,F7 n,c.share (F7 n) λa u z q=>by
   show Pu.frz F1 H1 B a=↑u;rw[Ee z];exact q}
theorem Ext.grow(e:Ext F H F1 H1 R0)(s:Ag H1 H2):Ext F H F1 H2 R0:={e.hh.trans s,e.ff,e.fh.trans s,λϊ z=>z.elim,e.nf}
end
def Fz(c:Str):Option Nat:=match c.cps.toList with
 |[78,111,82,117,110,n]=>↑n|ϊ=>none
def HU(c:Str):Str:=match Fz c with
 |some ϊ=>"NoRun"|none=>c
def Sn(c:Str):qE:=match Fz c with
 |some n=>[.int n]|none=>[]
def Wo(F:Hp)(c:Str)(a:Option Addr):Prop:=∀v∈Sn c,Lr F a v
def XE(E:XK)(ca:Str->Value)(c:Str)(F H:Hp):Prop:=∀a,Wo F c a->E (ca<|HU c) a H
def XE.plain(h:XE E ca c F H)(a:Fz c=none):E (ca c) none H:=by
 have:=h none (by unfold Wo Sn;grind);unfold HU at this;grind
theorem XE.any(h:XE E ca c F H)(b:Fz c=none):XE E ca c F' H:=λa ϊ=>h a (by unfold Wo Sn;grind)
def pM(K:q9)(E:L2.St->XK)(ca:Str->Value)(O:L2.St)(Q:VK)(F H:Hp)(R:Nat->Rg):Option Rs->Prop
 |some (.v v b)=>∀d a x B,Ext F H d a B->Dx K d a R v b x B->Q x a|some (.x c)=>∀d a,Ext F H d a R0->XE (E O) ca c d a|none=>False
def tM(K:q9)(E:L2.St->XK)(ca:Str->Value)(m:AG):TE:=λO H Q=>∃F Y R,StR K F H O Y R/\pM K E ca O Q F H R (m Y)
def pMs(K:q9)(E:L2.St->XK)(ca:Str->Value)(O:L2.St)(Q:qE->Hp->Prop)(F H:Hp)(R:Nat->Rg):Option RsL->Prop
 |some (.v e b)=>∀d a xs,Ext F H d a R0->Am K (Gz b d a R) e xs->Q xs a|some (.x c)=>∀d a,Ext F H d a R0->XE (E O) ca c d a|none=>False
def CD(K:q9)(E:L2.St->XK)(ca:Str->Value)(m:BN):TA:=λO H Q=>∃F Y R,StR K F H O Y R/\pMs K E ca O Q F H R (m Y)
def pMB(K:q9)(E:L2.St->XK)(ca:Str->Value)(O:L2.St)(Q:Bool->Hp->Prop)(F H:Hp):Option Rs->Prop
 |some (.v (.bl c) ϊ)=>∀b a,Ext F H b a R0->Q c a|some (.v ϊ ϋ)=>False|some (.x c)=>∀b a,Ext F H b a R0->XE (E O) ca c b a|none=>False
def BV(K:q9)(E:L2.St->XK)(ca:Str->Value)(m:AG):TT:=λO H Q=>∃F Y R,StR K F H O Y R/\pMB K E ca O Q F H (m Y)
def AA(i:Nat):AG:=λY=>match Y[i]? with
 |some ↑t=>↑(.v t<|!t.sh)|ϊ=>none
def mC(t:T):AG:=λϊ=>↑(.v t false)
def AE:BN:=λϊ=>↑(.v [] false)
def AB(m:AG)(ms:BN):BN:=λY=>match m Y with
 |some (.v t b)=>(match ms Y with
  |some (.v d a)=>↑(.v (t.share::d)<|b || a)|r=>r)
 |some (.x c)=>↑(.x c)|none=>none
def BZ(b:Bool)(v:T):Option Rs:=if b && !v.flat then none else ↑(.v v false)
def Bm(g:qF->qB)(ms:BN):AG:=λY=>match ms Y with
 |some (.v a b)=>(match g a with
  |some v=>BZ b v|none=>none)
 |some (.x c)=>↑(.x c)|none=>none
def g2(g:T->T->qB):qF->qB
 |[t,u]=>g t u|ϊ=>none
def g1(g:T->qB):qF->qB
 |[t]=>g t|ϊ=>none
abbrev m1(g:T->qB)(a:AG):AG:=Bm (g1 g)<|AB a AE
abbrev m2(g:T->T->qB)(a b:AG):AG:=Bm (g2 g)<|AB a<|AB b AE
def EH(c:AG)(a b:AG):AG:=λY=>match c Y with
 |some (.v (.bl true) ϊ)=>a Y|some (.v (.bl false) ϊ)=>b Y|some (.x c)=>↑(.x c)|ϊ=>none
def BQ(c:AG):AG:=λY=>match c Y with
 |some (.v (.bl b) ϊ)=>↑(.v (.bl<|!b) false)|some (.x c)=>↑(.x c)|ϊ=>none
def Cc(a b:AG):AG:=EH a b<|mC<|.bl false
def CA(a b:AG):AG:=EH a (mC<|.bl true) b
section
variable {X:Cx}{E:L2.St->XK}{ca:Str->Value}{O:L2.St}{H:Hp}{m ma mb mc:AG}{ms:BN}{K:q9}{a b c e:Expr}{es:ku}{pos:Pos}
theorem PE.weak(h:PE X e t)(w:∀O H Q,t' O H Q->t O H Q):PE X e t':=λa s O H Q I q=>h a s O H Q I<|w O H Q q
theorem PT.weak(h:PT X e t)(w:∀O H Q,t' O H Q->t O H Q):PT X e t':=λa s O H Q I q=>h a s O H Q I<|w O H Q q
theorem PA.weak(h:PA X es t)(w:∀O H Q,t' O H Q->t O H Q):PA X es t':=λpos a s O H Q I q=>h pos a s O H Q I<|w O H Q q
def tM.mono(h:tM K E ca m O H Q)(w:∀x H',Q x H'->Q' x H'):tM K E ca m O H Q':=by
 let(F,Y,R,S,q):=h;refine{F,Y,R,S,?_};cases a:m Y with
 |none=>rw[a]at q;exact q|some r=>
  rw[a]at q;cases r with
  |v v b=>exact λd H' x B e g=>w _ _ (q d H' x B e g)|x c=>exact q
def CD.mono(h:CD K E ca ms O H Q)(w:∀x H',Q x H'->Q' x H'):CD K E ca ms O H Q':=by
 let(F,Y,R,S,q):=h;refine{F,Y,R,S,?_};cases a:ms Y with
 |none=>rw[a]at q;exact q|some r=>
  rw[a]at q;cases r with
  |v v b=>exact λd H' x e g=>w _ _ (q d H' x e g)|x c=>exact q
def IJ(h:CD K E ca AE O H Q):Q [] H:=by
 let(F,Y,R,S,q):=h;exact q F H [] (Ext.refl S.fh) .nil
def IK(h:CD K E ca (AB m ms) O H Q):tM K E ca m O H λx H1=>CD K E ca ms O H1 λxs H2=>Q (x::xs) H2:=by
 let(F,Y,R,S,q):=h;refine{F,Y,R,S,?_};unfold AB at q;cases l:m Y with
 |none=>rw[l]at q;exact q|some r=>
  rw[l]at q;cases r with
  |x c=>exact q|v t b=>
   intro u w x B e g;let(o,k,_,s):=Dx.frz S e g;have j:=S.ext k;refine{o,Y,R,j,?_};cases n:ms Y with
   |none=>rw[n]at q;symm|some r=>
    erw[n]at q;cases r with
    |x c=>exact λi f d=>q i f (k.trans0 d)|v y p=>
     intro i f xs d rs;refine q i f (x::xs) (k.trans0 d) ?_;refine .cons (H:=f) ((s.frame (zly j d<|by grind) λa z=>z.elim)) ?_;cases p with
     |true=>grind|false=>
      cases b with
      |false=>exact rs|true=>exact rs.same<|OJ<|j.ext d
def IL(h:tM K E ca (Bm g ms) O H Q):CD K E ca ms O H λxs H1=>Dh K g xs H1 Q:=by
 let(F,Y,R,S,q):=h;refine{F,Y,R,S,?_};unfold Bm at q;cases k:ms Y with
 |none=>rw[k]at q;symm|some r=>
  erw[k]at q;cases r with
  |x c=>exact q|v m b=>
   intro f H1 xs a rs;have o:=S.ext a;cases e:g m with
   |none=>erw[e]at q;symm|some v=>
    erw[e]at q;refine{Gz b f H1 R,m,v,Us o,rs,e,λn i z C j l=>?_};unfold BZ at q;cases b with
    |false=>exact q n i z C (a.trans0 j) l|true=>
     cases d:v.flat with
     |false=>rw[d]at q;exact False.elim q|true=>rw[d]at q;exact q f i z R0 (a.grow j.hh)<|l.flat_any d
def rTn2(h:Dh K (g2 g) [x,y] H Q):Bt K g x y H Q:=by
 let(F,l,v,fh,rs,e,q):=h;unfold g2 at e;split at e;let(m,j,b,d,a):=rs.inv;let(x2,k,c,f,i):=a.inv;cases b;cases c;exact{F,_,_,v,fh,d,f,e,q}
 cases e
def rTn1(h:Dh K (g1 g) [x] H Q):NC K g x H Q:=by
 let(F,f,v,fh,rs,e,q):=h;unfold g1 at e;split at e;let(i,d,a,b,c):=rs.inv;cases a;exact{F,_,v,fh,b,e,q};cases e
theorem Q1(h:tM K E ca (Bm (g2 g)<|AB ma<|AB mb AE) O H Q):JN (Bt K g) (tM K E ca ma) (tM K E ca mb) O H Q:=
 (IK<|IL h).mono λx c a=>(IK a).mono λy d b=>rTn2<|IJ b
theorem zmv(h:tM K E ca (Bm (g1 g)<|AB ma AE) O H Q):Xo (NC K g) (tM K E ca ma) O H Q:=
 (IK<|IL h).mono λx b a=>rTn1<|IJ a
set_option tactic.hygienic true in
def zmm(h:tM K E ca (AA i) O H Q):Xn i O H Q:=by
 let(F,Y,R,S,q):=h;unfold AA at q;split at q;rename_i t c;let(x,e,r):=S.rep i t c;refine{x,e,q F H x R0 (Ext.refl S.fh) ?_};cases b:t.sh with
 |true=>exact r.move b (.refl _)|false=>exact{rfl,R i,λa z=>{(i),z},r}
 exact False.elim q
theorem Yi(b:X.N[i]?=↑x)(c:DN X.env.scope x)(hd:(x == "__debug__")=false)(a:(x == "__classdict__")=false):PE X (.Name x pos)<|tM X.K E ca<|AA i:=PE.weak (FJ b c hd a) λϊ ϊ ϊ h=>zmm h
theorem Kp(h:PE X e<|tC v)(r:∀F H,Rp X.K F H t v R0):PE X e<|tM X.K E ca<|mC t:=PE.weak h λO H Q h=>by
 let(F,Y,R,S,q):=h;exact q F H v R0 (Ext.refl S.fh)<|r _ _
theorem Yl:PA X []<|CD X.K E ca AE:=PA.weak GA λO H Q h=>IJ h
theorem Yq(a:PE X e<|tM X.K E ca m)(b:PA X es<|CD X.K E ca ms)(c:starEach (e::es) X.env=(false,eval e X.env)::starEach es X.env):PA X (e::es)<|CD X.K E ca<|AB m ms:=
 PA.weak (FK a b c) λO H Q h=>IK h
theorem r_bin(e:As X (binaryOp op)<|Bt X.K g)(c:PE X a<|tM X.K E ca ma)(d:PE X b<|tM X.K E ca mb):PE X (.BinOp a op b pos)<|tM X.K E ca<|Bm (g2 g)<|AB ma<|AB mb AE:=
 PE.weak (pe_op e c d) λO H Q h=>Q1 h
theorem r_un(c:Lq X (unaryOp op)<|NC X.K g)(b:PE X a<|tM X.K E ca ma):PE X (.UnaryOp op a pos)<|tM X.K E ca<|Bm (g1 g)<|AB ma AE:=
 PE.weak (pe_un c b) λO H Q h=>zmv h
theorem r_cmp(f:As X (compareOp op)<|Bt X.K g)(c:PE X a<|tM X.K E ca ma)(d:PE X b<|tM X.K E ca mb)(e:behindInMarks op b=false):PE X (.Compare a [op] [b] pos)<|tM X.K E ca<|Bm (g2 g)<|AB ma<|AB mb AE:=
 PE.weak (zl2 f c d e) λO H Q h=>Q1 h
def Mh(h:BV K E ca m O H Q):tM K E ca m O H λx H1=>∃k,x=.bl k/\Q k H1:=by
 let(F,Y,R,S,q):=h;refine{F,Y,R,S,?_};cases a:m Y with
 |none=>rw[a]at q;exact q|some r=>
  rw[a]at q;cases r with
  |x c=>exact q|v v b=>
   cases v with
   |bl k=>
    intro d f x B e g
    have i:x=.bl k:=by
     cases b with
     |true=>let(_,A,_,r):=g;exact r.bl_inv
     |false=>exact(g).bl_inv
    exact{k,i,q d f<|e.mono λϊ z=>z.elim}
   |_=>symm
theorem znw(f:As X (compareOp op)<|Bt X.K g)(c:PE X a<|tM X.K E ca ma)(d:PE X b<|tM X.K E ca mb)(e:behindInMarks op b=false):PT X (.Compare a [op] [b] pos)<|BV X.K E ca<|Bm (g2 g)<|AB ma<|AB mb AE:=
 PT.weak (zko f c d e) λO H Q h=>Q1<|Mh h
theorem Sj(h:PE X e<|tM X.K E ca m)(a:∀whole,isTrue e X.env whole=(do let v <- whole;standAt e.pos;holding [v] (truthy v))):PT X e<|BV X.K E ca m:=PT.weak (Τ h a) λO H Q h=>Mh h
def YD(h:BV K E ca (EH mc ma mb) O H Q):BV K E ca mc O H λk H1=>if k=true then BV K E ca ma O H1 Q else BV K E ca mb O H1 Q:=by
 let(F,Y,R,S,q):=h;refine{F,Y,R,S,?_};unfold EH at q;cases j:mc Y with
 |none=>rw[j]at q;symm|some r=>
  erw[j]at q;cases r with
  |x c=>exact q|v v b=>
   cases v with
   |bl k=>
    intro l H1 i;have m:=S.ext i
    have f:∀{g },(match g Y with
      |some (.v (.bl c) ϊ)=>∀d a,Ext F H d a R0->Q c a|some (.v ϊ ϋ)=>False|some (.x c)=>∀d a,Ext F H d a R0->XE (E O) ca c d a|none=>False)->BV K E ca g O H1 Q:=λ{g} q=>by
     refine{l,Y,R,m,?_};cases n:g Y with
     |none=>grind|some r=>
      erw[n]at q;cases r with
      |x c=>exact λd a e=>q d a (i.trans0 e)|v v b=>
       cases v with
       |bl k=>exact λd a e=>q d a (i.trans0 e)|_=>symm
    cases k with
    |true=>exact LU (f q)|false=>exact LV<|f q
   |_=>symm
def YA(h:tM K E ca (EH mc ma mb) O H Q):BV K E ca mc O H λk H1=>if k=true then tM K E ca ma O H1 Q else tM K E ca mb O H1 Q:=by
 let(F,Y,R,S,q):=h;refine{F,Y,R,S,?_};unfold EH at q;cases l:mc Y with
 |none=>rw[l]at q;symm|some r=>
  erw[l]at q;cases r with
  |x c=>exact q|v v b=>
   cases v with
   |bl k=>
    intro m H1 j;have n:=S.ext j
    have f:∀{i },(match i Y with
      |some (.v v b)=>∀d a x B,Ext F H d a B->Dx K d a R v b x B->Q x a|some (.x c)=>∀d a,Ext F H d a R0->XE (E O) ca c d a|none=>False)->tM K E ca i O H1 Q:=λ{i} q=>by
     refine{m,Y,R,n,?_};cases o:i Y with
     |none=>grind|some r=>
      erw[o]at q;cases r with
      |x c=>exact λd a e=>q d a (j.trans0 e)|v v b=>exact λd a x B e g=>q d a x B (j.trans0 e) g
    cases k with
    |true=>exact LU (f q)|false=>exact LV<|f q
   |_=>symm
theorem r_ife(f:PT X c<|BV X.K E ca mc)(d:PE X a<|tM X.K E ca ma)(e:PE X b<|tM X.K E ca mb):PE X (.IfExp c a b pos)<|tM X.K E ca<|EH mc ma mb:=PE.weak (zie f d e) λO H Q h=>YA h
def zjy(h:BV K E ca (BQ mc) O H Q):Xu (BV K E ca mc) O H Q:=by
 let(F,Y,R,S,q):=h;refine{F,Y,R,S,?_};unfold BQ at q;cases a:mc Y with
 |none=>rw[a]at q;symm|some r=>
  erw[a]at q;cases r with
  |x c=>exact q|v v b=>
   cases v with
   |bl k=>exact q|_=>symm
theorem znv(a:PT X c<|BV X.K E ca mc):PT X (.UnaryOp .Not c pos)<|BV X.K E ca<|BQ mc:=PT.weak (Ψ a) λO H Q h=>zjy h
def zmw(h:tM K E ca (BQ mc) O H Q):Xs (tM K E ca mc) O H Q:=by
 let(F,Y,R,S,q):=h;refine{F,Y,R,S,?_};unfold BQ at q;cases a:mc Y with
 |none=>rw[a]at q;symm|some r=>
  erw[a]at q;cases r with
  |x c=>exact q|v v b=>
   cases v with
   |bl k=>
    intro d f x B e g
    have i:x=.bl k:=by
     cases b with
     |true=>let(_,A,_,r):=g;exact r.bl_inv
     |false=>exact(g).bl_inv
    exact{k,i,q d f _ R0 (e.mono λϊ z=>z.elim)<|.bl _}
   |_=>symm
theorem r_not(b:PE X a<|tM X.K E ca ma):PE X (.UnaryOp .Not a pos)<|tM X.K E ca<|BQ ma:=PE.weak (zoo b) λO H Q h=>zmw h
theorem Xz(h:tM K E ca (EH mc ma mb) O H Q):tM K E ca mc O H λx H1=>∃k,x=.bl k/\if k=true then tM K E ca ma O H1 Q else tM K E ca mb O H1 Q:=Mh<|YA h
def YC(r:∀F H,Rp K F H t v R0)(h:tM K E ca (mC t) O H Q):Q v H:=by
 let(F,Y,R,S,q):=h;exact q F H v R0 (Ext.refl S.fh)<|r _ _
theorem r_and{rest}(c:PE X a<|tM X.K E ca ma)(d:PE X (.BoolOp .And (b::rest) pos)<|tM X.K E ca mb):PE X (.BoolOp .And (a::b::rest) pos)<|tM X.K E ca<|Cc ma mb:=
 PE.weak (zos c d) λO H Q h=>(Xz h).mono λx f ⟨k,e,q⟩=>{k,e,by
  cases k with
  |true=>exact q|false=>exact YC (λϊ ϊ=>.bl _) q}
theorem r_or{rest}(c:PE X a<|tM X.K E ca ma)(d:PE X (.BoolOp .Or (b::rest) pos)<|tM X.K E ca mb):PE X (.BoolOp .Or (a::b::rest) pos)<|tM X.K E ca<|CA ma mb:=
 PE.weak (pe_or c d) λO H Q h=>(Xz h).mono λx f ⟨k,e,q⟩=>{k,e,by
  cases k with
  |true=>exact YC (λϊ ϊ=>.bl _) q|false=>exact q}
theorem r_one(b:PE X a<|tM X.K E ca ma):PE X (.BoolOp op [a] pos)<|tM X.K E ca ma:=Ω b
def BV.mono(h:BV K E ca m O H Q)(w:∀x H',Q x H'->Q' x H'):BV K E ca m O H Q':=by
 let(F,Y,R,S,q):=h;refine{F,Y,R,S,?_};cases a:m Y with
 |none=>rw[a]at q;exact q|some r=>
  rw[a]at q;cases r with
  |v v b=>
   cases v with
   |bl k=>exact λd H' e=>w _ _ (q d H' e)|_=>symm
  |x c=>exact q
def Q2(h:BV K E ca (mC<|.bl k) O H Q):Q k H:=by
 let(F,Y,R,S,q):=h;exact q F H<|Ext.refl S.fh
theorem PW.weak(h:PW X e t)(w:∀O H Q,t' O H Q->t O H Q):PW X e t':=λb a s O H Q I q=>h b a s O H Q I<|w O H Q q
theorem znu{rest}(c:PT X a<|BV X.K E ca ma)(d:PW X (.BoolOp .And (b::rest) pos)<|BV X.K E ca mb):PW X (.BoolOp .And (a::b::rest) pos)<|BV X.K E ca<|Cc ma mb:=
 PW.weak (Χ c d) λO H Q h=>(YD h).mono λk e q=>by
  cases k with
  |true=>exact q|false=>exact Q2 q
theorem r_wor{rest}(c:PT X a<|BV X.K E ca ma)(d:PW X (.BoolOp .Or (b::rest) pos)<|BV X.K E ca mb):PW X (.BoolOp .Or (a::b::rest) pos)<|BV X.K E ca<|CA ma mb:=
 PW.weak (pw_or c d) λO H Q h=>(YD h).mono λk e q=>by
  cases k with
  |true=>exact Q2 q|false=>exact q
theorem zke(b:PT X a<|BV X.K E ca ma):PW X (.BoolOp .And [a] pos)<|BV X.K E ca ma:=Υ b
theorem zkd(b:PT X a<|BV X.K E ca ma):PW X (.BoolOp .Or [a] pos)<|BV X.K E ca ma:=Φ b
end
section
variable {X:Cx}{pz:List<|Addr×Obj}{O:L2.St}{H:Hp}{s:Shared}{h':Heap}
def II{ch:List Addr}(I:Inv X pz O H s)(k:∀b o,b∉ch->s.heap.get? b=↑o->h'.get? b=↑o)(f:∀b∈ch,Cy X pz H b):Inv X pz O H { s with heap:=h',toks:=t'}:=by
 have d:∀b u,H b=↑u->b∉ch:=λb u e z=>by rw[(f b z).1]at e;cases e
 refine I.step (g':=s.gens) (d':=s.drawn) (ch:=ch) (λb i=>?_) (λb o ϊ ϊ a e ϊ=>k b o a e) (λb o ϊ ϊ a e ϊ=>{o.slots,k b o a e}) (λϊ ϊ ϊ ϊ n=>n)
  (λb o a e=>{o,k b o a e}) (λϊ ϊ e=>e) (λϊ ϊ ϊ e=>e) (λb ps e=>{#[],by rw[e];simp}) (λm j=>?_) (λb u e=>?_) I.bare
 let(_,f1,f2,f3,f4,f5):=f b i;exact{(f3),f1,f4,f5};let(o,h,g,l,r):=j;exact{o,h,g,k _ o (λz=>(f _ z).2.1 rfl) l,r};refine(I.hok b u e).stay (λc v a q=>k c v ?_ q) (λϊ q=>q) λϊ ϊ q=>q;rcases a with z|z;rw[z];exact d b u e;exact d c _ z
def Xl{ch:List Addr}{p:Addr}(I:Inv X pz O H s)(k:∀b o,b∉ch->s.heap.get? b=↑o->h'.get? b=↑o)(f:∀b∈ch,Cy X pz H b)(i:s.heap.objs.size<=p)(new:DH X.prog X.w (upd H p o) h' p o) :
  Inv X pz O (upd H p o) { s with heap:=h',toks:=t' }:=by
 have d :=I.hok.fresh i;have x:∀b u,H b=↑u->b∉ch:=λb u e z=>by rw[(f b z).1]at e;cases e
 have h:∀b ob,s.heap.get? b=↑ob->b≠p:=λb ob e z=>by
  subst z;exact absurd (Ç e)<|Nat.not_lt.mpr i
 refine I.step (λb g=>?_) (λb o ϊ ϊ a e ϊ=>k b o a e) (λb o ϊ ϊ a e ϊ=>{o.slots,k b o a e}) (λb ob a e n=>by rw[BF<|h b ob e];exact n)
  (λb o a e=>{o,k b o a e}) (λb xs e=>by rw[BF<|DB e d];exact e) (λb o u e=>by rw[BF<|DB e d];exact e) (λb ps e=>{#[],by rw[BF<|DB e d,e];simp}) (λm t=>?_) (λb u e=>?_) I.bare
 let(_,f1,f2,f3,f4,f5):=f b g;exact{(f3),f1,f4,f5};let(o,l,j,w,r):=t;exact{o,l,j,k _ o (λz=>(f _ z).2.1 rfl) w,r};by_cases g:b=p;subst g;rw[C2]at e;cases e;exact new;rw[BF g]at e;refine(I.hok b u e).stay (λc v a q=>k c v ?_ q) (λc q=>by rw[BF<|DB q d];exact q) λc xs q=>by rw[BF<|DB q d];exact q
 grind
theorem gQ(f:Cy X pz H b)(h:b≠p):Cy X pz (upd H p o) b:={by rw[BF h];exact f.1,f.2}
end
def Wx(K:q9)(k:Nat)(l:Addr):It:=
 {λi H=>∃xs x,Ai K H l xs/\xs[i]?=↑x,λi H x a=>∃p y,x=.ref p/\H p=none/\a=upd H p (.tup [.int ((k+i:Nat):Int),y])/\∀xs,Ai K H l xs->xs[i]?=↑y,λi H=>∃xs,Ai K H l xs/\xs.length<=i}
theorem drw{w:World}    {n:Nat}  {St }(D:Draws P w A it fp n Q St)(k:Nat):Draws P w A it fp (k+n) (λj x=>∃i,j=k+i/\Q i x) (λj h=>∃i,j=k+i/\St i h) where
 live:=λ_ h ⟨i,_,st⟩=>D.live i h st
 frame:=λ_ h a ⟨i,e,st⟩ c=>{i,e,D.frame i h a st c}
 item:=λj s R E d ⟨i,e,st⟩ hQ=>D.item i s R E (by lia) st λx a tk q b sb=>hQ x a tk {(i),e,q} {i+1,by lia,b} sb
 done:=λs R E ⟨i,e,st⟩ hE=>D.done s R E (by grind) hE
def zm6(f:IsEnum h e it i old)(a:h.IsListIter it l j)(b:h.IsList l its):l≠it/\l≠e:=by
 let(o,c,c1,_):=b;let(o2,d,c2,_):=a
 grind
theorem drw0(hh:A.handled=none)(d:its[i]?=none):Draws P w A it [it,l] i (λϊ ϊ=>True) (λj h=>j=i/\h.IsListIter it l i/\h.IsList l its) where
 live:=λ_ _ ⟨_,⟨o,ho,_⟩,_⟩=>{(o),ho}
 frame:=λ_ _ _ ⟨e,a,b⟩ c=>{e,a.at λo q=>c it (by simp) o q,b.at λo q=>c l (by simp) o q}
 item:=λj _ _ _ f ⟨e,_⟩=>absurd f<|by lia
 done:=λ_ _ _ ⟨_,a,b⟩ hE=>wpAny_nextOf_list_end hh a b d hE
def zfz{K}(k:Nat)(l e it:Addr)(g:e≠it) :
  Turn P w K (.Tuple elts kk tpos) (Wx K k l) [e,it] e (λi h=>(∃old,IsEnum h e it (k+i:Nat) old)/\h.IsListIter it l i) where
 mem:=by simp
 obj:=λi h st b a=>by
  let((old,d),o,M,t,hd):=st;obtain rfl|a:=Ñ.mp a
  exact{_,d,λv z=>by
   have z' :=z;cases z'}
  have q :=by simpa using a
  subst q;exact{o,M,λv z=>by rw[hd]at z;cases z}
 keep:=λi h D st k=>by
  let((old,d),M):=st;exact{{old,k e (by simp) _ d},M.at λo q=>k it (by simp) o q}
 item:=by
  intro X G N F t i S s O H E I y st L;subst G N F;let((old,d),hit):=st;let(xs,x,B,Q):=L;let(n,T,p,hz):=I.list B;let(u,V,ru):=T.get Q;have C :=Ç d;have R:it<s.heap.objs.size:=by let(o,q,_):=hit;exact Ç q
  have hn :=I.hok.fresh<|Ä _;let(n1,n2):=zm6 d hit p.isList;have Z:i<n.toArray.size:=by simpa using (É.mp V).1
  refine wpAny_pyNext_enum_itemD (drw (Draws.list (A:=X.A.in1) (I.ok.hd t) it l n1 _) k) d {(i),rfl,hit,p.isList} (by lia) g (by simp[g,Ë n2]) λx' D tk f ho c Y hsz hk=>?_;let(m,U,f):=f;have U:m=i:=by lia
  subst U
  have r :=by
   rw[List.getElem?_toArray,V]at f;exact(Ù f).symm
  subst r;let(i2,r,c,_):=c;have r:i2=m+1:=by lia
  subst r
  have W:Inv X S O (upd H s.heap.objs.size<|.tup [.int<|k+m,x]) { s with heap:=D,toks:=tk+1 }:=by
   refine Xl I (λb o a q=>hk b o (λz=>a<|by simp[z]) (λz=>a<|by simp[z]) q) y (Ä _) ?_;exact{by erw[ñ,ģ];rw[č];decide,[.int (k+m) tk,x'],.cons {_,rfl}<|.cons ru .nil,_,Y,rfl,0,rfl}
  have f1:∀b∈[e,it],Cy X S (upd H s.heap.objs.size<|.tup [.int (k+m:Nat),x]) b:=λb a=>gQ (y b a) (by
   obtain rfl|a:=Ñ.mp a
   exact Ô C;have q :=by simpa using a
   subst q;exact Ô R)
  refine{.ref s.heap.objs.size,rfl,wpAny_letOwnedTupleGo_enum ho λh2 J j=>?_};refine{.ref s.heap.objs.size,_,II (ch:=[e]) W (λb o a q=>j.extBut b o (λz=>a<|by simp[z]) q)<|λb a=>f1 b (by simp at a;simp[a]),rfl,{_,x,rfl,hn,rfl,λys hy=>by rw[I.list_inj hy B];exact Q},{{_,by simpa[Int.add_assoc] using J},c.extBut j.extBut g.symm},λb a=>(f1 b a).1}
 done:=by
  intro X G N F t i S s O H E I y st L;subst G N F;let((old,d),hit):=st;let(xs,B,Q):=L;let(n,T,p,hz):=I.list B;have hl:=T.length;exact wpAny_pyNext_enum_endD (drw0 (I.ok.hd t) (by simp;lia)) d {(rfl),hit,p.isList} λD eb=>{rfl,II (ch:=[it]) I (λb o a q=>eb b o (λz=>a<|by simp[z]) q)<|λb a=>y b (by simp at a;simp[a])}
 self:=λϊ ϊ ϊ ϊ ϊ st h=>wpAny_pyIter_enum st.1.choose_spec h
def Wt(K:q9)(l1 b:Addr):It:=
  {λi H=>∃xs x a y,Ai K H l1 xs/\xs[i]?=↑x/\Ai K H b a/\a[i]?=↑y,
   λi H x c=>∃p y z,x=.ref p/\H p=none/\c=upd H p (.tup [y,z])/\(∀xs,Ai K H l1 xs->xs[i]?=↑y)/\∀xs,Ai K H b xs->xs[i]?=↑z,
   λi H=>∃xs a,Ai K H l1 xs/\Ai K H b a/\(xs.length<=i\/a.length<=i)}
def zhw{K}(z TI TO i1 i2 l1 l2)(D:ZipApart z TI TO i1 i2 l1 l2) :
  Turn P w K (.Tuple elts kk tpos) (Wt K l1 l2) [z,TI,TO,i1,i2] z (λi h=>IsZip h z TI TO .none/\IsPair h TI (.ref i1) (.ref i2)/\(∃a b,IsPair h TO a b)/\h.IsListIter i1 l1 i/\h.IsListIter i2 l2 i) where
 mem:=by simp
 obj:=λi h st b d=>by
  let(l,e,(a,c,f),(o1,e1,_,d1),(o2,e2,_,d2)):=st;erw[Ñ,đ,ě]at d;rcases d with rfl|rfl|rfl|rfl|rfl
  exact{_,l,λv z=>by
   have F :=z;cases F}
  exact{_,e,λv z=>by
   have F :=z;cases F}
  exact{_,f,λv z=>by
   have F :=z;cases F}
  exact{o1,e1,λv z=>by rw[d1]at z;cases z};exact{o2,e2,λv z=>by rw[d2]at z;cases z}
 keep:=λi h L st k=>by
  let(l,e,(a,c,f),r,t):=st;exact{k z (by simp) _ l,k TI (by simp) _ e,{a,c,k TO (by simp) _ f},r.at λo q=>k i1 (by simp) o q,t.at λo q=>k i2 (by simp) o q}
 item:=by
  intro X N S M hc i Y s O H E I G st Q;subst N S M;let(l,e,(a,c,f),r,t):=st;let(xs,x,ys,y,J,A,j,hy):=Q;let(V,rv,p,U):=I.list J;let(C,n,W,B):=I.list j;let(u,hu,ru):=rv.get A;let(u2,R,Z):=n.get hy;have hn :=I.hok.fresh<|Ä _
  have lt:∀b∈[z,TI,TO,i1,i2],b≠s.heap.objs.size:=λb d=>by
   erw[Ñ,đ,ě]at d;rcases d with rfl|rfl|rfl|rfl|rfl
   exact Ô<|Ç l
   exact Ô<|Ç e
   exact Ô<|Ç f
   let(o,q,_):=r;exact Ô<|Ç q
   let(o,q,_):=t;exact Ô<|Ç q
  refine wpAny_pyNext_zip_item D l e f r t p.isList W.isList (by simpa using hu) (by simpa using R) λL a1 a2 a3 a4 a5 a6 hk=>?_
  have I1:Inv X Y O (upd H s.heap.objs.size<|.tup [x,y]) { s with heap:=L,toks:=s.toks }:=by
   refine Xl I (λb o d q=>hk b o (λz=>d<|by simp[z]) (λz=>d<|by simp[z]) (λz=>d<|by simp[z]) (λz=>d<|by simp[z]) q) G (Ä _) ?_;exact{by erw[ñ,ģ];rw[č];decide,[u,u2],.cons ru<|.cons Z .nil,_,a5,rfl,0,rfl}
  have f1:∀b∈[z,TI,TO,i1,i2],Cy X Y (upd H s.heap.objs.size<|.tup [x,y]) b:=λb d=>gQ (G b d)<|lt b d
  refine{.ref s.heap.objs.size,rfl,wpAny_letOwnedTupleGo_zip a1 λh3 T g=>?_};refine{.ref s.heap.objs.size,_,II (ch:=[z]) I1 (λb o d q=>g.extBut b o (λz=>d<|by simp[z]) q)<|λb d=>f1 b (by simp at d;simp[d]),rfl,{_,x,y,rfl,hn,rfl,(λzs m=>by rw[I.list_inj m J];exact A),λzs m=>by rw[I.list_inj m j];exact hy},?_,λb d=>(f1 b d).1};exact{T,g.extBut _ _ D.TIz<|hk _ _ D.TIz D.TITO D.TIi1 D.TIi2 e,{_,_,g.extBut _ _ D.TOz a2},a3.extBut g.extBut D.i1z,a4.extBut g.extBut D.i2z}
 done:=by
  intro X N S M hc i Y s O H E I G st Q;subst N S M;let(l,e,(a,c,f),r,t):=st;let(xs,ys,J,j,A):=Q;let(V,rv,p,U):=I.list J;let(C,n,W,B):=I.list j;have hl:=rv.length;have hl2:=n.length;refine wpAny_pyNext_zip_end (I.ok.hd hc) D l e f r t p.isList W.isList ?_ λL hk=>{rfl,II I (λb o d q=>hk b o (λz=>d<|by simp[z]) (λz=>d<|by simp[z]) (λz=>d<|by simp[z]) (λz=>d<|by simp[z]) q) G}
  rcases A with A|A;exact .inl (by simp;lia);exact .inr (by simp;lia)
 self:=λϊ ϊ ϊ ϊ ϊ st h=>wpAny_pyIter_zip st.1 h
section
variable {X:Cx}{elts:ku}{kk:Nat}{tpos:Pos}
def iEnum(K:q9)(c:TA):TI:=λO H R=>c O H λd b=>∃a,d=[.ref a]/\(∃xs,Ai K b a xs)/\R (Wx K 0 a) b
def zky(o:Gl X "enumerate")(r:X.mg "enumerate"=none)(n:PA X [a] ta)(v:starEach [a] X.env=[(false,eval a X.env)]):PI X (.Tuple elts kk tpos) (.Call (.Name "enumerate" p) [a] [] pos)<|iEnum X.K ta:=by
 intro j s O H R I h;refine Call_<|Gq I o r boot_enumerate<|Đ (A5 (n pos j s O H _ I h) λG c C=>?_) v rfl
 let(J,g,f,A,z):=C;let(l,e,(xs,t),q):=z;subst e;let(u,rfl,B):=Fq A;cases B;let(x,F,y,E):=f.list t;refine call_enumerate_list y.isList λm i hit w hk=>?_
 have k:Inv X j O g { c with heap:=m,toks:=c.toks }:=f.kept hk;refine wpAny_pyIter_enum i {c.heap.objs.size+1,[c.heap.objs.size+1,c.heap.objs.size],_,_,g,rfl,k,zfz 0 l _ _ (by simp),{{_,by simpa using i},hit},λb D=>?_,q}
 have d:c.heap.objs.size<=b:=by
  grind
 exact f.fpOk d<|f.hok.fresh d
def iZip(K:q9)(d:TA):TI:=λO H R=>d O H λe c=>∃a b,e=[.ref a,.ref b]/\(∃xs,Ai K c a xs)/\(∃xs,Ai K c b xs)/\R (Wt K a b) c
def zof(N:Gl X "zip")(P:X.mg "zip"=none)(M:PA X [a,b] ta)(S:starEach [a,b] X.env=[(false,eval a X.env),(false,eval b X.env)])(g:starEach [b] X.env=[(false,eval b X.env)]):PI X (.Tuple elts kk tpos) (.Call (.Name "zip" p) [a,b] [] pos)<|iZip X.K ta:=by
 intro C s O H R I h;refine Call_<|Gq I N P boot_zip<|Đ (A5 (M pos C s O H _ I h) λus c zz=>?_) (by rw[S,g]) (by rw[g];rfl)
 let(vs,w,d,W,V):=zz;let(l1,l,e,(xs,Q),(ys,r),q):=V;subst e;let(u,u2,rfl,Y,v):=IG W;cases Y;cases v;let(U,rv,B,hz):=d.list Q;let(A,Z,j,T):=d.list r;have t:l1<c.heap.objs.size:=by let(o,n,e,_):=B;exact Ç e
 have i:l<c.heap.objs.size:=by let(o,n,e,_):=j;exact Ç e
 refine call_zip_2 B.isList j.isList λL x F G J K a6 hk=>?_;have E:Inv X C O w { c with heap:=L,toks:=c.toks }:=d.kept hk
 have D:ZipApart (c.heap.objs.size+4) (c.heap.objs.size+2) (c.heap.objs.size+3) c.heap.objs.size (c.heap.objs.size+1) l1 l:=by
  have m:∀k:Nat,l1≠c.heap.objs.size+k:=λk z=>ã _<|Û t<|z▸Ħ _ _
  have n2:∀k:Nat,l≠c.heap.objs.size+k:=λk z=>ã _<|Û i<|z▸Ħ _ _
  refine{?_,?_,?_,?_,?_,?_,?_,?_,?_,?_,m 4,m 3,m 0,m 1,n2 4,n2 3,n2 0,n2 1}<;>intro z<;>simp at z
 refine wpAny_pyIter_zip x {_,[c.heap.objs.size+4,c.heap.objs.size+2,c.heap.objs.size+3,c.heap.objs.size,c.heap.objs.size+1],_,_,w,rfl,E,zhw _ _ _ _ _ l1 l D,{x,F,{_,_,G},J,K},λb y=>?_,q}
 have f:c.heap.objs.size<=b:=by
  erw[Ñ,đ,ě]at y;rcases y with rfl|rfl|rfl|rfl|rfl
  exact Ħ _ _;exact Ħ _ _;exact Ħ _ _;exact Ä _;exact Ħ _ _
 exact d.fpOk f<|d.hok.fresh f
variable {pz:List<|Addr×Obj}{O:L2.St}{H:Hp}{s:Shared}{a:Addr}{o:Obj}{kvs:List<|Key×V}
def zps(r:KV kvs vs):kvs.length=vs.length:=ŗ<|r
end
section
variable {X:Cx}{o:Expr}{to:TE}{ap cp:Pos}{elts:ku}{kk:Nat}{tpos:Pos}
end
def K7(a:ku)(env:Env):Sem Bool:=forIn a true λc r=>if r=true then do let ok <- isTrue c env<|eval c env;pure (ForInStep.yield ok) else pure (ForInStep.yield r)
def IB(X:Cx)(a:ku)(t:TT):Prop:=
 ∀(b:List<|Addr×Obj) (s:Shared) (O:L2.St) (H:Hp) (Q:Bool->Hp->Prop),Inv X b O H s->t O H Q->wpAny (model X.prog X.w) X.A (K7 a X.env) (TP X b O Q) X.xe s
theorem zkn:IB X []<|λϊ H Q=>Q true H:=λa s O H Q I h=>Ð {(H),I,h}
theorem zkm(h:PT X c t):IB X [c] t:=λd s O H Q I q=>by
 have e:K7 [c] X.env=(isTrue c X.env (eval c X.env) >>= λok=>pure ok):=by
  unfold K7;simp
 rw[e];exact Â<|ê (h d s O H Q I q) (λb f a=>Ð a) λϊ ϊ z=>z
def zfl:compTurn (.ListComp elt [{target,iter,ifs,0}] scope pos) 0 it acc env=(standAt iter.pos >>= λϊ=>pyNext it >>= λr=>match r with
  |none=>pure (.done .next)|some u=>letOwnedTupleGo target it u >>= λϊ=>assign target env u >>= λϊ=>K7 ifs env >>= λok=>
   if ok=true then ((eval elt env >>= λx=>call (.builtin "list.append") [acc,x] >>= λϊ=>pure ()) >>= λϊ=>again<|.compLoop (.ListComp elt [{target,iter,ifs,0}] scope pos) 0 it acc env)
   else again (.compLoop (.ListComp elt [{target,iter,ifs,0}] scope pos) 0 it acc env)):=by rfl
def zfm(j:NE=notedBy (model prog w) A env λe s'=>R (.error e) s')(I:Nat->Shared->Prop)
  (c : ∀ n s, I n s -> wpAny (model prog w) A (pyNext it) (fun r s₁ => match r with
   |none=>R (.ok .next) s₁|some v=>wpAny (model prog w) A (letOwnedTupleGo target it v) (λϊ s₁'=>wpAny (model prog w) A (assign target env v) (λϊ s₂=>wpAny (model prog w) A (K7 ifs env) (λok s₂'=>if ok=true then wpAny (model prog w) A (eval elt env) (λx s₃=>
     wpAny (model prog w) A (call (.builtin "list.append") [acc,x]) (λϊ s₄=>∃m,m<n/\I m s₄) NE s₃)
     NE s₂' else ∃m,m<n/\I m s₂') NE s₂) NE s₁') NE s₁) NE s)
  (k ) (hk:I k s):codeAny (model prog w) A (.compLoop (.ListComp elt [{target,iter,ifs,0}] scope pos) 0 it acc env) R s:=by
 subst j;refine codeAny_loop rfl I (λn s i=>?_) k hk;refine wpAny_noted ?_;rw[zfl];refine Â<|ś<|Â<|ê (c n s i) (λr s₁ b=>?_) λϊ ϊ z=>z
 cases r with
 |none=>exact Ð b|some v=>
  refine Â<|ê b (λϊ s₁' d=>?_) λϊ ϊ z=>z
  refine Â<|ê d (λϊ s₂ f=>Â<|ê f (λok s₂' a=>?_) λϊ ϊ z=>z) λϊ ϊ z=>z
  cases ok with
  |false=>
   rw[if_neg<|by decide]at a ⊢;exact Ð {(rfl),a}
  |true=>rw[if_pos rfl]at a ⊢;exact Â<|Â<|ê a (λx s₃ g=>Â<|ê g (λϊ s₄ h=>Ð<|Ð {(rfl),h}) λϊ ϊ z=>z) λϊ ϊ z=>z
def Vc(env ):∀(names:List<|Str×NameKind),(∀y∈names,y.2=.free->∃c,env.cells.lookup y.1=↑c)->∀acc ,∃cl ,
  (forIn names acc λ(x:Str×NameKind) r=>if (x.2 == NameKind.free)=true then do let a <- cellOf env x.1;pure (ForInStep.yield<|(x.1,a)::r) else pure (ForInStep.yield r))=pure cl /\
  (∀y c,cl.lookup y=↑c->acc.lookup y=↑c\/env.cells.lookup y=↑c)/\(∀y∈names,y.2=.free->∃c,cl.lookup y.1=↑c)/\∀y c,acc.lookup y=↑c->∃c',cl.lookup y=↑c'
 |[],ϊ,acc=>{acc,rfl,λϊ ϊ e=>.inl e,(λϊ z=>by cases z),λϊ c e=>{(c),e}}|(n,k)::r,h,acc=>by
  rw[List.forIn_cons];by_cases hk:k=.free;subst hk;let(c,l):=h (n,.free) (Ï ..) rfl;have m:cellOf env n=pure c:=by unfold cellOf;rw[l]
  let(cl,e,g,i,d):=Vc env r (λy b=>h y<|Í _ b)<|(n,c)::acc
  refine{cl,?_,λy c' q=>?_,λy b f=>?_,λy c' q=>?_};erw[Ą,Å,m,pure_bind];exact e;rcases g y c' q with z|z;rw[æ]at z;cases b:y == n with
  |true=>rw[b]at z;cases z;exact .inr (by rw[eq_of_beq b];exact l)|false=>rw[b]at z;exact .inl z
  exact .inr z;obtain rfl|b:=Ñ.mp b
  exact d n c<|by simp
  exact i y b f;by_cases b:y=n;subst b;exact d y c<|by simp
  exact d y c' (by rw[æ,beq_eq_false_iff_ne.mpr b];exact q);have j:(k == NameKind.free)=false:=beq_eq_false_iff_ne.mpr hk;let(cl,e,g,i,d):=Vc env r (λy b=>h y<|Í _ b) acc
  refine{cl,?_,g,λy b f=>?_,d};erw[j,pure_bind];exact e;obtain rfl|b:=Ñ.mp b
  exact absurd f hk;exact i y b f
def zen(scope)(env)(h:∀y∈scope.names,y.2=.free->∃c,env.cells.lookup y.1=↑c):∃cl,closureFor scope env=pure cl/\(∀y c,cl.lookup y=↑c->env.cells.lookup y=↑c)/\∀y∈scope.names,y.2=.free->∃c,cl.lookup y.1=↑c:=by
 let(cl,e,d,f,_):=Vc env scope.names h [];refine{cl,?_,λy c q=>?_,f};have b:closureFor scope env=(forIn scope.names [] λ(x:Str×NameKind) (r:List<|Str×Addr)=>(if (x.2 == NameKind.free)=true then do let a <- cellOf env x.1;pure (ForInStep.yield<|(x.1,a)::r) else pure (ForInStep.yield r):Sem<|ForInStep<|List<|Str×Addr)) >>= pure:=rfl;rw[b,e,pure_bind];rcases d y c q with z|z;cases z;exact z
set_option tactic.hygienic true in
def Ve:∀(names ) (h:Heap) (acc ) (y ) (c ),(cellsFrom h.objs.size names acc).lookup y=↑c->acc.lookup y=↑c\/(h.objs.size<=c/\(pushCells h names).IsCell c none/\(y,NameKind.cell)∈names)
 |[],h,acc,y,c,e=>.inl e|(n,k)::r,h,acc,y,c,e=>by
  unfold cellsFrom at e;unfold pushCells;split at e;rename_i hk;rw[if_pos hk];have g:(h.push { cls:=.type "cell",data:=.cell none }).objs.size=h.objs.size+1:=Ė ..;rw[<- g]at e
  rcases Ve r _ _ y c e with q|⟨a,d,f⟩;rw[æ]at q;cases b:y == n with
  |true=>rw[b]at q;cases q;have i:y=n:=eq_of_beq b;subst i;exact .inr {Ä _,{_,ŝ _ _ _ _<|â _ rfl,rfl},by rw[eq_of_beq hk];exact Ï ..}|false=>rw[b]at q;exact .inl q
  exact .inr {by rw[g]at a;exact Õ (Ę _) a,d,Í _ f};rename_i hk;rw[if_neg hk];rcases Ve r h acc y c e with q|⟨a,d,f⟩;exact .inl q;exact .inr {a,d,Í _ f}
def Vf:∀(names) (h:Heap) (acc:List<|Str×Addr),(∀y z c,acc.lookup y=↑c->acc.lookup z=↑c->y=z)->(∀y c,acc.lookup y=↑c->c<h.objs.size) ->
  ∀y z c,(cellsFrom h.objs.size names acc).lookup y=↑c->(cellsFrom h.objs.size names acc).lookup z=↑c->y=z
 |[],h,acc,f,ϊ=>f|(n,k)::r,h,acc,f,g=>by
  unfold cellsFrom;split;have i:(h.push { cls:=.type "cell",data:=.cell none }).objs.size=h.objs.size+1:=Ė ..;rw[<- i];refine Vf r _ _ (λy z c a b=>?_)<|λy c a=>?_
  rw[æ]at a b;cases d:y == n with
  |true=>
   rw[d]at a;cases a;cases e:z == n with
   |true=>rw[eq_of_beq d,eq_of_beq e]|false=>rw[e]at b;exact absurd (g z _ b)<|ã _
  |false=>
   rw[d]at a;cases e:z == n with
   |true=>rw[e]at b;cases b;exact absurd (g y _ a) (ã _)|false=>rw[e]at b;exact f y z c a b
  rw[æ]at a;rw[i];cases d:y == n with
  |true=>rw[d]at a;cases a;exact ċ _|false=>rw[d]at a;exact Ĥ<|g y c a
  exact Vf r h acc f g
set_option tactic.hygienic true in
def Vd:∀(names) (n lo:Nat) (acc:List<|Str×Addr) (y) (c),lo<=n->((y,NameKind.cell)∈names\/∃c0,acc.lookup y=↑c0/\lo<=c0)->(cellsFrom n names acc).lookup y=↑c->lo<=c
 |[],n,lo,acc,y,c,a,h,e=>by
  rcases h with h|⟨c0,b,d⟩;cases h;have g:acc.lookup y=↑c:=e;rw[b]at g;cases g;exact d
 |(m,k)::r,n,lo,acc,y,c,a,h,e=>by
  unfold cellsFrom at e;split at e;refine Vd r (n+1) lo _ y c (Nat.le_succ_of_le a) ?_ e;by_cases f:y=m;subst f;exact .inr {n,by simp,a};rcases h with h|⟨c0,b,d⟩;rcases Ñ.mp h with z|z;cases z;exact absurd rfl f;exact .inl z;exact .inr {c0,by rw[æ,beq_eq_false_iff_ne.mpr f];exact b,d};rename_i hk;refine Vd r n lo acc y c a ?_ e;rcases h with h|h;rcases Ñ.mp h with z|z;cases z;exact absurd rfl hk;exact .inl z;exact .inr h
def zcw{code}
  (c:Q (newEnv scope s.heap.objs.size globals (cellsFrom (s.heap.objs.size+1) scope.names cl) qual func code ↑outer builtins) { s with heap:=pushCells (s.heap.push { cls:=.type "dict",data:=.dict #[] }) scope.names }) :
  wpAny M A (newFunctionEnv scope globals cl [] qual func code ↑outer builtins) Q E s:=by
 erw[newFunctionEnv,Option.isSome_some,Å];refine Â<|wpAny_alloc ?_;refine Â<|wpAny_layCells _ (λb kind a=>by rfl) _ _ _ _ ?_;rw[Ė ..]
 exact Â<|Ð<|Ð c
abbrev Du(X:Cx)(a:Scope)(cl:List<|Str×Addr)(b:ky)(C:Addr)(s₀:Shared)(H₀:Hp)(ex:List Addr)(c:Value->Shared->Prop):Cx:={ zqs X a cl b C s₀ H₀ ex with fn:=λx=>decide (a.names.lookup x=↑.cell),xe:=c }
def jP{h c B a:Heap}(k:∀b o,B.get? b=none->h.get? b=↑o->(∀us,o.data≠.fields us)->a.get? b=none/\∃o',c.get? b=↑o'/\∀us,o'.data≠.fields us):∀{l},h.FunFrames B l->c.FunFrames a l
 |[],ϊ=>trivial|_::_,{x,{(L),o,d,e,f,g},r}=>by
  let(i,o',j,m):=k L o e f g;exact{x,{(L),o',d,i,j,m},jP k r}
def JC(X:Cx):Prop:=∃v l,X.stack=v::l/\X.env.frame=v.frame
def zh4{X:Cx}   {O:L2.St}{H:Hp}        (hx:C1 X E)(hst:JC X)(I:Inv X pz O H s)(Y:Cy X pz H C)(hC:∃m,s.heap.Ns C m)(nC:C∉Bg X.stack)
  (hb:benv.frame=X.env.frame) (h:Dg X.prog X.w X.stack H s (E O) e s'):wpAny (model X.prog X.w) X.A (noteFrame e benv) (λϊ s2=>compPost (model X.prog X.w) X.A X.xe use QQ acc C (.error e) s2) EE s':=by
 let(v,l,st,hv):=hst;let(a,U,H',B,rfl,os,bare,un,hok,kB,tB,Z,he):=h;have F :=st▸Z
 let(L,hL):∃L,v.frame=↑L:=by
  let(_,_,_,(_,(L,_,y,_),_),_):=F;exact{(L),y}
 refine Sw (st▸I.ok.frames) (hb.trans hv) hL F λh4 M sm=>?_;let(m,S,es,ep,G,dC,rC):=hC;have bC :=kB C S G Y.1 nC;let(f1,f2,f3,oe,ws,Q,oT,ts,ha,hcl,hd,g1,nT,A,hT,dT,g3):=M
 have r:∀{b },B.get? b=none->b≠C:=λz w=>by
  rw[w,bC]at z;cases z
 have key:∃m,h4.Ns C m/\∀h',Heap.SameBut C h4 h'->∀i ,i.locals=C->wpAny (model X.prog X.w) X.A (PySem.passOn "comprehension.variables-let-go" (.ref a) i:Sem Value) (λϊ ϊ=>False) X.xe { s' with heap:=h' }:=by
  refine{m,{S,es,ep,f1 C S bC,dC,rC},λh5 sb i ϊ=>?_};have p :=(sb.2 a<|r f2).trans ha;have J :=(sb.2 Q<|r nT).trans hT;unfold PySem.passOn;refine Â<|Ď p hd g1 ?_;rw[if_neg<|by simp]
  refine Â ?_;unfold setFlight;refine Â<|Ď p hd g1 ?_;rw[if_pos<|by simp]
  refine Ŝ J dT (İ.mp g3).1 (wpAny_throw ?_);generalize hfl:(i.frame.elim Value.none λf=>rawInt f)=fl;have D:=ő dT (·.setIfInBounds 3 fl);have K:=ŉ (Obj.mapFields (·.setIfInBounds 3 fl)) J<|Ū D;generalize N:h5.update Q (Obj.mapFields (·.setIfInBounds 3 fl))=h6 at K ⊢
  have t:∀b o,b≠C->b≠Q->h4.get? b=↑o->h6.get? b=↑o:=λb o n1 n2 e=>by
   rw[<- N,Ć _ _<|Ë n2];exact(sb.2 b n1).trans e
  have T :=λb o n e=>t b o n (λz=>by rw[z,nT]at e;cases e)<|f1 b o e
  have g:∀{b } {o },(W.hideAll s.heap [C]).get? b=↑o->s.heap.get? b=↑o/\b≠C:=λ{b o} e=>{Ĵ _ e,λz=>by
   rw[z,Ŭ [C]<|È.mpr rfl]at e;cases e}
  have j:∀{b } {o },b≠C->B.get? b=↑o->(W.hideAll B [C]).get? b=↑o:=λ{b o} n e=>Ġ _ e<|λz=>n<|È.mp z
  have k:∀{b },B.get? b=none->(W.hideAll B [C]).get? b=none:=λ{b} e=>by
   cases q:(W.hideAll B [C]).get? b with
   |none=>rfl|some o=>rw[Ĵ _ q]at e;cases e
  have IX :=II (t':=s.toks) I (λb o n e=>Ġ _ e n) λb z=>by
   rw[È.mp z];exact Y
  have slot:∀b o,s.heap.get? b=↑o->H b=none->b∈Bg X.stack->∃z,h6.get? b=↑{ o with slots:=z }:=λb o e n z=>by
   let(_,o2,P,d2):=I.stack.mem z;rw[e]at P;cases P;let(z2,e2):=un.slot b o e n z<|by simp
   let(z3,V):=sm b _ e2 d2;refine{z3,t b _ (λw=>nC<|w▸z) (λw=>?_) V};rw[w,hT]at V;cases V;exact d2 _ dT
  have HC :=un.free C S G Y.1<|by simp
  refine hx pz O H _ _ _ IX {a,U,H',W.hideAll B [C],rfl,os,bare,{λb o e n z ϊ=>?_,λb o e n z ϊ=>slot b o (g e).1 n z,λb o e n z=>un.free b o (g e).1 n z,λb o e ϊ=>?_,un.tups,un.frzs,un.tbls},?_,λb o e n z=>j (g e).2 (kB b o (g e).1 n z),λb o e z=>?_,{fl,λb o e=>?_,k f2,?_,?_},he};exact T b o (g e).2 (kB b o (g e).1 n z);by_cases z:b∈Bg X.stack;let(w,q):=slot b o (g e).1 (I.stkFree b z) z;exact{_,q};let(R,q):=tB b o (g e).1 z;exact{R,T b R (g e).2 q};intro b u e;refine(hok b u e).stay (λc x hc q=>j (λw=>?_) q) (λϊ q=>q) λϊ ϊ q=>q;rcases hc with y|y;rw[<- y,w,HC]at e;cases e;rw[w,HC]at y;cases y;let(R,q):=tB b o (g e).1 z;exact{R,j (g e).2 q};have e':=Ĵ _ e;refine T b o (λw=>?_) e';rw[w,Ŭ [C]<|È.mpr rfl]at e;cases e;rw[st];refine jP (λb o n e d=>{k n,o,t b o (r n) (λw=>?_) e,d}) f3;rw[w,hT]at e;cases e;exact d _ dT;refine{oe,ws,Q,_,_,?_,hcl,hd,g1,k nT,A,K,D,?_};rw[<- N,Ć _ _ A];exact p;simp[Array.getElem?_setIfInBounds,(İ.mp g3).1]
 cases use<;>exact key
structure TurnG(cq:Cx->Prop)(P:Program)(w:World)(K:q9)(tg:Expr)(Γ:It)(fp:List Addr)(it:Addr)(tn:Nat->Heap->Prop):Prop where
 obj:∀i h,tn i h->∀b∈fp,∃o,h.get? b=↑o/\∀v,o.data≠.cell v
 keep:∀i h h',tn i h->(∀b∈fp,∀o,h.get? b=↑o->h'.get? b=↑o)->tn i h'
 item:∀(X:Cx),X.prog=P->X.w=w->X.K=K->cq X->∀(i:Nat) (pz:List<|Addr×Obj) (s:Shared) (O:L2.St) (H:Hp) (E:Value->Shared->Prop),Inv X pz O H s->(∀b∈fp,Cy X pz H b)->tn i s.heap->Γ.go i H ->
  wpAny (model P w) X.A (pyNext<|.ref it) (λr s1=>∃u,r=↑u/\wpAny (model P w) X.A (letOwnedTupleGo tg (.ref it) u) (λϊ s2=>∃x H',Inv X pz O H' s2/\Ak x u/\Γ.yld i H x H'/\tn (i+1) s2.heap/\∀b∈fp,H' b=none) E s1) E s
 done:∀(X:Cx),X.prog=P->X.w=w->X.K=K->cq X->∀(i:Nat) (pz:List<|Addr×Obj) (s:Shared) (O:L2.St) (H:Hp) (E:Value->Shared->Prop),Inv X pz O H s->(∀b∈fp,Cy X pz H b)->tn i s.heap->Γ.stop i H ->
  wpAny (model P w) X.A (pyNext<|.ref it) (λr s1=>r=none/\Inv X pz O H s1) E s
 self:∀(A:Around) (i:Nat) (s:Shared) (Q:Value->Shared->Prop) (E:Value->Shared->Prop),tn i s.heap->Q (.ref it) s->wpAny (model P w) A (pyIter<|.ref it) Q E s
def PJ(cq:Cx->Prop)(X:Cx)(i a:Expr)(j:TI):Prop:=
 ∀(e:List<|Addr×Obj) (s:Shared) (O:L2.St) (H:Hp) (R:It->Hp->Prop),Inv X e O H s->j O H R ->
  wpAny (model X.prog X.w) X.A (eval a X.env) (λv h=>wpAny (model X.prog X.w) X.A (pyIter v) (λd g=>∃(it:Addr) (f:List Addr) (tn:Nat->Heap->Prop) (Γ:It) (c:Hp),d=.ref it/\Inv X e O c g/\TurnG cq X.prog X.w X.K i Γ f it tn/\tn 0 g.heap/\(∀b∈f,Cy X e c b)/\R Γ c) X.xe h) X.xe s
theorem ZJ(h:PI X tg iter wi):PJ (λX=>X.calm=true) X tg iter wi:=λb s O H R I q=>
 A5 (h b s O H R I q) λϊ ϊ a=>A5 a λ_ _ ⟨it,fp,tn,Γ,H',e,I2,T,r⟩=>{it,fp,tn,Γ,H',e,I2,{(T.obj),T.keep,T.item,T.done,T.self},r}
section
variable {X:Cx}{elt iter tg:Expr}{ifs:ku}{scope:Scope}{pos pos2:Pos}{cl:List<|Str×Addr}{N':ky}{wi:TI}{g:TG}{tt:TT}{te:TE}
def Mi(j:L2.St->L2.St)(o:TI)(g:TG)(m:TT)(l:TE):TE:=λO H Q=>o O H λΓ e=>∃(W:Nat->qE->L2.St->Hp->Prop) (n:Nat),n<=sizeLine/\W 0 [] (j O) e/\∀i b Y H,W i b Y H->b.length<=i/\i<=n /\
 ((Γ.stop i H/\∀p,H p=none->Q (.ref p) (upd H p<|.lst b))\/(i<n/\Γ.go i H/\∀x c,Γ.yld i H x c->g x Y c λa f=>m a f λk d=>if k=true then l a d λy h=>W (i+1) (b++[y]) a h else W (i+1) b a d))
def AC(X:Cx)(a:Scope)(b:ky)(E:L2.St->XK)(F:Cx->Prop):Prop:=∀cl C s₀ H₀ ex c,C1 (Du X a cl b C s₀ H₀ ex c) E->F (Du X a cl b C s₀ H₀ ex c)
structure BlkC(X:Cx)(scope:Scope)(N':ky)(O':L2.St->L2.St)(cl:List<|Str×Addr):Prop where
 clos:closureFor scope X.env=pure cl
 kind:scope.kind=.function
 names:∀y∈scope.names,y.2=.local->scope.names.lookup y.1=↑.local
 sub:∀y c,cl.lookup y=↑c->X.env.cells.lookup y=↑c
 has:∀y,(relabel scope X.env).names.lookup y=↑.cell\/(relabel scope X.env).names.lookup y=↑.free->(y,NameKind.cell)∈scope.names\/∃c,cl.lookup y=↑c
 cap:∀(O:L2.St) (i:Nat) (y:Str) (v:V),N'[i]?=↑y->(O' O)[i]?=↑↑v->(y,NameKind.cell)∉scope.names
 len:∀O:L2.St,O.length=X.N.length->(O' O).length=N'.length
 vis:∀(O:L2.St) (i:Nat) (y:Str) (v:V),N'[i]?=↑y->(O' O)[i]?=↑↑v->((relabel scope X.env).names.lookup y=↑.cell\/(relabel scope X.env).names.lookup y=↑.free)/\∃j:Nat,X.N[j]?=↑y/\O[j]?=↑↑v/\DN X.env.scope y/\X.env.kindOf y≠↑.local
set_option tactic.hygienic true in
def fB{O':L2.St->L2.St}(L:BlkC X scope N' O' cl){cq:Cx->Prop}(hc:∀Z O H s cl C ex xb,Inv X Z O H s->cq (Du X scope cl N' C s H ex xb))(hi:PJ cq X tg iter wi){E:L2.St->XK}(hps:C1 X E)(hst:JC X){O:L2.St}(hg:AC X scope N' (λϊ=>E O) λτ=>PG τ tg g/\IB τ ifs tt/\PE τ elt te)
  (hs:∀x,foldedSetIterable iter X.env x=pure x) {use:Option<|Value->Sem Unit} {Z:List<|Addr×Obj} {s:Shared} {H:Hp} {Q:VK} {QQ:Value->Shared->Prop} (I:Inv X Z O H s) (h:Mi O' wi g tt te O H Q)
  (hend:∀(D C:Addr) (s5:Shared) (H5:Hp),Inv X Z O H5 s5->Q (.ref D) H5->(∃m,s5.heap.Ns C m)->Cy X Z H5 C->compPost (model X.prog X.w) X.A X.xe use QQ (.ref D) C (.ok .next) s5) :
  wpAny (model X.prog X.w) X.A (comprehension (.ListComp elt [{tg,iter,ifs,0}] scope pos) scope X.env pos2 (newList []) false (eval iter X.env) use) QQ X.xe s:=by
 let(hclos,hkind,hnames,hcl,hhas,hcap,hσ,hvis):=L;refine wpAny_comprehension_free (use:=use) rfl hs hclos hkind hnames<|A5 (hi Z s O H _ I h) λv s1 h1=>A5 h1 λitv f h2=>?_
 let(it,G,tn,Γ,P,e,t,T,st2,f2,W,n,hn,w0,turn):=h2;subst e;refine wpAny_newObj_type<|zcw ?_;dsimp only;generalize hHp:f.heap.push { cls:=.type "list",dict:=none,data:=.seq ([]:ki).toArray }=P2;generalize N:cellsFrom (P2.objs.size+1) scope.names cl=cl';generalize hh1:pushCells (P2.push { cls:=.type "dict",data:=.dict #[] }) scope.names=h₁;have hC:P2.objs.size=f.heap.objs.size+1:=by rw[<- hHp,Ė]
 have hP3:(P2.push { cls:=.type "dict",data:=.dict #[] }).objs.size=P2.objs.size+1:=Ė ..;have hDC:f.heap.objs.size≠P2.objs.size:=by rw[hC];exact Ô<|ċ _
 have J:∀b,b<f.heap.objs.size->b≠P2.objs.size/\b≠f.heap.objs.size:=λb a=>{by rw[hC];exact Ô<|Ĥ a,Ô a}
 have V:∀b o,f.heap.get? b=↑o->h₁.get? b=↑o:=λb o e=>by
  rw[<- hh1];exact ŝ _ _ _ _<|Ó _<|hHp▸Ó _ e
 have hacc:h₁.PlainList f.heap.objs.size #[]:={_,by
  rw[<- hh1];exact ŝ _ _ _ _<|Ó _<|hHp▸â _ rfl}
 have hns₁:h₁.Ns P2.objs.size<|λϊ=>none:=by
  rw[<- hh1];exact(Heap.Ns.new P2<|.type "dict").keeps (ŝ _ _)
 have K:∀y c,cl'.lookup y=↑c->X.env.cells.lookup y=↑c\/(P2.objs.size<c/\h₁.IsCell c none/\(y,NameKind.cell)∈scope.names):=λy c e=>by
  rw[<- N,<- hP3]at e;rcases Ve _ _ _ y c e with q|⟨q1,q2,q3⟩;exact .inl<|hcl y c q
  rw[hP3]at q1;rw[hh1]at q2;exact .inr {(q1),q2,q3}
 have has':∀y,(y,NameKind.cell)∈scope.names\/(∃c,cl.lookup y=↑c)->∃c,cl'.lookup y=↑c:=λy hy=>by
  rw[<- N]
  have go:∀(names:List<|Str×NameKind) (n:Nat) (acc:List<|Str×Addr),((y,NameKind.cell)∈names\/∃c,acc.lookup y=↑c)->∃c,(cellsFrom n names acc).lookup y=↑c:=by
   intro names
   induction names with
   |nil=>
    intro n acc h;rcases h with h|h;cases h;exact h
   |cons x r ih=>
    let(m,k):=x;intro n acc h;unfold cellsFrom;split;refine ih _ _ ?_;by_cases hm:y=m;subst hm;exact .inr {n,by simp};rcases h with h|⟨c,h⟩;rcases Ñ.mp h with z|z;cases z;exact absurd rfl hm;exact .inl z;exact .inr {c,by rw[æ,beq_eq_false_iff_ne.mpr hm];exact h};rename_i hk;refine ih _ _ ?_;rcases h with h|h;rcases Ñ.mp h with z|z;cases z;exact absurd rfl hk;exact .inl z;exact .inr h
  exact go _ _ _ hy
 have fsub:∀b∈Bg X.stack,b∈X.env.locals::X.fs:=t.stkSub
 have fpfs:∀b∈G,b∉Bg X.stack:=λb a z=>by
  let(_,h2,h3,_):=f2 b a;rcases Ñ.mp (fsub b z) with q|q;exact h2 q;exact h3 q
 have F:∀b∈G,b<f.heap.objs.size:=λb a=>by
  let(o,e,_):=T.obj 0 _ st2 b a;exact Ç e
 have cold:∀y c,cl'.lookup y=↑c->c<f.heap.objs.size\/P2.objs.size<c:=λy c e=>by
  rcases K y c e with q|q;let(v,z):=t.cell y c q;exact .inl z.lt;exact .inr q.1
 have cneD:∀y c,cl'.lookup y=↑c->c≠f.heap.objs.size:=λy c e z=>by
  rcases cold y c e with q|q;rw[z]at q;exact ã _ q;rw[z,hC]at q;exact absurd q<|Nat.not_lt.mpr<|Ę _
 have cneF:∀b,b<f.heap.objs.size->(∀y c,X.env.cells.lookup y=↑c->c≠b)->∀y c,cl'.lookup y=↑c->c≠b:=λb a hx y c e z=>by
  rcases K y c e with q|q;exact hx y c q z;have:=q.1;rw[z,hC]at this;exact absurd (Ĩ a<|Nat.lt_of_succ_lt this)<|ã _
 have A:∀b,f.heap.objs.size<=b->P b=none:=λb a=>t.hok.fresh a;have CS:f.heap.objs.size<=P2.objs.size:=by rw[hC];exact Ę _
 let(xb,hxb):∃xb,xb=notedBy (model X.prog X.w) X.A (compEnvC scope cl' P2.objs.size X.env) λe s'=>compPost (model X.prog X.w) X.A X.xe use QQ (.ref f.heap.objs.size) P2.objs.size (.error e) s':={_,rfl}
 have hpb:C1 (Du X scope cl' N' P2.objs.size f P G xb)<|λϊ=>E O:=by
  subst hxb;intro pins4 σ4 H4 s4 e s' I4 hcx
  have IX:Inv X Z O H4 s4:=t.call' (s':=s4) (ch:=G) I4.os I4.base I4.hok I4.bare λb a=>by
   let(g1,g2,g3,g4,g5,g6):=f2 b a;exact{(g4),g2,g5,g6}
  let(m4,hm4,_):=I4.loc
  exact zh4 hps hst IX {I4.free,(t.fpOk (H':=P) CS<|A _ CS).2} {(m4),hm4} (λz=>by
   let(o,ho,_):=(t.stack.mem z).2;exact absurd (Ç ho)<|Nat.not_lt.mpr CS) rfl hcx
 let(hg,ht,he):=hg _ _ _ _ _ _ hpb
 have ok':(Du X scope cl' N' P2.objs.size f P G xb).Ok:=by
  refine{t.ok.mod,hkind,t.ok.glob,t.ok.blt,CS,?inj,λy hy=>has' y<|hhas y hy,?cab,t.ok.hd,t.ok.frames,.inl rfl,λb a=>{(J b<|F b a).1,cneF b (F b a) λy c e=>(f2 b a).2.2.2.2.1 y c e},
   λb o e=>t.bs b o e,Õ t.ok.bsz t.sz,λb o e a=>?_,λb a=>fpfs b a,t.stack,t.stkFree}
  case inj=>
   intro y z c h1 h2;have h1':(cellsFrom (P2.push { cls:=.type "dict",data:=.dict #[] }).objs.size scope.names cl).lookup y=↑c:=by rw[hP3,N];exact h1
   have h2':(cellsFrom (P2.push { cls:=.type "dict",data:=.dict #[] }).objs.size scope.names cl).lookup z=↑c:=by rw[hP3,N];exact h2
   refine Vf scope.names _ cl (λy z c g1 g2=>t.ok.inj y z c (hcl y c g1)<|hcl z c g2) (λy c g=>?_) y z c h1' h2';let(v,q):=t.cell y c<|hcl y c g;rw[hP3,hC];exact Ĥ<|Ĥ q.lt
  case cab=>
   intro y c hy e;have hy':scope.names.lookup y=↑.cell:=í hy;have e':(cellsFrom (P2.objs.size+1) scope.names cl).lookup y=↑c:=by rw[N];exact e
   exact Õ CS<|Õ (Ę _)<|Vd scope.names _ (P2.objs.size+1) cl y c (Ä _) (.inl<|ĉ hy') e'
  let(_,_,_,q,_):=f2 b a;rcases q with q|q;exact t.ok.noex b o e q;exact absurd (Û (Ç e)<|Õ t.ok.bsz q)<|ã _
 have I':Inv (Du X scope cl' N' P2.objs.size f P G xb) Z (O' O) P { f with heap:=h₁ }:=by
  refine{ok',rfl,t.bare,Un.kept V,{_,hns₁,λi y v h1 h2 h3=>?_},λy c e=>?_,A _ CS,?fc,λp hp=>?_,t.hok.kept V,hσ O t.len}
  case fc=>
   intro y c e;rcases K y c e with q|q;exact t.freeC y c q;exact A c<|Õ CS<|Ř q.1
  let(hk,j,h4,h5,h6,h7):=hvis O i y v h1 h2;have hno:=hcap O i y v h1 h2;let(m,hn',hl):=t.loc;let(u,r,l):=hl j y v h4 h5 h6;let(c,hcc):=has' y<|hhas y hk;refine{u,r,.inr {hk,c,hcc,?_}}
  rcases l with ⟨k1,_⟩|⟨_,c',e',z⟩;exact absurd k1 h7;rcases K y c hcc with w|w;rw[w]at e';cases e';let(o,ho,hd):=z;exact{o,V _ _ ho,hd}
  exact absurd w.2.2 hno;rcases K y c e with w|w;let(v,o,ho,hd):=t.cell y c w;exact{v,o,V _ _ ho,hd};exact{(none),w.2.1};let(M,e2,e3,e4,e5):=t.pin p hp;refine{V _ _ M,e2,(J _<|Ç M).1,λz=>?_,e5};rcases Ñ.mp (fsub _ z) with q|q;exact e3 q;exact e4 q
 have stat:∀{R:Hp},(∀b∈G,R b=none)->∀b∈G,Cy (Du X scope cl' N' P2.objs.size f P G xb) Z R b:=λhn' b a=>
  {hn' b a,(J b<|F b a).1,fpfs b a,.inl a,cneF b (F b a) λy c e=>(f2 b a).2.2.2.2.1 y c e,(f2 b a).2.2.2.2.2}
 have Dok:∀{R:Hp},R f.heap.objs.size=none->Cy (Du X scope cl' N' P2.objs.size f P G xb) Z R f.heap.objs.size:=λhn'=>
  {hn',hDC,(λz=>by
   let(o,ho,_):=(t.stack.mem z).2;exact absurd (Ç ho)<|ã _),.inr<|Ä _,cneD,λp hp z=>absurd (Ç (t.pin p hp).1) (by rw[z];exact ã _)}
 have loop:∀s3:Shared,s3={ f with heap:=h₁ } ->
   codeAny (model X.prog X.w) X.A (.compLoop (.ListComp elt [{tg,iter,ifs,0}] scope pos) 0 (.ref it) (.ref f.heap.objs.size)<|compEnvC scope cl' P2.objs.size X.env)
    (compPost (model X.prog X.w) X.A X.xe use QQ (.ref f.heap.objs.size) P2.objs.size) s3:=by
  rintro s3 rfl
  refine zfm hxb (λm s'=>∃i ys Y R,m=n - i/\Inv (Du X scope cl' N' P2.objs.size f P G xb) Z Y R s'/\tn i s'.heap/\(∀b∈G,R b=none)/\R f.heap.objs.size=none/\(∃U:ki,Al ys U/\s'.heap.PlainList f.heap.objs.size U.toArray)/\W i ys Y R)
   ?_ n {0,[],O' O,P,rfl,I',T.keep _ _ _ st2 λb ϊ o e=>V b o e,λb a=>(f2 b a).1,A _<|Ä _,{[],.nil,hacc},w0}
  rintro m s4 ⟨i,ys,Y,H4,rfl,I4,st4,fr4,S,⟨U,rv,hpl⟩,w4⟩;let(hly,hin,c):=turn i ys Y H4 w4
  have statp:∀{R:Hp},(∀b∈G,R b=none)->∀b∈G,Cy (Du X scope cl' N' P2.objs.size f P G xb) (Z++IT [f.heap.objs.size] s4.heap) R b:=λ{R} fr' b a=>by
    let(g1,g2,g3,g4,g5,g6):=stat fr' b a;refine{g1,g2,g3,g4,g5,λp hp z=>?_};rcases Ø.mp hp with y|y;exact g6 p (ù _ y) z;rcases Ø.mp y with y|y;exact g6 p (à _ y) z;let(hb',_):=Z7 y;rw[z,È]at hb';exact absurd (F b a) (by rw[hb'];exact ã _)
  rcases c with ⟨stop,q⟩|⟨hlt,go,step⟩
  .let(k,hDo):=hpl;have I4p:=I4.pinned (fp:=[f.heap.objs.size]) (λb a=>by rw[È.mp a];exact Dok S) (λb a=>by rw[È.mp a];exact{_,hDo,λv z=>(by cases z)})
   refine A5 (T.done (Du X scope cl' N' P2.objs.size f P G xb) rfl rfl rfl (hc _ _ _ _ _ _ _ _ t) i _ s4 Y H4 _ I4p (statp fr4) st4 stop) λr s5 zz=>?_;let(hr,I5):=zz;subst hr;have hD5 :=(I5.pin (f.heap.objs.size,_)<|à _<|à _<|Ib (È.mpr rfl) hDo).1;let(m5,hn5,_):=I5.loc;have fC:H4 P2.objs.size=none:=I5.free
   have U5:Un (Bg X.stack) G P (upd H4 f.heap.objs.size<|.lst ys) f.heap s5.heap:=by
    have B:=I5.base;refine{λb o M e2 e3 e4=>B.keep b o M e2 e3 e4,λb o M e2 e3 e4=>B.slot b o M e2 e3 e4,λb o M e2 e4=>?_,λb o M e4=>B.there b o M e4,λb xs M=>?_,λb o u M=>?_,λb ps M=>?_};rw[BF (J b<|Ç M).2];exact B.free b o M e2 e4;have q':=B.tups b xs M;rw[BF<|DB q' S];exact q';have q':=B.frzs b o u M;rw[BF<|DB q' S];exact q';let(more,q'):=B.tbls b ps M;exact{more,by rw[BF<|DB q' S];exact q'}
   have hzy:ys.length<=sizeLine:=Õ hly<|Õ hin hn;have HK:HOk X.prog X.w (upd H4 f.heap.objs.size<|.lst ys) s5.heap:=Zw.HOk.adopt I5.hok S {(hzy),U,k,rv,hD5};have os5:s5.os=f.os:=I5.os
   have IX:Inv X Z O (upd H4 f.heap.objs.size<|.lst ys) s5:=t.call' (s':=s5) (ch:=G) os5 U5 HK I5.bare (λb a=>by
    let(g1,g2,g3,g4,g5,g6):=f2 b a;exact{(g4),g2,g5,g6})
   refine hend f.heap.objs.size P2.objs.size s5 _ IX (q _ S) {(m5),hn5} ?_;have CL:f.heap.objs.size<=P2.objs.size:=CS;have fp0:Cy X Z P P2.objs.size:=t.fpOk CS<|A _ CS;exact{by rw[BF<|Ë hDC];exact fC,fp0.2}
  let(k,hDo):=hpl;have I4p:=I4.pinned (fp:=[f.heap.objs.size]) (λb a=>by rw[È.mp a];exact Dok S) (λb a=>by rw[È.mp a];exact{_,hDo,λv z=>(by cases z)})
  refine A5 (T.item (Du X scope cl' N' P2.objs.size f P G xb) rfl rfl rfl (hc _ _ _ _ _ _ _ _ t) i _ s4 Y H4 _ I4p (statp fr4) st4 go) λr s5 zz=>?_;let(u,hr,h5):=zz;subst hr;refine A5 h5 λϊ s6 zz=>?_;let(x,H6,I6,r6,y6,st6,fr6):=zz;have I6':=I6.pinned (statp fr6)<|T.obj _ _ st6;refine A5 (hg _ s6 Y H6 x u _ I6' r6<|step x H6 y6) λϊ s7 zz=>?_
  let(τ7,H7,I7,q7):=zz;refine A5 (ht _ s7 τ7 H7 _ I7 q7) λok s7b zz=>?_
  let(H7b,I7b,q7b):=zz;have BZ:∀{H8:Hp} {s8:Shared} {τ8:L2.St},Inv (Du X scope cl' N' P2.objs.size f P G xb) (Z++IT [f.heap.objs.size] s4.heap++IT G s6.heap) τ8 H8 s8->∀h9:Heap,(∀b o,b≠f.heap.objs.size->s8.heap.get? b=↑o->h9.get? b=↑o)->tn (i+1) h9/\∀b∈G,H8 b=none:=λ{H8 s8 τ8} I8 h9 sb=>by
   refine{T.keep _ _ _ st6 λb a o e=>?_,λb a=>?_};exact sb b o (J b<|F b a).2 (I8.pin (b,o)<|à _<|à _<|Ib a e).1;let(o,e,d):=T.obj _ _ st6 b a;exact(I8.pin (b,o)<|à _<|à _<|Ib a e).2.1
  cases ok with
  |false=>
   rw[if_neg<|by decide]at q7b ⊢;have hD8:=I7b.pin (f.heap.objs.size,_)<|à _<|ù _<|à _<|Ib (È.mpr rfl) hDo;let(t9,f9):=BZ I7b s7b.heap λb o ϊ e=>e
   exact{n - (i+1),by lia,i+1,ys,τ7,H7b,rfl,I7b.unpinned.unpinned,t9,f9,hD8.2.1,{(U),rv,k,hD8.1},q7b}
  |true=>
   rw[if_pos rfl]at q7b ⊢;refine A5 (he _ s7b τ7 H7b _ I7b q7b) λuy s8 zz=>?_;let(y,H8,I8,ry,w8):=zz;have hD8:=I8.pin (f.heap.objs.size,_)<|à _<|ù _<|à _<|Ib (È.mpr rfl) hDo;have P8:s8.heap.PlainList f.heap.objs.size U.toArray:={(k),hD8.1};have hlen:=rv.length;refine wpAny_list_append_plain P8 (λh' pl' sb=>?_) (by rw[ë,<- hlen];lia)
   have I8u :=I8.unpinned.unpinned;let(d1,d2,d3,d4,d5,d6):=Dok hD8.2.1;have I9 :=I8u.turned (t':=s8.toks) (λb o a e=>(sb.2 b a).trans e) d1 d2 d4 d5 d6
   let(t9,f9):=BZ I8 h' λb o a e=>(sb.2 b a).trans e;exact{n - (i+1),by lia,i+1,ys++[y],τ7,H8,rfl,I9,t9,f9,hD8.2.1,{U++[uy],rv.append<|.cons ry .nil,by simpa using pl'},w8}
 refine codeAny_compStart_list (loop _ rfl)<|T.self _ 0 _ _ _ (T.keep _ _ _ st2 λb ϊ o e=>V b o e)<|loop _ rfl
def zpl(L:BlkC X scope N' O' cl)(k:∀pz O H s cl C ex xb,Inv X pz O H s->cq (Du X scope cl N' C s H ex xb))(n:PJ cq X tg iter wi)(a:C1 X E)(c:JC X){O:L2.St}(l:AC X scope N' (λϊ=>E O) λτ=>PG τ tg g/\IB τ ifs tt/\PE τ elt te)
  (p:∀x,foldedSetIterable iter X.env x=pure x)   {H:Hp} {Q:VK} (I:Inv X pz O H s) (h:Mi O' wi g tt te O H Q) :
  wpAny (model X.prog X.w) X.A (eval (.ListComp elt [{tg,iter,ifs,0}] scope pos) X.env) (EP X pz O Q) X.xe s:=by
 refine fB L k n a c l p I h λD C t i j q ⟨m,hm⟩ f=>{m,hm,λr sb=>?_};exact{.ref D,i,II (ch:=[C]) j (λb o d e=>(sb.2 b<|λz=>d<|by simp[z]).trans e) (λb d=>by grind),rfl,q}
def zpm(L:BlkC X scope N' O' cl)(B:X.calm=true)(G:PI X tg iter wi)(l:C1 X E)(n:JC X)(F:AC X scope N' (λϊ=>E O) λτ=>PG τ tg g/\IB τ ifs tt/\PE τ elt te)
  (K:∀x,foldedSetIterable iter X.env x=pure x)   {H:Hp} {D:Ends} {i:Nat} {x:Str}  (y:X.N.Nodup) (k:X.N[i]?=↑x) (r:X.env.scope.names.lookup x=↑.local)
  (p:swapsWith (.ListComp elt [{tg,iter,ifs,0}] scope pos) (↑(.Name x pos')) pos2.line X.env=pure true)
  (I:Inv X pz O H s) (h:Mi O' wi g tt te O H λv H1=>D.nx (O.set i ↑v) H1) :
  wpAny (model X.prog X.w) X.A (exec (.Assign [.Name x pos'] (.ListComp elt [{tg,iter,ifs,0}] scope pos) pos2) X.env) (SP X pz D) X.xe s:=by
 rw[exec_Assign_Name_used _ _ _ _ p];refine Â<|ś<|Â ?_;refine Â<|ê (fB L (λϊ ϊ ϊ ϊ ϊ ϊ ϊ ϊ ϊ=>B) (ZJ G) l n F K I h λA C R t u M ⟨m,hm⟩ f=>?_) (λϊ Q J=>Ð<|Ð J) λϊ ϊ e=>e
 show wpAny _ X.A (assign (.Name x pos') X.env<|.ref A) _ _ _;refine wpAny_assign_Name<|YG u y k (.inl r) (v:=.ref A) rfl (λS w N=>?_)<|.inr r
 let(a,sb,d):=N;have c:C≠a:=by
  rcases d with rfl|d;exact f.2.1;exact λz=>f.2.2.2.2.1 x a d z.symm
 refine{m,hm.sameBut sb c,λP q=>{_,t,II (ch:=[C]) w (λb o j e=>(q.2 b<|λz=>j<|by simp[z]).trans e) (λb j=>by rw[È.mp j];exact f),M}}
end
structure RpO(K:q9)(F H:Hp)(l:qF)(xs:qE)(R:Nat->Rg):Prop where
 len:l.length=xs.length
 rep:∀(i:Nat) (t:T) (x:V),l[i]?=↑t->xs[i]?=↑x->Rp K F H t x (R i)
 dis:∀i j a,i≠j->R i a->¬ R j a
 out:∀i a,R i a->i<l.length
section
variable {K:q9}{F H F1 H1:Hp}{l:qF}{xs:qE}{R:Nat->Rg}{B:Rg}
theorem RpO.nil:RpO K F H [] []<|λϊ=>R0:={rfl,λi t x h=>by simp at h,λϊ ϊ ϊ ϊ z=>z.elim,λϊ ϊ z=>z.elim}
def RpO.dom(h:RpO K F H l xs R)(z:R i a):F a=none/\∃u,H a=↑u:=by
 have b:=h.out i a z;have c:i<xs.length:=by have:=h.len;lia
 exact(h.rep i _ _ (Á b)<|Á c).dom z
theorem RpO.ext(h:RpO K F H l xs R)(e:Ext F H F1 H1 B):RpO K F1 H1 l xs R:={h.len,λi t x a b=>(h.rep i t x a b).ext e,h.dis,h.out}
theorem RpO.apart(h:RpO K F H l xs R)(e:Ext F H F1 H1 B)(a:B b)(i):¬ R i b:=λz=>by
 let(f,u,q):=h.dom z;rw[e.nb b a]at q;cases q
def RpO.snoc(h:RpO K F H l xs R)   (r:Rp K F H t x B)(d:∀i a,R i a->¬ B a):RpO K F H (l++[t]) (xs++[x]) (λj=>if j=l.length then B else R j):=by
 have o:=h.len;refine{by simp[o],λi p q g k=>?_,λi j a e f c=>?_,λi a z=>?_};by_cases b:i=l.length;subst b;rw[if_pos rfl];have s:t=p:=by simpa using g
 have u:x=q:=by rw[o]at k;simpa using k
 subst s;subst u;exact r;rw[if_neg b]
 have n:i<l.length:=by
  have:=(É.mp g).1;simp at this;lia
 rw[ô n]at g;rw[ô<|by lia]at k;exact h.rep i p q g k;by_cases b:i=l.length;erw[b,Å]at f;have m:¬ j=l.length:=λz=>e<|b.trans z.symm
 erw[m,Ã]at c;exact d j a c f;erw[b,Ã]at f;by_cases m:j=l.length;erw[m,Å]at c;exact d i a f c;erw[m,Ã]at c;exact h.dis i j a e f c;by_cases b:i=l.length;simp[b];erw[b,Ã]at z;have:=h.out i a z;simp
 lia
def RpO.cons(h:RpO K F H l xs R)   (r:Rp K F H t x B)(d:∀i a,R i a->¬ B a):RpO K F H (t::l) (x::xs) (λj=>match j with|0=>B|j+1=>R j):=by
 refine{by simp[h.len],λi k m c e=>?_,λi j a b f g=>?_,λi a z=>?_};cases i with
 |zero=>simp at c e;subst c;subst e;exact r|succ i=>exact h.rep i k m (by simpa using c)<|by simpa using e
 cases i with
 |zero=>
  cases j with
  |zero=>exact b rfl|succ j=>exact d j a g f
 |succ i=>
  cases j with
  |zero=>exact d i a f g|succ j=>exact h.dis i j a (λz=>b<|by rw[z]) f g
 cases i with
 |zero=>simp|succ i=>have:=h.out i a z;simp;lia
def RpO.list(h:RpO K F H l xs R)(s:Ag F H)  (b:H p=none):Rp K F (upd H p<|.lst xs) (.own l) (.ref p) (λa=>a=p\/∃i,R i a)/\Ext F H F (upd H p<|.lst xs) (λa=>a=p):=by
 have e:=Ext.newO (o:=.lst xs) s b;have c:=h.ext e;exact{.own (k:=.lst) trivial R (IY s b) C2 h.len c.rep h.dis (λi z=>h.apart e rfl i z) h.out,e}
end
def AW(ma mk:AG):AG:=λY=>match ma Y with
 |some (.v t b)=>(match mk Y with
  |some (.v (.int i) ϊ)=>(match t with
   |.nd ϊ ϋ l=>(match Ar l i with
    |some c=>↑(.v c<|b && !c.sh)|none=>none)
   |.str z=>if z.length<=BI then (match Ar z.cps.toList i with
    |some c=>↑(.v (.str {#[c]}) false)|none=>none) else none
   |ϊ=>none)
  |some (.v ϊ ϋ)=>none|r=>r)
 |r=>r
def zmh{c:α}(e:l.length=m.length)(h:Ar l i=↑c):∃(j:Nat) (d:β),l[j]?=↑c/\m[j]?=↑d/\Ar m i=↑d:=by
 unfold Ar at h ⊢;rw[<- e];cases q:Bk l.length i with
 |none=>rw[q]at h;cases h|some j=>
  rw[q]at h;have a:l[j]?=↑c:=h
  have b:j<m.length:=by
   have:=(É.mp a).1;lia
  exact{j,m[j],a,Á b,Á b}
section
variable {K:q9}{F H:Hp}
def Rp.seq(s:Ag F H)(h:Rp K F H (.nd o k l) x A):∃p xs,x=.ref p/\(Ai K H p xs\/CJ K H p xs)/\l.length=xs.length/\∀(i:Nat) (t ) (x ),l[i]?=↑t->xs[i]?=↑x->∃B,(∀a,B a->A a)/\Rp K F H t x B:=by
 cases h with
 |@shr k p xs l h e c=>
  refine{p,xs,rfl,?_,e,λi t x b g=>{R0,λϊ z=>z.elim,c i t x b g}};cases k with
  |lst=>exact .inl (Ai.of<|s _ _ h)|rl=>exact .inl (s.seq h.l)|tup=>exact .inr (CJ.of<|s _ _ h)|rt=>exact .inr (HM s h)|pin q=>exact .inl<|Ai.of<|s _ _ h
 |@own j p xs l hk R f h e c d dp o=>
  refine{p,xs,rfl,?_,e,λi t x b g=>{R i,λa z=>.inr {(i),z},c i t x b g}};cases k with
  |tup=>exact .inr (CJ.of h)|_=>exact .inl<|Ai.of h
end
section
variable {X:Cx}{E:L2.St->XK}{ca:Str->Value}{O:L2.St}{H:Hp}{m ma mb mc:AG}{ms:BN}{K:q9}{a b c e:Expr}{es:ku}{pos:Pos}
def tM_ix(h:tM K E ca (AW ma mb) O H Q):JN (Yw K) (tM K E ca ma) (tM K E ca mb) O H Q:=by
 let(F,Y,R,S,q):=h;refine{F,Y,R,S,?_};unfold AW at q;cases X:ma Y with
 |none=>erw[X]at q<;>symm|some r=>
  erw[X]at q;cases r with
  |x c=>exact q|v t n=>
   intro F1 H1 x B J g1;have V:=S.ext J;refine{F1,Y,R,V,?_};cases hk:mb Y with
   |none=>erw[hk]at q<;>symm|some r=>
    erw[hk]at q;cases r with
    |x c=>exact λF' H' e=>q F' H' ((J.trans e).mono λϊ z=>z.elim)|v tk bk=>
     cases tk with
     |int i=>
      intro g m y C G g2
      have hy:y=.int i:=by
       cases bk with
       |true=>let(_,A,_,r):=g2;exact r.int_inv
       |false=>exact(g2).int_inv
      subst hy;have b :=(J.trans G).mono λϊ z=>.inl z
      have S2:=V.ext G;cases t with
      |nd o k l=>
       simp only at q;cases f:Ar l i with
       |none=>erw[f]at q<;>symm|some D=>
        erw[f]at q
        have node:∃w,(n=true->∀a,w a->tot R a)/\(n=false->∀a,w a->B a)/\Rp K g m (.nd o k l) x w:=by
         cases n with
         |true=>let(_,A,I,r):=g1;exact{A,λϊ=>I,(λz=>by cases z),r.ext G}
         |false=>exact{B,(λz=>by cases z),λϊ ϊ z=>z,(g1).ext G}
        let(w,L,M,rn):=node;let(p,xs,rfl,s,hl,u):=Rp.seq S2.fh rn;let(j,d,h1,h2,W):=zmh hl f;let(U,I,T):=u j D d h1 h2
        have Z :=by
         cases n with
         |false=>exact q g m d U (b.mono λa z=>M rfl a<|I a z) T|true=>
          cases N:D.sh with
          |true=>rw[N]at q;exact q g m d R0 (b.mono λϊ z=>z.elim) (T.move N<|.refl _)|false=>rw[N]at q;exact q g m d R0 (b.mono λϊ z=>z.elim) {rfl,U,λa z=>L rfl a<|I a z,T}
        rcases s with s|s;exact .inl {(p),xs,i,d,rfl,rfl,s,W,Z};exact .inr<|.inl {(p),xs,i,d,rfl,rfl,s,W,Z}
      |str z=>
       by_cases P:z.length<=BI;erw[P,Å]at q;cases f:Ar z.cps.toList i with
       |none=>erw[f]at q<;>symm|some D=>
        erw[f]at q
        have hx:x=.str z:=by
         cases n with
         |true=>let(_,A,_,r):=g1;exact r.str_inv
         |false=>exact(g1).str_inv
        subst hx;exact .inr<|.inr {z,i,D,rfl,rfl,by rw[<- GP];exact P,f,q g m _ R0 (b.mono λϊ z=>z.elim)<|.str _}
       erw[P,Ã]at q<;>symm
      |_=>symm
     |_=>symm
theorem r_ix(c:PE X a<|tM X.K E ca ma)(d:PE X b<|tM X.K E ca mb)(e:KU b):PE X (.Subscript a b pos)<|tM X.K E ca<|AW ma mb:=PE.weak (NH zq1 c d e) λO H Q h=>tM_ix h
def C9{α:Type}(l:List α)(a b:kj):List α:=(l.drop<|HT.sIx l.length 0 a).take (HT.sIx l.length l.length b - HT.sIx l.length 0 a)
def Et(m:Option<|AG):AM->Option (kj):=λY=>match m with
 |none=>↑none|some m=>match m Y with
  |some (.v (.int i) ϊ)=>↑↑i|ϊ=>none
def Dn(ma:AG)(d c:Option<|AG):AG:=λY=>match ma Y with
 |some (.v t false)=>(match Et d Y with
  |some b=>(match Et c Y with
   |some a=>(match t with
    |.nd ϊ .lst l=>↑(.v (.own<|C9 (BP l) b a) false)|.nd ϊ .rl l=>↑(.v (.own<|C9 (BP l) b a) false)|ϊ=>none)
   |none=>none)
  |none=>none)
 |some (.v ϊ true)=>none|r=>r
def HI(K:q9)(m:Option<|AG):TO:=λO H Q=>∃F Y R o,StR K F H O Y R/\Et m Y=↑o/\∀b a,Ext F H b a R0->Q o a
theorem r_po0:PO X none<|HI X.K none:=λa s O H Q I h=>by
 let(F,Y,R,o,S,e,q):=h;cases e;exact zkv a s O H Q I<|q F H<|Ext.refl S.fh
theorem Yk(j:PE X e<|tM X.K E ca m):PO X ↑e<|HI X.K ↑m:=λn s O H Q I h=>by
 let(F,Y,R,o,S,a,q):=h;refine zku j n s O H Q I {F,Y,R,S,?_};unfold Et at a;simp only at a;cases k:m Y with
 |none=>grind|some r=>
  rw[k]at a;cases r with
  |x c=>cases a|v v b=>
   cases v with
   |int i=>
    cases a;intro d f x B e g
    have l:x=.int i:=by
     cases b with
     |true=>let(_,A,_,r):=g;exact r.int_inv
     |false=>exact(g).int_inv
    exact{i,l,q d f<|e.mono λϊ z=>z.elim}
   |_=>cases a
set_option tactic.hygienic true in
def zjb(r:Am K F l xs)(lo hi):Am K F (C9 l lo hi)<|Lh xs lo hi:=by
 have d:=r.1;unfold C9 Lh;rw[d];refine{by simp[d],λi t x a b=>?_};rw[List.getElem?_take]at a b;split at a;rename_i c;rw[if_pos c,Ŕ]at b;rw[Ŕ]at a;exact r.2 _ t x a b;cases a
def Yj{lo hi}(ha:PE X a<|tM X.K E ca ma)(hl:PO X lo<|HI X.K ml)(hh:PO X hi<|HI X.K mh):PE X (.Subscript a (.Slice lo hi none p2) pos)<|tM X.K E ca<|Dn ma ml mh:=by
 refine PE.weak (ZK zk1 ha hl hh) λO H Q h=>?_;let(F,Y,R,S,q):=h;refine{F,Y,R,S,?_};unfold Dn at q;cases M:ma Y with
 |none=>erw[M]at q<;>symm|some r=>
  erw[M]at q;cases r with
  |x c=>exact q|v t V=>
   cases V with
   |true=>symm|false=>
    intro F1 H1 x B W g1;let(n,i,_,r1):=Dx.frz S W g1;have K:=S.ext i;simp only at q;cases G:Et ml Y with
    |none=>erw[G]at q<;>symm|some d=>
     erw[G]at q;refine{n,Y,R,d,K,G,λU H2 A=>?_};have L:=K.ext A;cases I:Et mh Y with
     |none=>erw[I]at q<;>symm|some b=>
      erw[I]at q;refine{U,Y,R,b,L,I,λs u D=>?_};have w:=L.ext D;have y:=i.trans0<|A.trans0 D;have P:Rp X.K s s t.share x R0:=(r1).frame (A.ff.trans D.ff) λϊ z=>z.elim
      have j:∀{o } {k } {l },t=.nd o k l->(k=.lst\/k=.rl)->(∀m f x B,Ext F H m f B->Rp X.K m f (.own<|C9 (BP l) d b) x B->Q x f)->Ys X.K x d b u Q:=by
       intro o k l Z hk qq;subst Z;rw[T.share]at P;let(p,xs,rfl,_,N,k3):=EU P
       have sq:Ai X.K u p xs:=by
        rcases hk with rfl|rfl;exact Ai.of<|w.fh _ _ N
        exact w.fh.seq N.l
       refine{p,xs,rfl,sq,λp' J=>?_};have gg:Dd X.K s u (.own<|C9 (BP l) d b) Q:=λm f z C e g=>qq m f z C (y.trans0 e) g;exact gg.list w.fh (zjb k3 d b) J
      cases t with
      |nd o k l=>
       cases k with
       |lst=>exact j rfl (.inl rfl) q|rl=>exact j rfl (.inr rfl) q|tup=>symm|rt=>symm|pin ϊ=>symm
      |_=>symm
def pMo(K:q9)(E:L2.St->XK)(ca:Str->Value)(O:L2.St)(Q:qE->Hp->Prop)(F H:Hp):Option RsL->Prop
 |some (.v e ϊ)=>∀b a xs (d:Nat->Rg),Ext F H b a (tot d)->RpO K b a e xs d->Q xs a|some (.x c)=>∀b a,Ext F H b a R0->XE (E O) ca c b a|none=>False
def K8(K:q9)(E:L2.St->XK)(ca:Str->Value)(m:BN):TA:=λO H Q=>∃F Y R,StR K F H O Y R/\pMo K E ca O Q F H (m Y)
def Ah(m:AG)(ms:BN):BN:=λY=>match m Y with
 |some (.v t false)=>(match ms Y with
  |some (.v a ϊ)=>↑(.v (t::a) false)|r=>r)
 |some (.v ϊ true)=>none|some (.x c)=>↑(.x c)|none=>none
theorem zny:PA X []<|K8 X.K E ca AE:=PA.weak GA λO H Q h=>by
 let(F,Y,R,S,q):=h;exact q F H [] (λϊ=>R0) ((Ext.refl S.fh).mono λa ⟨i,z⟩=>z.elim) .nil
def zkh(y:PE X e<|tM X.K E ca m)(A:PA X es<|K8 X.K E ca ms)(d:starEach (e::es) X.env=(false,eval e X.env)::starEach es X.env):PA X (e::es)<|K8 X.K E ca<|Ah m ms:=by
 refine PA.weak (FK y A d) λO H Q h=>?_;let(F,Y,R,S,q):=h;refine{F,Y,R,S,?_};unfold Ah at q;cases k:m Y with
 |none=>erw[k]at q<;>symm|some r=>
  erw[k]at q;cases r with
  |x c=>exact q|v t w=>
   cases w with
   |true=>symm|false=>
    intro n D x B f g1;have u:=S.ext f;refine{n,Y,R,u,?_};cases d:ms Y with
    |none=>erw[d]at q<;>symm|some r=>
     erw[d]at q;cases r with
     |x c=>exact λl p e=>q l p ((f.trans e).mono λϊ z=>z.elim)|v J I=>
      intro o s xs G g C;have b :=g1;refine q o s (x::xs) _ ((f.trans g).mono ?_)<|C.cons (b.ext g) λi a z=>?_
      rintro a ⟨j,z⟩;cases j with
      |zero=>exact .inl z|succ j=>exact .inr {(j),z}
      exact b.apart g {(i),z}
def BE(ms:BN):AG:=λY=>match ms Y with
 |some (.v a ϊ)=>if a.length<=BI then ↑(.v (.own a) false) else none
 |some (.x c)=>↑(.x c)|none=>none
def r_lst(h:PA X es<|K8 X.K E ca ms):PE X (.List es pos)<|tM X.K E ca<|BE ms:=by
 refine PE.weak (zop h) λO H Q h=>?_;let(F,Y,R,S,q):=h;refine{F,Y,R,S,?_};unfold BE at q;cases f:ms Y with
 |none=>erw[f]at q<;>symm|some r=>
  erw[f]at q;cases r with
  |x c=>exact q|v m b=>
   intro j n xs o e g;by_cases d:m.length<=BI;erw[d]at q;refine{by rw[<- g.len];exact d,λp l=>?_};let(r,k):=g.list e.fh l;refine q j _ _ _ ((e.trans k).mono ?_) r;rintro a (z|⟨i,z⟩);exact .inr z;exact .inl {(i),z};erw[d]at q<;>symm
def Bw(ms:BN):AG:=λY=>match ms Y with
 |some (.v a false)=>if a.length<=BI then ↑(.v (.tup a) false) else none
 |some (.v ϊ true)=>none|some (.x c)=>↑(.x c)|none=>none
def r_tup(h:PA X es<|CD X.K E ca ms):PE X (.Tuple es k pos)<|tM X.K E ca<|Bw ms:=by
 refine PE.weak (zol h) λO H Q h=>?_;let(F,Y,R,S,q):=h;refine{F,Y,R,S,?_};unfold Bw at q;cases f:ms Y with
 |none=>erw[f]at q<;>symm|some r=>
  erw[f]at q;cases r with
  |x c=>exact q|v i b=>
   cases b with
   |true=>symm|false=>
    intro l n xs d rs;by_cases a:i.length<=BI;erw[a]at q;refine{by rw[<- rs.1];exact a,λp s=>?_};have o:Dd X.K l n (.tup i) Q:=λj m z C e g=>q j m z C (d.trans0 e) g;exact o.tuple d.fh rs s;erw[a]at q<;>symm
theorem zo4{id}(d:CT X (.builtin id)<|Dh X.K g)(i:Gl X x)(j:X.mg x=none)(l:bootBuiltins x=↑(.builtin id))(c:PA X (e::es)<|CD X.K E ca ms)(k:x≠"__name__")(a:(x == "__debug__")=false)
  (f:starEach (e::es) X.env=(false,eval e X.env)::starEach es X.env) (b:(backTo pos<|starEach es X.env).any (·.1)=false):PE X (.Call (.Name x p) (e::es) [] pos)<|tM X.K E ca<|Bm g ms:=
 PE.weak (NJ d i j l c k a f b) λO H Q h=>IL h
theorem Yr(d:CT X (.type T')<|Dh X.K g)(i:Gl X x)(j:X.mg x=none)(l:bootBuiltins x=↑(.type T'))(c:PA X (e::es)<|CD X.K E ca ms)(k:x≠"__name__")(a:(x == "__debug__")=false)
  (f:starEach (e::es) X.env=(false,eval e X.env)::starEach es X.env) (b:(backTo pos<|starEach es X.env).any (·.1)=false):PE X (.Call (.Name x p) (e::es) [] pos)<|tM X.K E ca<|Bm g ms:=
 PE.weak (ZP d i j l c k a f b) λO H Q h=>IL h
end
def Bd:T->qB
 |.nd ϊ ϋ l=>↑(.int l.length)|.str z=>if z.length<=BI then ↑(.int z.length) else none
 |ϊ=>none
def Dt:T->qB
 |.nd ϊ ϋ l=>↑(.own l)|ϊ=>none
def Jy:T->qB
 |.int i=>↑(.int (if i<0 then -i else i))
 |ϊ=>none
def LB:T->T->qB
 |.int i,.int j=>↑(.int (if j<i then j else i))
 |ϊ,ϋ=>none
def N4:T->T->qB
 |.int i,.int j=>↑(.int (if j > i then j else i))
 |ϊ,ϋ=>none
def OC:qF->Option (kz)
 |[]=>↑[]|.int i::r=>(OC r).map (i::·)|ϊ=>none
def maxL(ns:kz):Int:=ns.getD (argBest (λi j=>decide (ns.getD i 0 > ns.getD j 0))<|ns.length - 1) 0
def L6:qF->qB
 |[.nd ϊ .lst l]=>(match OC l with
  |some (i::r)=>↑(.int<|maxL<|i::r)|ϊ=>none)
 |[t,u]=>N4 t u|ϊ=>none
def Fl:qF->Option (List Bool)
 |[]=>↑[]|.bl b::r=>(match Fl r with
  |some l=>↑(b::l)|none=>none)
 |ϊ::ϋ=>none
def Dw:T->qB
 |.nd ϊ .lst l=>(match Fl l with
  |some bs=>↑(.bl<|bs.all id)|none=>none)
 |ϊ=>none
def Hx:T->qB
 |.nd ϊ .lst l=>(match Fl l with
  |some bs=>↑(.bl<|bs.any id)|none=>none)
 |ϊ=>none
def Xj:Kd->Option String
 |.lst=>↑"list"|.tup=>↑"tuple"|.rl=>↑"list"|.rt=>none|.pin ϊ=>none
def Me:T->Option String
 |.non=>↑"NoneType"|.bl ϊ=>↑"bool"|.int ϊ=>↑"int"|.str ϊ=>↑"str"|.nd ϊ k ϋ=>Xj k|.dic ϊ ϋ=>↑"dict"|.pdc ϊ ϋ=>↑"dict"|.odc ϊ ϋ=>none|.obj ϊ ϋ=>none|.oob ϊ ϋ ό ύ=>none|.osd ϊ ϋ=>none
def JJ:List String:=["int","bool","str","list","tuple"]
def Mm(a c:String):Bool:=a == c || (a == "bool" && c == "int")
def Cv(c:String)(t:T):qB:=match Me t with
 |some a=>if c∈JJ then ↑(.bl<|Mm a c) else none
 |none=>none
def ze4:W.kitMeta "str"=true:=by decide +kernel
def zcx:W.kitMeta "list"=true:=by decide +kernel
def fH(K)(d:a∈["NoneType","bool","int","str","list","tuple","dict"])(b:c∈JJ):W.kitOne K (.type a) (.type c)=↑(Mm a c):=by
 have e:W.kitMeta c=true:=by
  erw[JJ,Ñ,đ,ě]at b;rcases b with rfl|rfl|rfl|rfl|rfl;exact ze5;exact zcy;exact ze4;exact zcx;exact zcg
 by_cases h:a=c;subst h;rw[zis];simp[Mm];refine zpt K (l:=[]) h e ?_;erw[JJ,Ñ,đ,ě]at b d;rcases d with rfl|rfl|rfl|rfl|rfl|rfl|rfl<;>rcases b with rfl|rfl|rfl|rfl|rfl<;>first|exact absurd rfl h|decide +kernel
section
variable {X:Cx}
set_option tactic.hygienic true in
def zhl:CT X (.builtin "len")<|Dh X.K<|g1 Bd:=by
 intro d s O H xs g Q I r h;let(F,l,v,fh,rs,e,q):=h;unfold g1 at e;split at e
 let(m,k,rfl,f,b):=rs.inv;cases b.inv0;unfold Bd at e;split at e;cases e;let(p,c,rfl,a,i,_):=Rp.seq fh<|f.any;refine kM d s O H _ g Q I r {_,c.length,rfl,?_,by rw[<- i];exact q.int fh}
 rcases a with a|a;exact .inl {(c),a,rfl};exact .inr {(c),a,rfl};split at e;cases e;rename_i j;rw[f.str_inv]at r;exact kM d s O H _ g Q I r {_,_,rfl,{by exact j,rfl},q.int fh};cases e;cases e;cases e
def zgb{K}(s:Ag F H)(h:G7 K F k p xs):Ai K H p xs\/CJ K H p xs:=by
 cases k with
 |lst=>exact .inl (Ai.of<|s _ _ h)|rl=>exact .inl (s.seq h.l)|tup=>exact .inr (CJ.of<|s _ _ h)|rt=>exact .inr (HM s h)|pin q=>exact .inl<|Ai.of<|s _ _ h
def kO:CT X (.type "list")<|Dh X.K<|g1 Dt:=by
 intro g s O H xs j Q I r h;let(F,n,v,fh,rs,e,q):=h;unfold g1 at e;split at e
 let(o,k,rfl,i,a):=rs.inv;cases a.inv0;unfold Dt at e;split at e;cases e;let(p,m,rfl,rfl,f,d):=EU i;have c :=zgb fh f;exact zdy g s O H _ j Q I r {p,m,rfl,c,λl b=>q.list fh d b}
 cases e;cases e
def zhp:CT X (.builtin "abs")<|Dh X.K<|g1 Jy:=by
 intro b s O H xs d Q I r h;let(F,g,v,fh,rs,e,q):=h;unfold g1 at e;split at e
 let(i,f,rfl,c,a):=rs.inv;cases a.inv0;unfold Jy at e;split at e;cases e;rw[c.int_inv]at r;exact zjl b s O H _ d Q I r {_,rfl,q.int fh};cases e;cases e
def kN{c:Int->Int->Int}(d:CT X (.builtin f) (λxs H Q=>∃i j,xs=[.int i,.int j]/\Q (.int<|c i j) H))(k:∀t u v,g t u=↑v->∃i j,t=.int i/\u=.int j/\v=.int (c i j)):CT X (.builtin f)<|Dh X.K<|g2 g:=by
 intro l s O H xs o Q I r h;let(F,x,v,fh,rs,e,q):=h;unfold g2 at e;split at e
 let(y,p,rfl,m,a):=rs.inv;let(x2,w,rfl,n,b):=a.inv;cases b.inv0;let(i,j,rfl,rfl,rfl):=k _ _ _ e;rw[m.int_inv,n.int_inv]at r;exact d l s O H _ o Q I r {_,_,rfl,q.int fh}
 cases e
theorem zhj(a:X.calm=true):CT X (.builtin "min")<|Dh X.K<|g2 LB:=kN (zhg a) λt u v h=>by
 unfold LB at h;split at h;cases h;exact{_,_,rfl,rfl,rfl};cases h
theorem zhk(a:X.calm=true):CT X (.builtin "max")<|Dh X.K<|g2 N4:=kN (zhh a) λt u v h=>by
 unfold N4 at h;split at h;cases h;exact{_,_,rfl,rfl,rfl};cases h
def fW:∀{l} {ns} {ys} {its},OC l=↑ns->Am X.K F l ys->Al ys its->∃xs:List (Int×Tok),its=xs.map (λp=>.int p.1 p.2)/\xs.map (·.1)=ns
 |[],ns,ys,its,h,r,a=>by
  cases h;cases r.inv0;cases a;simp
 |t::l,ns,ys,its,h,r,a=>by
  cases t with
  |int i=>
   let(ms,b,rfl):=Ú.mp h;let(x,f,rfl,c,d):=r.inv;rw[c.int_inv]at a;cases a with
   |cons e a=>let(tk,rfl):=e;let(xs,rfl,rfl):=fW b d a;exact{(i,tk)::xs,rfl,rfl}
  |_=>cases h
set_option tactic.hygienic true in
def zjm(c:X.calm=true):CT X (.builtin "max")<|Dh X.K L6:=by
 intro z s O H xs D Q I r h;let(F,L,v,fh,rs,e,q):=h;unfold L6 at e;split at e
 split at e;rename_i l i m g;cases e;let(M,E,rfl,A,b):=rs.inv;cases b.inv0;let(p,G,rfl,_,w,o):=EU A;let(u,rfl,B):=Fq r;cases B;let(n,C,y,K):=I.list (Ai.of (fh _ _ w):Ai X.K H p G);let(a,rfl,en):=fW g o C;have f:(a.map λp=>Value.int p.1 p.2).toArray=intItems a.toArray:=by simp[intItems]
 have d:a.length=(i::m).length:=by rw[<- en,À]
 have x:numAt a.toArray=λk=>(i::m).getD k 0:=funext λk=>by
  rw[<- en];simp[numAt]
 refine max_intList (I.ok.hd c) (f▸y.isList) (by rw[ë,d];simp) λv J tk j hk=>?_;let(t,rfl):=intItems_at j;rw[ë,d,x];exact{.int _,H,I.kept hk,{_,rfl},q.int fh};cases e;exact zhk c z s O H xs D Q I r {F,_,v,fh,rs,e,q};cases e
def kT:∀{l} {bs},Fl l=↑bs->l.length=bs.length/\∀(i:Nat) (t),l[i]?=↑t->∃b,bs[i]?=↑b/\t=.bl b
 |[],bs,h=>by cases h;exact{rfl,λi t e=>by simp at e}|t::r,bs,h=>by
  unfold Fl at h;cases t with
  |bl b=>
   simp only at h;cases a:Fl r with
   |none=>erw[a]at h;cases h|some l=>
    erw[a]at h;cases h;let(c,d):=kT a;refine{by simp[c],λi t e=>?_}
    cases i with
    |zero=>simp at e;exact{(b),rfl,e.symm}|succ i=>exact d i t<|by simpa using e
  |_=>cases h
def Yh{bs:List Bool}(h:∀(i:Nat) (b:Bool),bs[i]?=↑b->tr i=b):(List.range bs.length).all tr=bs.all id/\(List.range bs.length).any tr=bs.any id:=by
 have e:(List.range bs.length).map tr=bs:=by
  apply Ÿ;intro i;rw[Î];by_cases a:i<bs.length;rw[ů a,Á a];erw[Ċ];rw[h i _<|Á a];rw[ć (by simp;lia),ć<|by lia];rfl
 constructor;have:(List.range bs.length).all tr=((List.range bs.length).map tr).all id:=by rw[ř];rfl
 rw[this,e];have:(List.range bs.length).any tr=((List.range bs.length).map tr).any id:=by rw[List.any_map];rfl
 rw[this,e]
def X5(M:X.calm=true)   {O:L2.St}{H:Hp}{F:Hp}       (I:Inv X pz O H s)(fh:Ag F H)(T:Rp X.K F F (.nd o .lst l) (.ref p) R0)(L:Fl l=↑bs)
  (K : ∀ (I0 : Addr) (wr fp ) (St ) (PP ) (tr ) (s2 : Shared), Walks X.prog X.w X.A.in1 I0 fp wr bs.length PP St -> St 0 s2.heap -> TruthOf X.prog X.w X.A.in1 PP tr -> (∀ (i : Nat) (b : Bool), bs[i]? = ↑b -> tr i = b) ->
   (∀h' tk,(∀b o,b∉wr->s2.heap.get? b=↑o->h'.get? b=↑o)->Inv X pz O H { s2 with heap:=h',toks:=tk })->P (.ref I0) s2):wpAny (model X.prog X.w) X.A.in1 (pyIter<|.ref p) P E' s:=by
 let(Z,U,J,rfl,S,y):=EU T;cases J;let(f,c):=kT L;let(a,E,A,Y):=I.list<|Ai.of<|fh _ _ S;have N:=E.length
 have t :=Ô (by
  let(o,n,e,_):=A;exact Ç e)
 have hh:X.A.in1.handled=none:=I.ok.hd M
 have val:∀(i:Nat) (v ),a[i]?=↑v->∃b,bs[i]?=↑b/\v=.bool b:=λi v g=>by
  have r:i<U.length:=by
   have:=(É.mp g).1;lia
  have d:i<l.length:=by rw[y.1];exact r
  let(b,h,j):=c i _<|Á d;have C:=y.2 i _ _ (Á d)<|Á r;rw[j]at C;let(u,B,D):=E.get<|Á r;rw[g]at B;cases B;rw[C.bl_inv]at D;exact{(b),h,D}
 have q:a.toArray.size=bs.length:=by rw[ë,<- N,<- y.1,f]
 refine ż A.isList ?_;have W:=Walks.list (prog:=X.prog) (w:=X.w) hh s.heap.objs.size p t a.toArray;rw[q]at W;refine K s.heap.objs.size _ _ _ _ (λi=>bs.getD i false) _ W {{_,â _ rfl,rfl,rfl},?_} ?_ ?_ ?_
 let(o,Q,R):=A.isList;exact{o,Ó _ Q,R};intro i v s' V G g x;let(b,h,j):=val i v<|by simpa using g
 subst j;refine Ă ?_;have e:bs.getD i false=b:=by rw[Þ,h];rfl
 rw[<- e];exact x;intro i b m;show bs.getD i false=b;rw[Þ,m]
 rfl;intro h' tk k
 exact I.kept λb o e=>k b o (λz=>by
  rw[È]at z;exact absurd (Ç e) (by rw[z];exact ã _))<|Ó _ e
set_option tactic.hygienic true in
def zho(n:X.calm=true):CT X (.builtin "all")<|Dh X.K<|g1 Dw:=by
 intro x s O H xs A Q I r h;let(F,z,v,fh,rs,e,q):=h;unfold g1 at e;split at e
 let(B,w,rfl,g,c):=rs.inv;cases c.inv0;unfold Dw at e;split at e;split at e;cases e;rename_i bs a;let(p,rfl):=g.ref_inv;let(u,rfl,o):=Fq r;cases o;refine call_all_walk<|X5 n I fh g a λi t l St j tr y W d f b BZ=>{i,l,t,bs.length,j,St,tr,rfl,W,d,f,λm tk k=>?_}
 rw[(Yh b).1];exact{.bl _,H,BZ m tk k,rfl,q.bl fh};cases e;cases e;cases e
set_option tactic.hygienic true in
def zhn(n:X.calm=true):CT X (.builtin "any")<|Dh X.K<|g1 Hx:=by
 intro x s O H xs A Q I r h;let(F,z,v,fh,rs,e,q):=h;unfold g1 at e;split at e
 let(B,w,rfl,g,c):=rs.inv;cases c.inv0;unfold Hx at e;split at e;split at e;cases e;rename_i bs a;let(p,rfl):=g.ref_inv;let(u,rfl,o):=Fq r;cases o;refine call_any_walk<|X5 n I fh g a λi t l St j tr y W d f b BZ=>{i,l,t,bs.length,j,St,tr,rfl,W,d,f,λm tk k=>?_}
 rw[(Yh b).2];exact{.bl _,H,BZ m tk k,rfl,q.bl fh};cases e;cases e;cases e
def We(K:q9)(H:Hp)(x:V)(a:String):Prop:=(a="dict"/\∃p ob b,x=.ref p/\H p=↑(.frz ob<|.dK b))\/(a="list"/\∃p xs,x=.ref p/\Ai K H p xs)
def fS{O:L2.St}(I:Inv X pz O H s)(d:Ak x u)(ty:We X.K H x a)(e:W.kitOne X.K (.type a) c=↑b)(h:∀tk,Q (.bool b) { s with toks:=tk }) :
  wpAny (model X.prog X.w) A (call (.builtin "isinstance") [u,c]) Q E s:=by
 rcases ty with ⟨rfl,p,ob,t,rfl,i⟩|⟨rfl,p,xs,rfl,l⟩;cases d;let(_,_,_,C,_,q):=(I.hok p _ i);let(o,B,y,j,k,_):=q;exact î Ŷ I.kIn {(o),j,k.1} e (λz=>nomatch z) h
 cases d;let(m,r,(o,n,f,g,v,w),_):=I.list l;exact î ŵ I.kIn {(o),f,g} e (λz=>nomatch z) h
def Xi(fh:Ag F H)(r:Rp X.K F F t x R0)(h:Me t=↑a):(TyOf X.K H x (.type a)\/We X.K H x a)/\a∈["NoneType","bool","int","str","list","tuple","dict"]:=by
 cases t with
 |non=>cases h;rw[r.non_inv];exact{.inl .non,by simp}|bl b=>cases h;rw[r.bl_inv];exact{.inl<|.bl b,by simp}|int i=>cases h;rw[r.int_inv];exact{.inl<|.int i,by simp}|str y=>cases h;rw[r.str_inv];exact{.inl<|.str y,by simp}|nd o k l=>
  let(p,xs,rfl,_,n,_):=EU r;cases k with
  |lst=>cases h;exact{.inl<|.lst<|fh _ _ n,by simp}|tup=>cases h;exact{.inl<|.tup<|fh _ _ n,by simp}|rl=>cases h;exact{.inr<|.inr {rfl,p,xs,rfl,fh.seq<|HE.l n},by simp}|rt=>cases h|pin ϊ=>cases h
 |dic d l=>
  cases h;cases r with
  |dic h e f c=>exact{.inr<|.inl {rfl,_,_,_,rfl,fh _ _ h},by simp}
 |pdc d l=>
  cases h;cases r with
  |pdc h e f c=>exact{.inl<|.dK<|fh _ _ h,by simp}
 |odc d l=>cases h|obj k l=>cases h|oob p C fs l=>cases h|osd d l=>cases h
set_option tactic.hygienic true in
def zhm:CT X (.builtin "isinstance") (λxs H Q=>∃x,xs=[x,.ty c]/\Dh X.K (g1<|Cv c) [x] H Q):=by
 intro j s O H xs o Q I r h;let(x,rfl,F,t,v,fh,rs,e,q):=h;unfold g1 at e;split at e
 let(y,p,f,k,l):=rs.inv;cases f;unfold Cv at e;split at e;rename_i a g;split at e;cases e;rename_i b;let(ty,d):=Xi fh k g
 rcases ty with ty|i;exact zjj j s O H _ o Q I r {x,_,_,rfl,ty,fH X.K d b,q.bl fh};let(u,w,rfl,m,n):=IG r;cases n;exact fS I m i (fH X.K d b) λtk=>{.bl _,H,I.tok _,rfl,q.bl fh};cases e;cases e;cases e
def T.isN:T->Bool
 |.non=>true|ϊ=>false
def T.isB(b:Bool):T->Bool
 |.bl c=>c == b|ϊ=>false
def BB(a:Bool)(t u:T):qB:=match u with
 |.non=>↑(.bl<|a ^^ t.isN)|.bl b=>↑(.bl<|a ^^ t.isB b)|ϊ=>none
def j3{K}(r:Rp K F H t x A):decide (x=V.non)=t.isN:=by
 cases r<;>simp[T.isN]
def j4{K}(r:Rp K F H t x A):decide (x=V.bl b)=t.isB b:=by
 cases r<;>simp[T.isB];rfl
def zp2:As X (compareOp .Is)<|Bt X.K<|BB false:=by
 intro b s O H x y v u Q I f a h;let(F,g,i,r,fh,c,d,e,q):=h;unfold BB at e;split at e
 cases e;rw[d.non_inv]at a;refine zow b s O H _ _ v u Q I f a {rfl,?_};rw[j3 c];have:=q.bl fh
 simp_all;cases e;rw[d.bl_inv]at a;refine zox b s O H _ _ v u Q I f a {_,rfl,?_};rw[j4 c];have:=q.bl fh
 simp_all;cases e
def zg8:As X (compareOp .IsNot)<|Bt X.K<|BB true:=by
 intro b s O H x y v u Q I f a h;let(F,g,i,r,fh,c,d,e,q):=h;unfold BB at e;split at e
 cases e;rw[d.non_inv]at a;refine zl5 b s O H _ _ v u Q I f a {rfl,?_};rw[j3 c];have:=q.bl fh
 simp_all;cases e;rw[d.bl_inv]at a;refine zl6 b s O H _ _ v u Q I f a {_,rfl,?_};rw[j4 c];have:=q.bl fh
 simp_all;cases e
end
section
variable {X:Cx}{E:L2.St->XK}{ca:Str->Value}{O:L2.St}{H:Hp}{m ma mb mc:AG}{ms:BN}{K:q9}{a b c e:Expr}{es:ku}{pos p p2:Pos}
def r_isT{c}(l:bootBuiltins cn=↑(.type c))(i:Gl X "isinstance")(j:X.mg "isinstance"=none)(a:Gl X cn)(b:X.mg cn=none)(k:cn≠"__name__")(hd:(cn == "__debug__")=false)(g:PE X e<|tM X.K E ca m)(d:starEach [e,.Name cn p2] X.env=(false,eval e X.env)::starEach [.Name cn p2] X.env) :
  PE X (.Call (.Name "isinstance" p) [e,.Name cn p2] [] pos) (tM X.K E ca<|Bm (g1<|Cv c)<|AB m AE):=by
 refine PE.weak (NJ (zhm (c:=c)) i j PyProof.Rows.boot_isinstance (FK g (FK (Ρ (v:=.ty c) a b l rfl k hd) GA) d) (by decide) (by decide) d rfl) λO H Q h=>?_;exact(IK<|IL h).mono λx n f=>{x,rfl,IJ f}
set_option genInjectivity true in
inductive Ru where
 |ok (t:T)|exc (c:Str)
def Bp(K:q9)(ca:Str->Value)(g:qF->Option Ru):Sp:=λe H Q E=>∃F d,Ag F H/\Am K F d e/\match g d with
 |some (.ok v)=>Dd K F H v Q|some (.exc c)=>∀a b,Ext F H a b R0->XE E ca c a b|none=>False
def Lc:Bool->Str->Option Rs
 |false,c=>↑(.x c)|true,c=>(match Fz c with
  |none=>↑(.x c)|some ϊ=>none)
def AJ(g:qF->Option Ru)(ms:BN):AG:=λY=>match ms Y with
 |some (.v a b)=>(match g a with
  |some (.ok v)=>BZ b v|some (.exc c)=>Lc b c|none=>none)
 |some (.x c)=>↑(.x c)|none=>none
def kL(h:tM K E ca (AJ g ms) O H Q):Q4 (Bp K ca g) [] E (CD K E ca ms) O H Q:=by
 let(F,Y,R,S,q):=h;refine{F,Y,R,S,?_};unfold AJ at q;cases o:ms Y with
 |none=>erw[o]at q<;>symm|some r=>
  erw[o]at q;cases r with
  |x c=>exact q|v s b=>
   intro e u xs d rs;have w:=S.ext d;rw[è];refine{Gz b e u R,s,Us w,rs,?_};cases m:g s with
   |none=>erw[m]at q<;>symm|some r=>
    erw[m]at q;cases r with
    |exc c=>
     cases b with
     |false=>exact λk f a=>q k f (d.trans0 a)|true=>
      erw[Lc]at q;cases j:Fz c with
      |none=>rw[j]at q;exact λk f a=>(q e f<|d.grow a.hh).any j|some n=>rw[j]at q;symm
    |ok v=>
     intro t l z C a p;simp only at q;unfold BZ at q;cases b with
     |false=>exact q t l z C (d.trans0 a) p|true=>
      cases i:v.flat with
      |false=>rw[i]at q;cases q|true=>rw[i]at q;exact q e l z R0 (d.grow a.hh)<|p.flat_any i
theorem zo3(D:DefX X.prog X.w X.K X.mg X.base k x ps<|Bp X.K ca g)(i:Room j X.A)(l:C1 X E)(c:PA X (e::es)<|CD X.K E ca ms)(hk:k<=j)(f:Gl X x)(a:(x == "__debug__")=false)
  (d:starEach (e::es) X.env=(false,eval e X.env)::starEach es X.env) (b:(backTo pos<|starEach es X.env).any (·.1)=false):PE X (.Call (.Name x p) (e::es) [] pos)<|tM X.K E ca<|AJ g ms:=PE.weak (px D i l c hk f a d b) λϊ ϊ ϊ h=>kL h
end
def Am.app{K}{F}:∀{ts us} {xs ys},Am K F ts xs->Am K F us ys->Am K F (ts++us) (xs++ys)
 |[],us,xs,ys,h,r=>by
  rw[h.inv0];exact r
 |t::ts,us,xs,ys,h,r=>by
  let(x,c,rfl,a,b):=h.inv;exact .cons a<|Am.app b r
def gD(a:qF)(g:qF->Option Ru):qF->Option Ru:=λb=>g<|b++a
section
variable {X:Cx}{E:L2.St->XK}{ca:Str->Value}{ms:BN}{e:Expr}{es:ku}{p pos:Pos}
theorem zki(D:DefX X.prog X.w X.K X.mg X.base k x ps<|Bp X.K ca g)(d:DefsX X.K D.fd ps dvs)(b:∀F ,Am X.K F dts dvs)(m:Room j X.A)(n:C1 X E)(f:PA X (e::es)<|CD X.K E ca ms)(hk:k<=j)(l:Gl X x)(a:(x == "__debug__")=false)
  (i:starEach (e::es) X.env=(false,eval e X.env)::starEach es X.env) (c:(backTo pos<|starEach es X.env).any (·.1)=false):PE X (.Call (.Name x p) (e::es) [] pos)<|tM X.K E ca<|AJ (gD dts g) ms:=PE.weak (pxd D d m n f hk l a i c) λO H Q h=>(kL h).mono λt o ⟨F,ts,s,r,q⟩=>by
 rw[è]at r;exact{F,ts++dts,s,r.app<|b F,q}
end
def Gb(K:q9)(Γ:It)(F:Hp)(ts:qF):Prop:=∀(i:Nat) (d c:Hp),Ag F d->Ag d c ->
 (∀t,ts[i]?=↑t->Γ.go i c/\∀x a,Γ.yld i c x a->∃b,Ext d c b a R0/\Rp K b a t x R0)/\(i=ts.length->Γ.stop i c)
def pI(K:q9)(E:L2.St->XK)(ca:Str->Value)(O:L2.St)(P:It->Hp->Prop)(F H:Hp):Option RsL->Prop
 |some (.v d ϊ)=>∀a b Γ,Ext F H a b R0->Gb K Γ a d->P Γ b|some (.x c)=>∀a b,Ext F H a b R0->XE (E O) ca c a b|none=>False
def tI(K:q9)(E:L2.St->XK)(ca:Str->Value)(m:BN):TI:=λO H P=>∃F Y R,StR K F H O Y R/\pI K E ca O P F H (m Y)
def Jj:T->Bool
 |.nd ϊ .lst ϋ=>true|.nd ϊ .rl ϋ=>true|.nd ϊ (.pin ϋ) ό=>true|ϊ=>false
def Jl(m:AG):BN:=λY=>match m Y with
 |some (.v (.nd ϊ k l) false)=>↑(.v (BP l) false)|some (.x c)=>↑(.x c)|ϊ=>none
def FG(a:Int)(n:Nat):qF:=(List.range n).map λ(i:Nat)=>.int<|a+(i:Int)
def Cg(j:Int):Bool:=@decide (-(2 ^ 62)<=j/\j<2 ^ 62) (Classical.propDecidable _)
def Ox:qF->kj
 |[.int j]=>↑j|ϊ=>none
def Ow:qF->Option (Int×Int)
 |[.int i,.int j]=>↑(i,j)|ϊ=>none
def Cw(ms:BN):BN:=λY=>match ms Y with
 |some (.v a ϊ)=>(match Ox a with
  |some j=>if Cg j then ↑(.v (FG 0 j.toNat) false) else none
  |none=>none)
 |r=>r
def Ie(ms:BN):BN:=λY=>match ms Y with
 |some (.v a ϊ)=>(match Ow a with
  |some (i,j)=>if Cg i && Cg j then ↑(.v (FG i (j - i).toNat) false) else none
  |none=>none)
 |r=>r
def Eg:Nat->qF->qF
 |ϊ,[]=>[]|i,t::r=>.tup [.int (i:Int),t]::Eg (i+1) r
def Ir:qF->Option (qF)
 |[.nd o k l]=>if Jj (.nd o k l) then ↑l else none
 |ϊ=>none
def Ov:qF->Option (qF×qF)
 |[.nd o k l,.nd b a m]=>if Jj (.nd o k l) && Jj (.nd b a m) then ↑(l,m) else none
 |ϊ=>none
def C6(ms:BN):BN:=λY=>match ms Y with
 |some (.v a false)=>(match Ir a with
  |some l=>↑(.v (Eg 0 l) false)|none=>none)
 |some (.v ϊ true)=>none|r=>r
def ID(l m:qF):qF:=List.zipWith (λa b=>T.tup [a,b]) l m
def Gs(ms:BN):BN:=λY=>match ms Y with
 |some (.v a false)=>(match Ov a with
  |some (l,m)=>↑(.v (ID l m) false)|none=>none)
 |some (.v ϊ true)=>none|r=>r
def jU:∀(l) (n i),(Eg n l)[i]?=(l[i]?).map λt=>T.tup [.int (n+i:Nat),t]
 |[],n,i=>by rfl|t::r,n,i=>by
  cases i with
  |zero=>rfl|succ i=>
   erw[Eg,ł];rw[jU r (n+1) i];grind
def zdk(l):∀n,(Eg n l).length=l.length:=by
 induction l with
 |nil=>intro n;rfl|cons t r a=>simp[Eg,a]
section
variable {X:Cx}{E:L2.St->XK}{ca:Str->Value}{O:L2.St}{H:Hp}{m ma mb mc:AG}{ms:BN}{K:q9}{a b c e tg:Expr}{es elts:ku}{pos p tpos:Pos}{kk:Nat}
def Uh{p}(n:∀F' H' ,Ag F F'->Ag F' H'->Ai K H' p xs)(r:Am K F l xs):Gb K (Ww K p) F l:=by
 intro i F' H' b c;have sq:=n F' H' b c;refine{λt a=>?_,λe=>{xs,sq,by rw[e,r.1];simp}}
 have f:i<xs.length:=by
  have:=(É.mp a).1;have:=r.1
  lia
 refine{{xs,xs[i],sq,Á f},λx d y=>?_};let(rfl,y):=y;have g:=y xs sq;exact{F',Ext.refl c,((r.same b).2 i t x a g).any}
def fP{p}(n:∀F' H' ,Ag F F'->Ag F' H'->CJ K H' p xs)(r:Am K F l xs):Gb K (Wv K p) F l:=by
 intro i F' H' b c;have sq:=n F' H' b c;refine{λt a=>?_,λe=>{xs,sq,by rw[e,r.1];simp}}
 have f:i<xs.length:=by
  have:=(É.mp a).1;have:=r.1
  lia
 refine{{xs,xs[i],sq,Á f},λx d y=>?_};let(rfl,y):=y;have g:=y xs sq;exact{F',Ext.refl c,((r.same b).2 i t x a g).any}
def fQ{lo}:Gb K (MS lo n) F<|FG lo n:=by
 intro i d l m k;refine{λt b=>?_,λe=>?_};unfold FG at b;rw[Î]at b;let(j,a,g):=Ú.mp b
 have c:i<n:=by
  have:=(É.mp a).1;simpa using this
 have h:i=j:=by rw[ů c]at a;exact Ù a
 subst h;subst g;refine{c,λx f y=>?_};let(rfl,rfl):=y;exact{d,Ext.refl k,.int _};have:n<=i:=by rw[e];simp[FG]
 exact this
def zit{p}(n:∀F' H' ,Ag F F'->Ag F' H'->Ai K H' p xs)(r:Am K F l xs):Gb K (Wx K k p) F<|Eg k l:=by
 intro i F' H' c d;have sq:=n F' H' c d;refine{λt b=>?_,λe=>{xs,sq,by rw[e,zdk,r.1];simp}}
 rw[jU]at b;let(s,a,rfl):=Ú.mp b
 have h:i<xs.length:=by
  have:=(É.mp a).1;have:=r.1
  lia
 refine{{xs,xs[i],sq,Á h},λx g y=>?_};let(q,f,rfl,j,rfl,y):=y;have m:=y xs sq;have e:=Ext.new (o:=.tup [.int<|k+i,f]) d j;refine{_,e,Am.of_node C2 ?_};exact .cons (H:=H') (.int _)<|.cons (H:=H') (((r.same<|c.trans e.ff).2 i s f a m).any) .nil
def zlu{p p2}(n:∀F' H' ,Ag F F'->Ag F' H'->Ai K H' p xs)(n2:∀F' H' ,Ag F F'->Ag F' H'->Ai K H' p2 ys)(r:Am K F l xs)(j:Am K F l2 ys):Gb K (Wt K p p2) F<|ID l l2:=by
 intro i F' H' d h;have sq:=n F' H' d h;have b:=n2 F' H' d h;have l1:=r.1;have A:=j.1;refine{λt a=>?_,λe=>{xs,ys,sq,b,?_}}
 unfold ID at a;rw[List.getElem?_zipWith]at a;cases c:l[i]? with
 |none=>rw[c]at a;cases a|some B=>
  cases f:l2[i]? with
  |none=>rw[c,f]at a;cases a|some C=>
   rw[c,f]at a;cases a;have s:i<xs.length:=by have:=(É.mp c).1;lia
   have g:i<ys.length:=by grind
   refine{{xs,xs[i],ys,ys[i],sq,Á s,b,Á g},λx m y=>?_};let(q,k,z0,rfl,u,rfl,y,z):=y;have v:=y xs sq;have w:=z ys b;have e:=Ext.new (o:=.tup [k,z0]) h u;refine{_,e,Am.of_node C2 ?_};exact .cons (H:=H') (((r.same<|d.trans e.ff).2 i B k c v).any)<|.cons (H:=H') (((j.same<|d.trans e.ff).2 i C z0 f w).any) .nil
 have:i=min l.length l2.length:=by rw[e];simp[ID]
 lia
theorem PI.weak(h:PI X tg e t)(w:∀O H P,t' O H P->t O H P):PI X tg e t':=λa s O H P I q=>h a s O H P I<|w O H P q
theorem PI.or(h:PI X tg e t)(b:PI X tg e t'):PI X tg e<|λO H P=>t O H P\/t' O H P:=λa s O H P I q=>q.elim (h a s O H P I)<|b a s O H P I
def Yn(A:PE X e<|tM X.K E ca m):PI X tg e<|tI X.K E ca<|Jl m:=by
 refine PI.weak (PI.or (zkx A)<|zog A) λO H P h=>?_;let(F,Y,R,S,q):=h;unfold Jl at q
 have j:∀{o } {k } {l },m Y=↑(.v (.nd o k l) false)->(∀w y Γ,Ext F H w y R0->Gb X.K Γ w (BP l)->P Γ y)->∀g a x B,Ext F H g a B->Dx X.K g a R (.nd o k l) false x B->∃(d:Hp) (p:Addr) (xs:qE),x=.ref p/\Ext F H d a R0/\G7 X.K d k p xs/\Am X.K d (BP l) xs:=by
  intro o k l f q g a x B i g1;let(d,b,_,D):=Dx.frz S i g1;have z :=D;rw[T.share]at z;let(p,xs,rfl,_,n,kd):=EU z;exact{(d),p,xs,rfl,b,n,kd}
 cases f:m Y with
 |none=>erw[f]at q<;>symm|some r=>
  erw[f]at q;cases r with
  |x c=>exact .inl {F,Y,R,S,by rw[f];exact q}|v t C=>
   cases t with
   |nd o k l=>
    cases C with
    |true=>symm|false=>
     simp only at q;cases k with
     |lst=>refine .inl {F,Y,R,S,?_};rw[f];intro g a x B i g1;let(d,p,xs,rfl,b,n,kd):=j f q g a x B i g1;exact{p,rfl,{xs,Ai.of<|b.fh _ _ n},q d a _ b<|Uh (λw y s u=>Ai.of<|u _ _<|s _ _ n) kd}
     |pin ϊ=>refine .inl {F,Y,R,S,?_};rw[f];intro g a x B i g1;let(d,p,xs,rfl,b,n,kd):=j f q g a x B i g1;exact{p,rfl,{xs,Ai.of<|b.fh _ _ n},q d a _ b<|Uh (λw y s u=>Ai.of<|u _ _<|s _ _ n) kd}
     |rl=>refine .inl {F,Y,R,S,?_};rw[f];intro g a x B i g1;let(d,p,xs,rfl,b,n,kd):=j f q g a x B i g1;exact{p,rfl,{xs,b.fh.seq n.l},q d a _ b<|Uh (λw y s u=>u.seq<|s.seq n.l) kd}
     |tup=>refine .inr {F,Y,R,S,?_};rw[f];intro g a x B i g1;let(d,p,xs,rfl,b,n,kd):=j f q g a x B i g1;exact{p,rfl,{xs,CJ.of<|b.fh _ _ n},q d a _ b<|fP (λw y s u=>CJ.of<|u _ _<|s _ _ n) kd}
     |rt=>refine .inr {F,Y,R,S,?_};rw[f];intro g a x B i g1;let(d,p,xs,rfl,b,n,kd):=j f q g a x B i g1;exact{p,rfl,{xs,HM b.fh n},q d a _ b<|fP (λw y s u=>HM u<|HM s n) kd}
   |_=>symm
def K9{f:(BN)->BN}   (i:∀Y c,ms Y=↑(.x c)->f ms Y=↑(.x c))(d:∀Y,ms Y=none->f ms Y=none)
  (g : ∀ F Y R ts b, StR K F H O Y R -> ms Y = ↑(.v ts b) -> (match f ms Y with
   |some (.v us ϊ)=>∀F' H' Γ,Ext F H F' H' R0->Gb K Γ F' us->P Γ H'|some (.x c)=>∀F' H',Ext F H F' H' R0->XE (E O) ca c F' H'|none=>False)->∀F' H' xs,Ext F H F' H' R0->Am K (Gz b F' H' R) ts xs->W xs H') (h:tI K E ca (f ms) O H P):CD K E ca ms O H W:=by
 let(F,Y,R,S,q):=h;refine{F,Y,R,S,?_};cases a:ms Y with
 |none=>rw[d Y a]at q;symm|some r=>
  cases r with
  |x c=>rw[i Y c a]at q;exact q|v ts b=>exact λF' H' xs e rs=>g F Y R ts b S a q F' H' xs e rs
def So(h:Cg j=true):-(2 ^ 62)<=j/\j<2 ^ 62:=@of_decide_eq_true _ (Classical.propDecidable _) h
def zi7(o:Gl X "range")(r:X.mg "range"=none)(n:PA X [a]<|CD X.K E ca ms)(s:starEach [a] X.env=[(false,eval a X.env)]):PI X tg (.Call (.Name "range" p) [a] [] pos)<|tI X.K E ca<|Cw ms:=by
 refine PI.weak (zg5 o r n s) λO H P h=>?_;refine K9 (f:=Cw) (λY c e=>by unfold Cw;rw[e]) (λY e=>by unfold Cw;rw[e]) (λF Y R u b S e q k l xs m rs=>?_) h;unfold Cw at q;rw[e]at q;simp only at q;cases d:Ox u with
 |none=>erw[d]at q<;>symm|some j=>
  erw[d]at q;by_cases g:Cg j=true;erw[g,Å]at q;let(g1,g2):=So g;unfold Ox at d;split at d
  cases d;let(w,v,rfl,t,i):=rs.inv;cases i.inv0;rw[t.int_inv];exact{j,rfl,g1,g2,q k l _ m fQ}
  cases d;erw[g]at q;symm
def zi6(u:Gl X "range")(v:X.mg "range"=none)(t:PA X [a,b]<|CD X.K E ca ms)(w:starEach [a,b] X.env=[(false,eval a X.env),(false,eval b X.env)])(g:starEach [b] X.env=[(false,eval b X.env)]):PI X tg (.Call (.Name "range" p) [a,b] [] pos)<|tI X.K E ca<|Ie ms:=by
 refine PI.weak (zg4 u v t w g) λO H P h=>?_;refine K9 (λY c e=>by unfold Ie;rw[e]) (λY e=>by unfold Ie;rw[e]) (λF Y R A b S e q m n xs o rs=>?_) h;unfold Ie at q;rw[e]at q;simp only at q;cases d:Ow A with
 |none=>erw[d]at q<;>symm|some x=>
  let(i,j):=x;erw[d]at q;by_cases f:(Cg i && Cg j)=true;erw[f,Å]at q;rw[Æ]at f;let(g1,g2):=So f.1;let(r,s):=So f.2;unfold Ow at d;split at d
  cases d;let(D,B,rfl,y,k):=rs.inv;let(x2,C,rfl,z,l):=k.inv;cases l.inv0;rw[y.int_inv,z.int_inv];exact{i,j,rfl,{(g1),g2,r,s},q m n _ o fQ}
  cases d;erw[f]at q;symm
def LW(h:Jj (.nd o k l)=true)(r:Rp K F F (.nd o k l) x R0):∃p xs,x=.ref p/\(∀F' H' ,Ag F F'->Ag F' H'->Ai K H' p xs)/\Am K F l xs:=by
 let(p,xs,rfl,_,n,kd):=EU r;refine{p,xs,rfl,λF' H' a b=>?_,kd};cases k with
 |lst=>exact Ai.of (b _ _<|a _ _ n)|rl=>exact b.seq (a.seq n.l)|tup=>cases h|rt=>cases h|pin q=>exact Ai.of<|b _ _<|a _ _ n
set_option tactic.hygienic true in
def Yo(o:Gl X "enumerate")(r:X.mg "enumerate"=none)(n:PA X [a]<|CD X.K E ca ms)(s:starEach [a] X.env=[(false,eval a X.env)]):PI X (.Tuple elts kk tpos) (.Call (.Name "enumerate" p) [a] [] pos)<|tI X.K E ca<|C6 ms:=by
 refine PI.weak (zky o r n s) λO H P h=>?_;refine K9 (f:=C6) (λY c e=>by unfold C6;rw[e]) (λY e=>by unfold C6;rw[e]) (λF Y R v b S e q i j xs k rs=>?_) h;unfold C6 at q;rw[e]at q;cases b with
 |true=>symm|false=>
  simp only at q;cases d:Ir v with
  |none=>erw[d]at q<;>symm|some l=>
   erw[d]at q;unfold Ir at d;split at d;split at d;cases d;rename_i m;let(y,w,rfl,u,g):=rs.inv;cases g.inv0;let(t,x,rfl,sq,kd):=LW m u;exact{t,rfl,{x,sq i j (.refl _) k.fh},q i j _ k<|zit sq kd}
   cases d;cases d
set_option tactic.hygienic true in
def r_zip(t:Gl X "zip")(u:X.mg "zip"=none)(s:PA X [a,b]<|CD X.K E ca ms)(v:starEach [a,b] X.env=[(false,eval a X.env),(false,eval b X.env)])(m:starEach [b] X.env=[(false,eval b X.env)]):PI X (.Tuple elts kk tpos) (.Call (.Name "zip" p) [a,b] [] pos)<|tI X.K E ca<|Gs ms:=by
 refine PI.weak (zof t u s v m) λO H P h=>?_;refine K9 (λY c e=>by unfold Gs;rw[e]) (λY e=>by unfold Gs;rw[e]) (λF Y R B b S e q g i xs j rs=>?_) h;unfold Gs at q;rw[e]at q;cases b with
 |true=>symm|false=>
  simp only at q;cases d:Ov B with
  |none=>erw[d]at q<;>symm|some w=>
   let(l,J):=w;erw[d]at q;unfold Ov at d;split at d;split at d;cases d;rename_i k;rw[Æ]at k;let(K,C,rfl,z,o):=rs.inv;let(x2,D,rfl,A,r):=o.inv;cases r.inv0;let(x,G,rfl,sq,kd):=LW k.1 z;let(y,I,rfl,f,n):=LW k.2 A;exact{x,y,rfl,{G,sq g i (.refl _) j.fh},{I,f g i (.refl _) j.fh},q g i _ j<|zlu sq f kd n}
   cases d;cases d
end
def StR.set{K}(S:StR K F H O Y R)(r:Rp K F H t x A)(d:∀j a,j≠i->R j a->¬ A a)(l:i<Y.length) :
  StR K F H (O.set i ↑x) (Y.set i ↑t) (λj=>if j=i then A else R j):=by
 have n:=S.len;refine{S.fh,by simp[n],λj h e=>?_,λj a z=>?_,λj k a f g c=>?_};by_cases b:j=i;subst b;rw[å l]at e;cases e;exact{x,å (by lia),by simpa using r};rw[á<|Ë b]at e ⊢;let(y,m,o):=S.rep j h e;exact{y,m,by simpa[b] using o}
 by_cases b:j=i;subst b;exact{t,å l};erw[b,Ã]at z;let(h,e):=S.out j a z;exact{h,by rw[á<|Ë b];exact e}
 by_cases b:j=i;erw[b,Å]at g;have hk:¬ k=i:=λz=>f<|b.trans z.symm
 erw[hk,Ã]at c;exact d k a hk c g;erw[b,Ã]at g;by_cases hk:k=i;erw[hk,Å]at c;exact d j a b g c;erw[hk,Ã]at c;exact S.dis j k a f g c
def El(K:q9)(b:T->AM->Option AM):TG:=λv O H Q=>∃F Y R t e,StR K F H O Y R/\Rp K F H t v R0/\b t Y=↑e/\∀c d,StR K F H c e d->(∀i a,d i a->R i a)->Q c H
def IM(K:q9)(b:qF->AM->Option AM):Jz:=λg O H Q=>∃F Y R f e,StR K F H O Y R/\Am K F f g/\b f Y=↑e/\∀c d,StR K F H c e d->(∀i a,d i a->R i a)->Q c H
def AD(i:Nat):T->AM->Option AM:=λt Y=>if i<Y.length then ↑(Y.set i ↑t) else none
def BA:qF->AM->Option AM
 |[],Y=>↑Y|ϊ::ϋ,ό=>none
def AQ(b:T->AM->Option AM)(bs:qF->AM->Option AM):qF->AM->Option AM
 |t::c,Y=>(match b t Y with
  |some a=>bs c a|none=>none)
 |[],ϊ=>none
def Ay(n:Nat)(bs:qF->AM->Option AM):T->AM->Option AM
 |.nd ϊ .tup l,Y=>if l.length=n then bs l Y else none
 |.nd ϊ .rt l,Y=>if l.length=n then bs l Y else none
 |.nd ϊ .lst l,Y=>if l.length=n then bs l Y else none
 |ϊ,ϋ=>none
def zok(i:X.calm=true)(h:E4 X es t)(j:(assignEach es X.env).length=n)(c:(assignEach es X.env).findIdx? (·.1)=none):PG X (.Tuple es k pos) (λv O H Q=>Uu X.K n t v O H Q\/∃a xs,v=.ref a/\Ai X.K H a xs/\xs.length=n/\t xs O H Q):=by
 intro l s O H v u Q I r d;rcases d with d|⟨a,xs,q,y,w,d⟩;exact zoj i h j c l s O H v u Q I r d;subst q;cases r;let(g,A,(o,m,x,f,_,hd),C):=I.list y;refine Â<|ś ?_;unfold unpack;rw[c,j,show n=g.toArray.size by simp[<- w,A.length]]
 refine Â<|ă<|W.kun_itemsOf (I.ok.hd i) {(o),x,f,m,hd} λB z=>?_
 have p :=I.kept (t':=s.toks) λb o e=>z b o (Ô<|Ç e) e;exact h l _ O H xs _ Q p (by grind) d
section
variable {X:Cx}{e:Expr}{es:ku}{pos:Pos}{b:T->AM->Option AM}{bs:qF->AM->Option AM}
theorem PG.weak(h:PG X e t)(w:∀v O H Q,t' v O H Q->t v O H Q):PG X e t':=λa s O H v u Q I r q=>h a s O H v u Q I r<|w v O H Q q
theorem E4.weak(h:E4 X es t)(w:∀v O H Q,t' v O H Q->t v O H Q):E4 X es t':=λa s O H v u Q I r q=>h a s O H v u Q I r<|w v O H Q q
set_option tactic.hygienic true in
def g_nm(b:X.N.Nodup)(d:X.N[i]?=↑x)(k:G9 X.env.scope x)(c:X.fn x=true\/X.env.scope.names.lookup x=↑.local):PG X (.Name x pos)<|El X.K<|AD i:=by
 refine PG.weak (zl0 b d k c) λv O H Q h=>?_;let(F,Y,R,t,l,S,r,e,q):=h;unfold AD at e;split at e;cases e;rename_i g;refine q _ _ (S.set r (λϊ ϊ ϊ ϊ z=>z.elim) g) λj a z=>?_;by_cases f:j=i;erw[f]at z;exact z.elim;grind;cases e
theorem g_nil:E4 X []<|IM X.K BA:=E4.weak zkz λv O H Q h=>by
 let(F,Y,R,a,b,S,r,e,q):=h;cases a with
 |nil=>cases e;exact{r.inv0,q O R S λϊ ϊ z=>z}|cons ϊ ϋ=>cases e
def zqd(n:PG X e<|El X.K b)(o:E4 X es<|IM X.K bs)(p:(assignEach (e::es) X.env).map (·.2)=assign e X.env::(assignEach es X.env).map (·.2)):E4 X (e::es)<|IM X.K<|AQ b bs:=by
 refine E4.weak (zid n o p) λv O H Q h=>?_;let(F,Y,R,d,m,S,r,e,q):=h;cases d with
 |nil=>cases e|cons t d=>
  let(x,xs,rfl,s,rs):=r.inv;unfold AQ at e;simp only at e;cases g:b t Y with
  |none=>grind|some c=>rw[g]at e;exact{x,xs,rfl,F,Y,R,t,c,S,s.any,g,λy j k u=>{F,c,j,d,m,k,rs,e,λf R2 l w=>q f R2 l λi a z=>u i a<|w i a z}}
set_option tactic.hygienic true in
def g_tup(s:X.calm=true)(h:E4 X es<|IM X.K bs)(w:(assignEach es X.env).length=n)(g:(assignEach es X.env).findIdx? (·.1)=none):PG X (.Tuple es k pos)<|El X.K<|Ay n bs:=by
 refine PG.weak (zok s h w g) λv O H Q h=>?_;let(F,Y,R,t,f,S,r,e,q):=h
 have c:∀{o:Bool} {kd:Kd} {l:qF},t=.nd o kd l->(kd=.tup\/kd=.rt\/kd=.lst)->(if l.length=n then bs l Y else none)=↑f->(Uu X.K n (IM X.K bs) v O H Q\/∃a xs,v=.ref a/\Ai X.K H a xs/\xs.length=n/\IM X.K bs xs O H Q):=by
  intro o kd l m hk d;subst m;split at d;rename_i u;let(p,xs,rfl,_,j,b):=EU<|r.any (H':=F);have i:xs.length=n:=by rw[<- b.1];exact u
  rcases hk with rfl|rfl|rfl;exact .inl {p,xs,rfl,CJ.of<|S.fh _ _ j,i,F,Y,R,l,f,S,b,d,q};exact .inl {p,xs,rfl,HM S.fh j,i,F,Y,R,l,f,S,b,d,q};exact .inr {p,xs,rfl,Ai.of<|S.fh _ _ j,i,F,Y,R,l,f,S,b,d,q};cases d
 unfold Ay at e;split at e;exact c rfl (.inl rfl) e;exact c rfl (.inr<|.inl rfl) e;exact c rfl (.inr<|.inr rfl) e;cases e
end
section
end
section
variable {X:Cx}{a:Expr}{elts:ku}{kk ko:Nat}{tpos p pos kp vp:Pos}{E:L2.St->XK}{ca:Str->Value}{ms:BN}
end
def Wu(K:q9)(a:Addr)(n:Nat):It:=
 {λi H=>∃xs x,Ai K H a xs/\xs.length=n/\i<n/\xs[n - 1 - i]?=↑x,λi H x b=>b=H/\∀xs,Ai K H a xs->xs[n - 1 - i]?=↑x,λi ϊ=>i=n}
def zhy{P:Program}{w:World}{K:q9}{R:Expr}(a it:Addr)(n:Nat):Turn P w K R (Wu K a n) [it] it (λi h=>h.IsRevIter it a<|(n:Int) - 1 - (i:Int)) where
 mem:=by simp
 obj:=λi h st b f=>by
  have e:b=it:=by simpa using f
  subst e;let(o,e,_,d):=st;exact{o,e,λv z=>by rw[d]at z;cases z}
 keep:=λi h y st k=>st.at λo e=>k it (by simp) o e
 item:=by
  intro X r t q A i M s O H E I m st j;subst r t q;let(xs,x,B,T,S,C):=j;let(L,Q,p,U):=I.list B;let(u,G,N):=Q.get C;let(f0,f1,f2,f3,f4,f5):=m it<|by simp
  have F:(n:Int) - 1 - (i:Int)=((n - 1 - i:Nat):Int):=by lia
  have l:=st;rw[F]at l;refine wpAny_pyNext_rev_item l p.isList (by simpa using G) λy g sb=>?_;have D:=I.turned (t':=s.toks) (λb o f e=>(sb.2 b f).trans e) f0 f1 f3 f4 f5;rw[show((n - 1 - i:Nat):Int) - 1=(n:Int) - 1 - ((i+1:Nat):Int) by lia]at g;let(o,e,c,d):=id g;exact{u,rfl,L3 e c d (by decide) {x,H,D,N,{rfl,λV J=>by rw[I.list_inj J B];exact C},g,λb f=>(m b f).1}}
 done:=by
  intro X r t q A i M s O H E I m st j;subst r t q;have j:i=n:=j;subst j;let(f0,f1,f2,f3,f4,f5):=m it<|by simp
  rw[show(i:Int) - 1 - (i:Int)=-1 by lia]at st;exact wpAny_pyNext_rev_end (I.ok.hd A) st λy eb=>{rfl,I.turned (λb o f e=>eb b o f e) f0 f1 f3 f4 f5}
 self:=λϊ ϊ ϊ ϊ ϊ st h=>wpAny_pyIter_revIter st h
def zlw{K:q9}{F:Hp}{p:Addr}{xs:qE}{l:qF}(n:∀F' H',Ag F F'->Ag F' H'->Ai K H' p xs)(r:Am K F l xs):Gb K (Wu K p xs.length) F l.reverse:=by
 intro i F' H' c d;have sq:=n F' H' c d;have b:=r.1;refine{λt a=>?_,λe=>by rw[Ŏ,b]at e;exact e}
 have g:i<l.length:=by
  have:=(É.mp a).1;rwa[Ŏ]at this
 rw[ū g,b]at a;have h:xs.length - 1 - i<xs.length:=by lia
 refine{{xs,xs[xs.length - 1 - i],sq,rfl,by lia,Á h},λx f y=>?_};let(rfl,y):=y;exact{F',Ext.refl d,((r.same c).2 _ t x a (y xs sq)).any}
section
variable {X:Cx}{tg:Expr}
def iRevL(K:q9)(c:TA):TI:=λO H R=>c O H λd b=>∃a xs,d=[.ref a]/\Ai K b a xs/\R (Wu K a xs.length) b
def zoi{a:Expr}{j:TA}{p pos:Pos}(r:Gl X "reversed")(t:X.mg "reversed"=none)(m:PA X [a] j)(w:starEach [a] X.env=[(false,eval a X.env)]):PI X tg (.Call (.Name "reversed" p) [a] [] pos)<|iRevL X.K j:=by
 intro i s O H R I h;refine Call_<|Gq I r t boot_reversed<|Đ (A5 (m pos i s O H _ I h) λF c C=>?_) w rfl
 let(G,g,f,z,y):=C;let(l,xs,e,v,q):=y;subst e;let(u,rfl,A):=Fq z;cases A;let(d,B,x,E):=f.list v;have D:=B.length;refine call_reversed_list x.isList ?_;have k:Inv X i O g { c with heap:=c.heap.push<|revObj l<|(d.toArray.size:Int) - 1,toks:=c.toks }:=f.kept λb o e=>Ó _ e
 have st:(c.heap.push<|revObj l<|(d.toArray.size:Int) - 1).IsRevIter c.heap.objs.size l ((xs.length:Int) - 1 - ((0:Nat):Int)):={_,â _ rfl,rfl,by rw[show(xs.length:Int) - 1 - ((0:Nat):Int)=(d.toArray.size:Int) - 1 by rw[ë];lia];rfl};refine wpAny_pyIter_revIter st {c.heap.objs.size,[c.heap.objs.size],_,_,g,rfl,k,zhy l _ xs.length,st,λb n=>?_,q};have e:b=c.heap.objs.size:=by simpa using n
 subst e;exact f.fpOk (Ä _)<|f.hok.fresh<|Ä _
def Gu(ms:BN):BN:=λY=>match ms Y with
 |some (.v a false)=>(match Ir a with
  |some l=>↑(.v l.reverse false)|none=>none)
 |some (.v ϊ true)=>none|r=>r
set_option tactic.hygienic true in
def r_rvl{E:L2.St->XK}{ca:Str->Value}{a:Expr}{p pos:Pos}{ms:BN}(o:Gl X "reversed")(r:X.mg "reversed"=none)(n:PA X [a]<|CD X.K E ca ms)(s:starEach [a] X.env=[(false,eval a X.env)]):PI X tg (.Call (.Name "reversed" p) [a] [] pos)<|tI X.K E ca<|Gu ms:=by
 refine PI.weak (zoi o r n s) λO H P h=>?_;refine K9 (f:=Gu) (λY c e=>by unfold Gu;rw[e]) (λY e=>by unfold Gu;rw[e]) (λF Y R v b S e q i j xs k rs=>?_) h;unfold Gu at q;rw[e]at q;cases b with
 |true=>symm|false=>
  simp only at q;cases d:Ir v with
  |none=>erw[d]at q<;>symm|some l=>
   erw[d]at q;unfold Ir at d;split at d;split at d;cases d;rename_i m;let(y,w,rfl,u,g):=rs.inv;cases g.inv0;let(t,x,rfl,sq,kd):=LW m u;exact{t,x,rfl,sq i j (.refl _) k.fh,q i j _ k<|zlw sq kd}
   cases d;cases d
end
def E00:L2.St->XK:=λϊ=>E0
def CW(b:T->AM->Option AM)(mt me:AG):qF->AM->Option (qF)
 |[],ϊ=>↑[]|t::c,Y=>(match b t Y with
  |some a=>(match mt a with
   |some (.v (.bl true) ϊ)=>(match me a with
    |some (.v v false)=>(match CW b mt me c a with
     |some l=>↑(v::l)|none=>none)
    |ϊ=>none)
   |some (.v (.bl false) ϊ)=>CW b mt me c a|ϊ=>none)
  |none=>none)
def Gr(b:T->AM->Option AM)(mt me:AG):qF->AM->Option Str
 |[],ϊ=>none|t::d,Y=>(match b t Y with
  |some a=>(match mt a with
   |some (.v (.bl true) ϊ)=>(match me a with
    |some (.v ϊ false)=>Gr b mt me d a|some (.x c)=>↑c|ϊ=>none)
   |some (.v (.bl false) ϊ)=>Gr b mt me d a|some (.x c)=>↑c|ϊ=>none)
  |none=>none)
def Oe(Y:AM)(j:Nat):qB:=match Y[j]? with
 |some ↑t=>if t.sh then ↑t else none
 |ϊ=>none
def blk(n:Nat)(a:qA)(Y:AM):AM:=List.replicate n none++a.map (Oe Y)
def Vh(O:L2.St)(j:Nat):Option V:=match O[j]? with
 |some ↑v=>↑v|ϊ=>none
def Hv(n:Nat)(a:qA)(O:L2.St):L2.St:=List.replicate n none++a.map (Vh O)
def Ax(n:Nat)(a:qA)(e:BN)(b:T->AM->Option AM)(mt me:AG):AG:=λY=>match e Y with
 |some (.v d ϊ)=>if d.length<=BI then (match CW b mt me d (blk n a Y) with
  |some l=>↑(.v (.own l) false)|none=>(match Gr b mt me d (blk n a Y) with
   |some c=>↑(.x c)|none=>none)) else none
 |some (.x c)=>↑(.x c)|none=>none
set_option tactic.hygienic true in
def zqz{K}(S:StR K F H O Y R)(n:Nat)(caps):StR K F H (Hv n caps O) (blk n caps Y)<|λϊ=>R0:=by
 refine{S.fh,by simp[Hv,blk],λi t e=>?_,λϊ ϊ z=>z.elim,λϊ ϊ ϊ ϊ z=>z.elim};unfold blk at e;unfold Hv;by_cases c:i<n;rw[ô (by simpa using c),Ť,if_pos c]at e;cases e;rw[ą (by simp;lia),Î]at e ⊢;erw[ň]at e ⊢;cases b:caps[i - n]? with
 |none=>rw[b]at e;cases e|some j=>
  rw[b]at e;erw[Ċ]at e ⊢;have a:Oe Y j=↑t:=Ù e;unfold Oe at a;split at a
  rename_i g f;split at a;cases a;rename_i d;let(x,ex,r):=S.rep j _ f;refine{x,?_,r.move d<|.refl _};unfold Vh;rw[ex]
  cases a;cases a
def YH{l:qF}(h:tot (λj=>if j=l.length then B else Rr j) a):tot Rr a\/B a:=by
 let(j,z):=h;by_cases b:j=l.length;grind;erw[b]at z;exact .inl {(j),z}
section
variable {X:Cx}{E:L2.St->XK}{ca:Str->Value}{O:L2.St}{H:Hp}{K:q9}{n:Nat}{caps:qA}{mi:BN}{b:T->AM->Option AM}{mt me:AG}
set_option tactic.hygienic true in
def zgg(h:CW b mt me (t::us) τ1=↑l2):∃τ2,b t τ1=↑τ2/\((∃bt,mt τ2=↑(.v (.bl false) bt)/\CW b mt me us τ2=↑l2)\/∃bt w l3,mt τ2=↑(.v (.bl true) bt)/\me τ2=↑(.v w false)/\CW b mt me us τ2=↑l3/\l2=w::l3):=by
 unfold CW at h;split at h;rename_i τ2 d;refine{τ2,d,?_};split at h;rename_i bt a;split at h;rename_i w e;split at h;rename_i l3 c;cases h;exact .inr {(bt),w,l3,a,e,c,rfl};cases h;cases h;rename_i bt a;exact .inl {(bt),a,h};cases h;cases h
set_option tactic.hygienic true in
def ziq(h:Gr b mt me (t::us) τ1=↑c):∃τ2,b t τ1=↑τ2/\((∃bt,mt τ2=↑(.v (.bl false) bt)/\Gr b mt me us τ2=↑c)\/(∃bt,mt τ2=↑(.v (.bl true) bt)/\((∃w,me τ2=↑(.v w false)/\Gr b mt me us τ2=↑c)\/me τ2=↑(.x c)))\/mt τ2=↑(.x c)):=by
 unfold Gr at h;split at h;rename_i τ2 f;refine{τ2,f,?_};split at h;rename_i bt a;split at h;rename_i w d;exact .inr<|.inl {bt,a,.inl {(w),d,h}}
 rename_i e d;cases h;exact .inr<|.inl {bt,a,.inr d}
 cases h;rename_i bt a;exact .inl {(bt),a,h};rename_i e a;cases h;exact .inr<|.inr a
 cases h;cases h
def Xy(h:tM K E ca (Ax n caps mi b mt me) O H Q):Mi (Hv n caps) (tI K E ca mi) (El K b) (BV K (λϊ=>E O) ca mt) (tM K (λϊ=>E O) ca me) O H Q:=by
 let(F,Y,R,S,q):=h;refine{F,Y,R,S,?_};unfold Ax at q;cases hi:mi Y with
 |none=>erw[hi]at q<;>symm|some r=>
  erw[hi]at q;cases r with
  |x c=>exact q|v s bb=>
   intro F1 H1 Γ e1 its;by_cases M:¬ s.length<=BI;erw[M,Ã]at q<;>symm;have hz :=Decidable.not_not.mp M;erw[hz,Å]at q
   obtain⟨G,g1,g0,gs⟩:∃G:qF->AM->qF->Prop,(∀t u d l,G (t::u) d l->∃f,b t d=↑f/\((∃bt,mt f=↑(.v (.bl false) bt)/\G u f l)\/(∃bt,mt f=↑(.v (.bl true) bt)/\((∃w,me f=↑(.v w false)/\G u f (l++[w]))\/∃c,me f=↑(.x c)/\∀g k,Ext F H g k R0->XE (E O) ca c g k))\/∃c,mt f=↑(.x c)/\∀g k,Ext F H g k R0->XE (E O) ca c g k)) /\
     (∀d l,G [] d l->∀g k x B,Ext F H g k B->Rp K g k (.own l) x B->Q x k)/\G s (blk n caps Y) []:=by
    cases hg:CW b mt me s (blk n caps Y) with
    |some P=>
     erw[hg]at q;refine{λu d l=>∃N,CW b mt me u d=↑N/\l++N=P,λt u d l z=>?_,λd l z=>?_,P,hg,rfl};let(N,z,e):=z;obtain⟨f,y,w|⟨bt,w,l3,y1,U,y3,rfl⟩⟩:=zgg z;let(bt,w1,w2):=w;exact{f,y,.inl {(bt),w1,N,w2,e}};exact{f,y,.inr<|.inl {bt,y1,.inl {w,U,l3,y3,by simpa using e}}};let(N,z,e):=z;cases z;rw[è]at e;subst e;exact q
    |none=>
     erw[hg]at q;cases hx:Gr b mt me s (blk n caps Y) with
     |none=>erw[hx]at q<;>symm|some c=>
      erw[hx]at q;refine{λu d l=>Gr b mt me u d=↑c,λt u d l z=>?_,λd l z=>(by cases z),hx};obtain⟨f,y,w|⟨bt,y1,⟨w,U,y3⟩|U⟩|w⟩:=ziq z;exact{f,y,.inl w};exact{f,y,.inr<|.inl {bt,y1,.inl {(w),U,y3}}};exact{f,y,.inr<|.inl {bt,y1,.inr {(c),U,q}}};exact{f,y,.inr<|.inr {(c),w,q}}
   have S1:=S.ext e1;refine{λi ys st k=>∃(g:Hp) (W:AM) (l:qF) (V:Nat->Rg),Ext F1 H1 g k (tot V)/\RpO K g k l ys V/\StR K g k st W (λϊ=>R0)/\i<=s.length/\G (s.drop i) W l/\l.length<=i,s.length,by rw[<- GP];exact hz,?_,?_};exact{F1,blk n caps Y,[],λϊ=>R0,(Ext.refl S1.fh).mono λa ⟨_,z⟩=>z.elim,.nil,zqz S1 n caps,ò _,gs,Ä _};rintro i ys st k ⟨g,W,l,V,I,Z,S2,hle,m,hll⟩;have hly:=Z.len;refine{by lia,hle,?_}
   let(i1,i2):=its i g k I.ff I.fh;by_cases o:i<s.length;refine .inr {o,?_};let(go,yld):=i1 _<|Á o;refine{go,λx J y=>?_}
   let(D,A,rx):=yld x J y;have S3:=S2.ext A;rw[ı o]at m;let(d,hb,m):=g1 _ _ _ _ m;refine{D,W,_,s[i],d,S3,rx,hb,λst1 R1 S4 hR1=>?_}
   have R1e :=funext λj=>funext λa=>propext {λz=>hR1 j a z,λz=>z.elim};subst R1e;refine{D,d,_,S4,?_};have eX:∀{c },(∀g k,Ext F H g k R0->XE (E O) ca c g k)->∀g k,Ext D J g k R0->XE (E O) ca c g k:=λz g k e=>z g k<|((e1.trans0 I).trans (A.trans0 e)).mono λϊ z=>z.elim
   rcases m with ⟨bt,L,m⟩|⟨bt,L,m⟩|⟨c,L,hX⟩;rw[L];intro F4 H4 C;exact LV {F4,d,l,V,(I.trans<|(A.trans0 C).mono λϊ z=>z).mono λa z=>.inl z,(Z.ext A).ext C,S4.ext C,o,m,by lia};rw[L];intro F4 H4 C;have S5:=S4.ext C;have e24:=I.trans<|(A.trans0 C).mono λϊ z=>z
   refine LU {F4,d,_,S5,?_};rcases m with ⟨ve,he,m⟩|⟨c,he,hX⟩;rw[he];intro F5 H5 y B X ry;have ry' :=ry;have T:=(Z.ext A).ext C;have ro5:=T.ext X;refine{F5,d,l++[ve],_,(e24.trans X).mono ?_,ro5.snoc ry'<|λj a z1 z2=>T.apart X z2 j z1,S5.ext X,o,m,by simp;lia}
   intro a z;rcases YH z with z|z;exact .inl<|.inl z
   exact .inr z;rw[he];exact λg k e=>eX hX g k<|C.trans0 e
   rw[L];exact eX hX;have hi':i=s.length:=by lia
   subst hi';refine .inl {i2 rfl,λp hp=>?_};rw[List.drop_length]at m;let(rl,A):=Z.list I.fh hp;refine g0 _ _ m g _ _ _ (((e1.trans0 I).trans A).mono ?_) rl;rintro a (z|⟨j,z⟩)
   exact .inr z;exact .inl {(j),z}
structure BlkOk(X:Cx)(scope:Scope)(N':ky)(n:Nat)(caps:qA):Prop where
 kind:scope.kind=.function
 names:∀y∈scope.names,y.2=.local->scope.names.lookup y.1=↑.local
 len:N'.length=n+caps.length
 cap:∀(k j:Nat),caps[k]?=↑j->∃y,X.N[j]?=↑y/\N'[n+k]?=↑y/\scope.names.lookup y=↑.free/\(y,NameKind.cell)∉scope.names
 free:∀y∈scope.names,y.2=.free->scope.names.lookup y.1=↑.free/\(X.env.scope.names.lookup y.1=↑.cell\/X.env.scope.names.lookup y.1=↑.free)
theorem U3{env:Env}(y:Str):∀(names:List<|Str×NameKind),(names.map λ(n,k)=>if (k == NameKind.free && env.scope.kind == .function && env.kindOf n == ↑.cell) then (n,NameKind.cell) else (n,k)).lookup y =
  (names.lookup y).map λk=>if (k == NameKind.free && env.scope.kind == .function && env.kindOf y == ↑.cell) then .cell else k
 |[]=>rfl|(n,k)::r=>by
  rw[Ö];cases b:y == n with
  |true=>
   have e:y=n:=eq_of_beq b;subst e;by_cases a:(k == NameKind.free && env.scope.kind == .function && env.kindOf y == ↑.cell)=true;erw[a,Å,æ,Ą,Ċ];erw[a,æ,Ą,Ċ];simp
  |false=>
   by_cases a:(k == .free && env.scope.kind == .function && env.kindOf n == ↑.cell)=true;erw[a,Å,æ,b];exact U3 y r;erw[a,æ,b];erw[ņ,Ã,æ,b];exact U3 y r
theorem Sd(scope)(env)(y):(relabel scope env).names.lookup y=(scope.names.lookup y).map λk=>if (k == NameKind.free && env.scope.kind == .function && env.kindOf y == ↑.cell) then .cell else k:=U3 y scope.names
def U4:∀{names:List<|Str×NameKind},names.lookup y=↑k->(y,k)∈names:=λh=>ĉ h
set_option tactic.hygienic true in
def kW(B:BlkOk X scope N' n caps)   (I:Inv X pz O H s) :
  ∃cl,BlkC X scope N' (Hv n caps) cl:=by
 let(cl,q,r,t):=zen scope X.env λy a e=>I.ok.has y.1 (B.free y a e).2
 have Hw:∀(O ) (i:Nat) (y ) (v ),N'[i]?=↑y->(Hv n caps O)[i]?=↑↑v->∃j:Nat,X.N[j]?=↑y/\O[j]?=↑↑v/\scope.names.lookup y=↑.free/\(y,NameKind.cell)∉scope.names:=by
  intro O i y v c b;unfold Hv at b;by_cases o:i<n;rw[ô (by simpa using o),Ť,if_pos o]at b;cases b;rw[ą (by simp;lia),Î]at b;erw[ň]at b;cases h:caps[i - n]? with
  |none=>rw[h]at b;cases b|some j=>
   rw[h]at b;erw[Ċ]at b;have f :=Ù b;let(C,g1,g2,g,m):=B.cap (i - n) j h;have en:n+(i - n)=i:=by lia
   rw[en,c]at g2;cases g2
   have sv :=by
    unfold Vh at f;split at f;rename_i A u;cases f;exact u;cases f
   exact{(j),g1,sv,g,m}
 refine{cl,q,B.kind,B.names,r,λy a=>?_,λO i y v c b=>?_,λO x=>by simp[Hv,B.len],λO i y v c b=>?_};cases hk:scope.names.lookup y with
 |none=>
  rw[Sd,hk]at a;rcases a with a|a<;>cases a
 |some k=>
  by_cases e:k=.free;subst e;exact .inr<|t _ (U4 hk) rfl
  rw[Sd,hk]at a;erw[Ċ]at a;have l :=beq_eq_false_iff_ne.mpr e;erw[l,ĵ,ņ,Ã]at a
  rcases a with a|a;cases a;exact .inl<|U4 hk
  cases a;exact absurd rfl e
 exact(Hw O i y v c b).choose_spec.2.2.2;let(j,g1,sv,g,m):=Hw O i y v c b;have fr:=B.free _ (U4 g) rfl;refine{?_,j,g1,sv,?_,?_}
 rw[Sd,g];erw[Ċ];by_cases d:(NameKind.free == NameKind.free && X.env.scope.kind == .function && X.env.kindOf y == ↑.cell)=true;exact .inl<|by rw[if_pos d]
 exact .inr<|by rw[if_neg d]
 rcases fr.2 with z|z;exact .inr<|.inl z
 exact .inr<|.inr z
 intro z;have p:X.env.scope.names.lookup y=↑.local:=z
 rcases fr.2 with w|w;rw[p]at w;cases w;rw[p]at w;cases w
def r_lcV(B:BlkOk X scope N' n caps)(d:∀pz O H s cl C ex xb,Inv X pz O H s->cq (Du X scope cl N' C s H ex xb))(f:PJ cq X tg iter<|tI X.K E ca mi)
  (a:C1 X E) (c:JC X) (e:∀E',AC X scope N' E' λτ=>PG τ tg (El X.K b)/\IB τ ifs (BV X.K E' ca mt)/\PE τ elt (tM X.K E' ca me))
  (g:∀x,foldedSetIterable iter X.env x=pure x):PE X (.ListComp elt [{tg,iter,ifs,0}] scope pos)<|tM X.K E ca<|Ax n caps mi b mt me:=by
 intro pz s O H Q I h;let(cl,L):=kW B I;exact zpl L d f a c (e _) g I<|Xy h
def r_lcS(B:BlkOk X scope N' n caps)(g:X.calm=true)(k:PI X tg iter<|tI X.K E ca mi)
  (c:C1 X E) (d:JC X) (j:∀E',AC X scope N' E' λτ=>PG τ tg (El X.K b)/\IB τ ifs (BV X.K E' ca mt)/\PE τ elt (tM X.K E' ca me))
  (l:∀x,foldedSetIterable iter X.env x=pure x)  {x:Str} (f:X.N.Nodup) (a:X.N[i]?=↑x) (m:X.env.scope.names.lookup x=↑.local)
  (e:swapsWith (.ListComp elt [{tg,iter,ifs,0}] scope pos) (↑(.Name x pos')) pos2.line X.env=pure true):PS X (.Assign [.Name x pos'] (.ListComp elt [{tg,iter,ifs,0}] scope pos) pos2)<|λD O H=>tM X.K E ca (Ax n caps mi b mt me) O H λv H1=>D.nx (O.set i ↑v) H1:=by
 intro o s O H D I h;let(cl,L):=kW B I;exact zpm L g k c d (j _) l f a m e I<|Xy h
variable {m mk mv:AG}{o k v:Expr}{pos p p2 ap cp:Pos}{elts:ku}{kk:Nat}{tpos:Pos}
end
set_option genInjectivity true in
inductive Out where
 |nx (Y:AM)|rt (t:T)|bk (Y:AM)|ct (Y:AM)|xc (c:Str) (Y:AM)
abbrev AH:=AM->Option Out
structure Stp(F H:Hp)(σ:Rg)(F' H':Hp)(σ':Rg):Prop where
 ff:Ag F F'
 fh:Ag F' H'
 kp:∀b u,¬ σ b->H b=↑u->H' b=↑u
 nw:∀b,σ' b->σ b\/H b=none
 nf:∀b u,F' b=↑u->F b=↑u\/σ b\/H b=none
section
variable {F H F1 H1 F2 H2:Hp}{σ σ1 O2 B:Rg}{R:Nat->Rg}
theorem Stp.refl(s:Ag F H):Stp F H σ F H σ:={.refl _,s,λϊ ϊ ϊ e=>e,λϊ z=>.inl z,λϊ ϊ e=>.inl e}
theorem Stp.trans(a:Stp F H σ F1 H1 σ1)(b:Stp F1 H1 σ1 F2 H2 O2):Stp F H σ F2 H2 O2 where
 ff:=a.ff.trans b.ff
 fh:=b.fh
 kp:=λx u n e=>b.kp x u (λz=>(a.nw x z).elim n λw=>by grind) (a.kp x u n e)
 nw:=λx z=>(b.nw x z).elim (a.nw x) λw=>by
  by_cases c:σ x;exact .inl c;cases e:H x with
  |none=>simp|some u=>rw[a.kp x u c e]at w;cases w
 nf:=λx u e=>(b.nf x u e).elim (a.nf x u) λz=>.inr (z.elim (a.nw x) λw=>by
  by_cases c:σ x;exact .inl c;cases d:H x with
  |none=>simp|some f=>rw[a.kp x f c d]at w;cases w)
theorem Stp.mono(a:Stp F H σ F1 H1 σ1)(h:∀x,O2 x->σ1 x):Stp F H σ F1 H1 O2:={a.ff,a.fh,a.kp,λx z=>a.nw x<|h x z,a.nf}
theorem Ext.stp(e:Ext F H F1 H1 B):Stp F H σ F1 H1<|λx=>σ x\/B x:={e.ff,e.fh,λb u ϊ q=>e.hh b u q,λb z=>z.elim .inl λz=>.inr<|e.nb b z,λb u q=>(e.nf b u q).elim .inl λz=>.inr<|.inr z}
theorem Ext.stp0(e:Ext F H F1 H1 B):Stp F H σ F1 H1 σ:=e.stp.mono λϊ z=>.inl z
end
section
def Wr(K:q9)(mu:Bool)(F H:Hp)(t:T)(x:V)(B:Rg):Prop:=match mu with
 |false=>Rp K F H t x B|true=>∃v q l,t=.own [v,.nd true (.pin q) l]/\v.flat=true/\Rp K F H v x R0/\Rp K F H (.nd true (.pin q) l) (.ref q) B
def pS(K:q9)(E:L2.St->XK)(ca:Str->Value)(mu:Bool)(D:Ends)(F H:Hp)(R:Nat->Rg):Option Out->Prop
 |some (.nx f)=>∀b a d e,Stp F H (tot R) b a (tot e)->StR K b a d f e->D.nx d a|some (.bk f)=>∀b a d e,Stp F H (tot R) b a (tot e)->StR K b a d f e->D.bk d a|some (.ct f)=>∀b a d e,Stp F H (tot R) b a (tot e)->StR K b a d f e->D.ct d a|some (.rt t)=>∀b a x B,Stp F H (tot R) b a B->Wr K mu b a t x B->D.rt x a|some (.xc c f)=>∀b a d e,Stp F H (tot R) b a (tot e)->StR K b a d f e->XE (E d) ca c b a|none=>False
def tS(K:q9)(E:L2.St->XK)(ca:Str->Value)(mu:Bool)(m:AH):TS:=λD O H=>∃F Y R,StR K F H O Y R/\pS K E ca mu D F H R (m Y)
end
def AF(m n:AH):AH:=λY=>match m Y with
 |some (.nx a)=>n a|r=>r
def Ab:AH:=λY=>↑(.nx Y)
def Mu:AH:=λϊ=>none
def Y3:AH:=λY=>↑(.bk Y)
def Mv:AH:=λY=>↑(.ct Y)
def IQ(m:AG):AH:=λY=>match m Y with
 |some (.v ϊ ϋ)=>↑(.nx Y)|some (.x c)=>↑(.xc c Y)|none=>none
def AN(m:AG):AH:=λY=>match m Y with
 |some (.v t ϊ)=>↑(.rt t)|some (.x c)=>↑(.xc c Y)|none=>none
def S7:AH:=λϊ=>↑(.rt .non)
def A3(m:AG)(b:T->AM->Option AM):AH:=λY=>match m Y with
 |some (.v t false)=>(match b t.share Y with
  |some a=>↑(.nx a)|none=>none)
 |some (.v ϊ true)=>none|some (.x c)=>↑(.xc c Y)|none=>none
def Cb(i:Nat)(m:AG):AH:=λY=>match m Y with
 |some (.v t false)=>if i<Y.length then ↑(.nx<|Y.set i ↑t) else none
 |some (.v ϊ true)=>none|some (.x c)=>↑(.xc c Y)|none=>none
def HP(i:Nat):AH:=λY=>match Y[i]? with
 |some ↑t=>↑(.nx<|Y.set i ↑t.share)|ϊ=>↑(.nx Y)
def A4(c:AG)(a b:AH):AH:=λY=>match c Y with
 |some (.v (.bl true) ϊ)=>a Y|some (.v (.bl false) ϊ)=>b Y|some (.x c)=>↑(.xc c Y)|ϊ=>none
def BK(b:T->AM->Option AM)(body:AH):qF->AH
 |[],Y=>↑(.nx Y)|t::d,Y=>(match b t Y with
  |some c=>(match body c with
   |some (.nx a)=>BK b body d a|some (.ct a)=>BK b body d a|some (.bk a)=>↑(.nx a)|r=>r)
  |none=>none)
def Bc(a:BN)(b:T->AM->Option AM)(body:AH):AH:=λY=>match a Y with
 |some (.v d ϊ)=>BK b body d Y|some (.x c)=>↑(.xc c Y)|none=>none
def Cz(c:AG)(body:AH):Nat->AH
 |0,ϊ=>none|n+1,Y=>(match c Y with
  |some (.v (.bl true) ϊ)=>(match body Y with
   |some (.nx a)=>Cz c body n a|some (.ct a)=>Cz c body n a|some (.bk a)=>↑(.nx a)|r=>r)
  |some (.v (.bl false) ϊ)=>↑(.nx Y)|some (.x c)=>↑(.xc c Y)|ϊ=>none)
open Classical in
def Em(c:AG)(body:AH):AH:=λY=>if h:∃n,(Cz c body n Y).isSome=true then Cz c body h.choose Y else none
def zi1(h:Em c body Y=↑o):∃n,Cz c body n Y=↑o:=by
 unfold Em at h;split at h;grind;cases h
def QA:∀{n} {Y} {o},Cz c body n Y=↑o->Cz c body (n+1) Y=↑o
 |0,Y,o,h=>by cases h|n+1,Y,o,h=>by
  unfold Cz at h ⊢;split at h;split at h;exact QA h;exact QA h;exact h;exact h;exact h;exact h;cases h
def X2(h:Cz c body n Y=↑o)(a:n<=m):Cz c body m Y=↑o:=by
 induction a with
 |refl=>exact h|step ϊ b=>exact QA b
def Y2(h:Cz c body n Y=↑o):Em c body Y=↑o:=by
 unfold Em;have a:∃n,(Cz c body n Y).isSome=true:={n,by rw[h];rfl}
 let(f,e):=Ń.mp a.choose_spec;have b:=X2 e<|Nat.le_max_left a.choose n;have d:=X2 h<|Nat.le_max_right a.choose n
 grind
section
variable {mu:Bool}{X:Cx}{E:L2.St->XK}{ca:Str->Value}{O:L2.St}{H:Hp}{K:q9}{m mk mc:AG}{ms mi:BN}{b:T->AM->Option AM}{u w:AH}{D:Ends}{e c tg iter:Expr}{st:Stmt}{rest body sa sb:kx}{pos pos':Pos}
theorem PS.weak(h:PS X st t)(w:∀D O H,t' D O H->t D O H):PS X st t':=λa s O H D I q=>h a s O H D I<|w D O H q
theorem Bf.weak(h:Bf X rest t)(w:∀D O H,t' D O H->t D O H):Bf X rest t':=λa s O H D I q=>h a s O H D I<|w D O H q
def zmr(h:tS K E ca mu (AF u w) D O H):Xq (tS K E ca mu u) (tS K E ca mu w) D O H:=by
 let(F,Y,R,S,q):=h;refine{F,Y,R,S,?_};unfold AF at q;cases g:u Y with
 |none=>erw[g]at q<;>symm|some o=>
  erw[g]at q;cases o with
  |nx f=>
   intro j m n k e l;refine{j,f,k,l,?_};cases i:w f with
   |none=>erw[i]at q<;>symm|some o=>
    erw[i]at q;cases o with
    |nx ϊ=>exact λa b c d s S=>q a b c d (e.trans s) S|bk ϊ=>exact λa b c d s S=>q a b c d (e.trans s) S|ct ϊ=>exact λa b c d s S=>q a b c d (e.trans s) S|rt ϊ=>exact λa b x B s r=>q a b x B (e.trans s) r|xc ϊ ϋ=>exact λa b c d s S=>q a b c d (e.trans s) S
  |rt ϊ=>exact q|bk ϊ=>exact q|ct ϊ=>exact q|xc ϊ ϋ=>exact q
theorem YV:Bf X []<|tS X.K E ca mu Ab:=Bf.weak zkq λD O H h=>by
 let(F,Y,R,S,q):=h;exact q F H O R (Stp.refl S.fh) S
theorem Rb(a:PS X st<|tS X.K E ca mu u)(b:Bf X rest<|tS X.K E ca mu w):Bf X (st::rest)<|tS X.K E ca mu<|AF u w:=Bf.weak (zi9 a b) λD O H h=>zmr h
theorem Qp(a:PS X st<|tS X.K E ca mu u):Bf X [st]<|tS X.K E ca mu u:=zkp a
theorem YU:PS X st<|tS X.K E ca mu Mu:=λa s O H D I h=>by
 let(_,_,_,_,q):=h;symm
theorem znd:PS X (.Pass pos)<|tS X.K E ca mu Ab:=PS.weak zkt λD O H h=>by
 let(F,Y,R,S,q):=h;exact q F H O R (Stp.refl S.fh) S
theorem zk9:PS X (.Break pos)<|tS X.K E ca mu Y3:=PS.weak zic λD O H h=>by
 let(F,Y,R,S,q):=h;exact q F H O R (Stp.refl S.fh) S
theorem zf5:PS X (.Continue pos)<|tS X.K E ca mu Mv:=PS.weak ze0 λD O H h=>by
 let(F,Y,R,S,q):=h;exact q F H O R (Stp.refl S.fh) S
def zms(h:tS K E ca mu (AF (HP i) w) D O H):tS K E ca mu w D O H:=by
 let(F,Y,R,S,q):=h;unfold AF HP at q;cases p:Y[i]? with
 |none=>rw[p]at q;exact{(F),Y,R,S,q}|some Q=>
  rw[p]at q;cases Q with
  |none=>exact{(F),Y,R,S,q}|some t=>
   simp only at q;let(x,ex,r):=S.rep i t p;have P :=(É.mp p).1;have n:∀a,R i a->F a=none:=λa z=>(r.dom z).1
   have M:StR K (frz F H<|R i) H O (Y.set i ↑t.share) (λj=>if j=i then R0 else R j):=by
    refine{Jp S.fh,by simpa using S.len,λj G e=>?_,λj a z=>?_,λj k a C v A=>?_};by_cases c:j=i;subst c;rw[å P]at e;cases e;exact{x,ex,by simpa using r.share (F7 n) λa u z q=>by rw[Ee z];exact q};rw[á<|Ë c]at e;let(y,N,L):=S.rep j G e;refine{y,N,?_};erw[c,Ã]
    exact L.frame (F7 n) λa z=>{rfl,by
     rw[F6<|λT=>S.dis j i a c z T]
     exact(L.dom z).1}
    by_cases c:j=i;erw[c,Å]at z;exact z.elim;erw[c,Ã]at z;let(G,e):=S.out j a z;exact{G,by rw[á<|Ë c];exact e}
    by_cases c:j=i;erw[c,Å]at v;exact v.elim;by_cases hk:k=i;erw[hk,Å]at A;exact A.elim;erw[c,Ã]at v;erw[hk,Ã]at A;exact S.dis j k a C v A
   have d:Stp F H (tot R) (frz F H<|R i) H (tot λj=>if j=i then R0 else R j):=by
    refine{F7 n,Jp S.fh,λϊ ϊ ϊ e=>e,λb ⟨j,z⟩=>?_,λb u e=>?_};by_cases c:j=i;erw[c,Å]at z;exact z.elim;erw[c,Ã]at z;exact .inl {(j),z};by_cases I:R i b;exact .inr<|.inl {(i),I}
    rw[F6 I]at e;exact .inl e
   refine{_,_,_,M,?_};cases J:w (Y.set i ↑t.share) with
   |none=>erw[J]at q<;>symm|some o=>
    erw[J]at q;cases o with
    |nx ϊ=>exact λf g l m s S=>q f g l m (d.trans s) S|bk ϊ=>exact λf g l m s S=>q f g l m (d.trans s) S|ct ϊ=>exact λf g l m s S=>q f g l m (d.trans s) S|rt ϊ=>exact λf g x B s r=>q f g x B (d.trans s) r|xc ϊ ϋ=>exact λf g l m s S=>q f g l m (d.trans s) S
theorem s_frz(h:Bf X rest<|tS X.K E ca mu w):Bf X rest<|tS X.K E ca mu<|AF (HP i) w:=Bf.weak h λD O H h=>zms h
def s_exp(f:PE X e<|tM X.K E ca m)(i:swapsWith e none pos.line X.env=pure false):PS X (.Expr e pos)<|tS X.K E ca mu<|IQ m:=by
 refine PS.weak (ND f i) λD O H h=>?_;let(F,Y,R,S,q):=h;refine{F,Y,R,S,?_};unfold IQ at q;cases d:m Y with
 |none=>erw[d]at q<;>symm|some r=>
  erw[d]at q;cases r with
  |x c=>exact λa b e=>q a b O R e.stp0 (S.ext e)|v t j=>exact λa b x B e g=>q a b O R e.stp0<|S.ext e
def YT(k:PE X e<|tM X.K E ca m):PS X (.Return ↑e pos)<|tS X.K E ca false<|AN m:=by
 refine PS.weak (zob k) λD O H h=>?_;let(F,Y,R,S,q):=h;refine{F,Y,R,S,?_};unfold AN at q;cases f:m Y with
 |none=>erw[f]at q<;>symm|some r=>
  erw[f]at q;cases r with
  |x c=>exact λb d e=>q b d O R e.stp0 (S.ext e)|v t i=>
   intro b d x B e g;cases i with
   |false=>exact q b d x B (e.stp.mono λϊ z=>.inr z) g|true=>let(_,A,j,r):=g;exact q b d x A (e.stp.mono λa z=>.inl<|j a z) r
theorem znc:PS X (.Return none pos)<|tS X.K E ca false S7:=PS.weak zks λD O H h=>by
 let(F,Y,R,S,q):=h;exact q F H .non R0 ((Stp.refl S.fh).mono λϊ z=>z.elim) .non
def s_if(G:PT X c<|BV X.K E ca mc)(A:Bf X sa<|tS X.K E ca mu u)(C:Bf X sb<|tS X.K E ca mu w):PS X (.If c sa sb pos)<|tS X.K E ca mu<|A4 mc u w:=by
 refine PS.weak (ps_if G A C) λD O H h=>?_;let(F,Y,R,S,q):=h;refine{F,Y,R,S,?_};unfold A4 at q;cases m:mc Y with
 |none=>erw[m]at q<;>symm|some r=>
  erw[m]at q;cases r with
  |x c=>exact λb a e=>q b a O R e.stp0 (S.ext e)|v t I=>
   cases t with
   |bl k=>
    intro p y i;have z:=S.ext i
    have j:∀{l },(match l Y with
      |some (.nx g)=>∀b a d f,Stp F H (tot R) b a (tot f)->StR X.K b a d g f->D.nx d a|some (.bk g)=>∀b a d f,Stp F H (tot R) b a (tot f)->StR X.K b a d g f->D.bk d a|some (.ct g)=>∀b a d f,Stp F H (tot R) b a (tot f)->StR X.K b a d g f->D.ct d a|some (.rt t)=>∀b a x B,Stp F H (tot R) b a B->Wr X.K mu b a t x B->D.rt x a|some (.xc c g)=>∀b a d f,Stp F H (tot R) b a (tot f)->StR X.K b a d g f->XE (E d) ca c b a|none=>False)->tS X.K E ca mu l D O y:=λ{l} q=>by
     refine{p,Y,R,z,?_};cases n:l Y with
     |none=>erw[n]at q<;>symm|some o=>
      erw[n]at q;cases o with
      |nx ϊ=>exact λb a d f s S=>q b a d f (i.stp0.trans s) S|bk ϊ=>exact λb a d f s S=>q b a d f (i.stp0.trans s) S|ct ϊ=>exact λb a d f s S=>q b a d f (i.stp0.trans s) S|rt ϊ=>exact λb a x B s r=>q b a x B (i.stp0.trans s) r|xc ϊ ϋ=>exact λb a d f s S=>q b a d f (i.stp0.trans s) S
    cases k with
    |true=>exact LU (j q)|false=>exact LV<|j q
   |_=>symm
def QZ(G:∀v O H Q,El K b v O H Q->g v O H Q)(h:tS K E ca mu (A3 m b) D O H):HJ (tM K E ca m) g D O H:=by
 let(F,Y,R,S,q):=h;refine{F,Y,R,S,?_};unfold A3 at q;cases k:m Y with
 |none=>erw[k]at q<;>symm|some r=>
  erw[k]at q;cases r with
  |x c=>exact λl n e=>q l n O R e.stp0 (S.ext e)|v t y=>
   cases y with
   |true=>symm|false=>
    intro J o x B A g1;let(f,j,_,I):=Dx.frz S A g1;cases d:b t.share Y with
    |none=>erw[d]at q<;>symm|some w=>
     erw[d]at q;refine G _ _ _ _ {f,Y,R,t.share,w,S.ext j,(I).any,d,λp s u C=>?_};exact q f o p s (j.stp0.mono λa ⟨i,z⟩=>{i,C i a z}) u
set_option tactic.hygienic true in
def gM(h:El K (AD i) v O H Q):Gy i v O H Q:=by
 let(F,Y,R,t,d,S,r,e,q):=h;unfold AD at e;split at e;cases e;rename_i c;refine q _ _ (S.set r (λϊ ϊ ϊ ϊ z=>z.elim) c) λj a z=>?_;by_cases b:j=i;erw[b]at z;exact z.elim;grind;cases e
theorem YQ(a:X.N.Nodup)(d:X.N[i]?=↑x)(g:G9 X.env.scope x)(b:PE X e<|tM X.K E ca m)(f:swapsWith e (↑(.Name x pos')) pos.line X.env=pure false)(c:X.fn x=true\/X.env.scope.names.lookup x=↑.local) :
  PS X (.Assign [.Name x pos'] e pos) (tS X.K E ca mu<|A3 m<|AD i):=PS.weak (ZC a d g b f c) λD O H h=>QZ (λϊ ϊ ϊ ϊ z=>gM z) h
theorem znb(c:PE X e<|tM X.K E ca m)(d:PG X tg<|El X.K b)(f:swapsWithSole [tg] e pos.line X.env=pure false)(g:swappedStores [tg] e X.env=pure none)(a:(assignEach [tg] X.env).map (·.2)=[assign tg X.env]) :
  PS X (.Assign [tg] e pos) (tS X.K E ca mu<|A3 m b):=PS.weak (JZ c d f g a) λD O H h=>QZ (λϊ ϊ ϊ ϊ z=>z) h
def Xr(h:tS K E ca mu (Cb i m) D O H):HJ (tM K E ca m) (Gy i) D O H:=by
 let(F,Y,R,S,q):=h;refine{F,Y,R,S,?_};unfold Cb at q;cases g:m Y with
 |none=>erw[g]at q<;>symm|some r=>
  erw[g]at q;cases r with
  |x c=>exact λk n e=>q k n O R e.stp0 (S.ext e)|v t s=>
   cases s with
   |true=>symm|false=>
    intro l o x B b g1;have d :=g1;have p:=S.ext b
    by_cases f:i<Y.length;erw[f]at q;refine q l o _ _ (b.stp.mono ?_)<|p.set d (λj a ϊ w y=>S.apart b y j w) f
    rintro a ⟨j,z⟩;by_cases u:j=i;grind;erw[u]at z;exact .inl {(j),z};erw[f]at q<;>symm
theorem zne(a:X.N.Nodup)(d:X.N[i]?=↑x)(g:G9 X.env.scope x)(b:PE X e<|tM X.K E ca m)(f:swapsWith e (↑(.Name x pos')) pos.line X.env=pure false)(c:X.fn x=true\/X.env.scope.names.lookup x=↑.local) :
  PS X (.Assign [.Name x pos'] e pos) (tS X.K E ca mu<|Cb i m):=PS.weak (ZC a d g b f c) λD O H h=>Xr h
def s_for(hp:PassesOwn (model X.prog X.w) X.A X.env X.xe)(hc:X.calm=true)(hi:PI X tg iter<|tI X.K E ca mi)(N:PG X tg<|El X.K b)(hb:Bf X body<|tS X.K E ca mu u)(hs:∀x,foldedSetIterable iter X.env x=pure x) :
  PS X (.For tg iter body [] pos) (tS X.K E ca mu<|Bc mi b u):=by
 refine PS.weak (zoc hp hc hi N hb hs) λD O H h=>?_;let(F,Y,R,S,q):=h;refine{F,Y,R,S,?_};unfold Bc at q;cases hm:mi Y with
 |none=>erw[hm]at q<;>symm|some r=>
  erw[hm]at q;cases r with
  |x c=>exact λs w e=>q s w O R e.stp0 (S.ext e)|v g bb=>
   intro T H1 Γ e1 its;simp only at q;have S1:=S.ext e1;cases N:BK b u g Y with
   |none=>erw[N]at q<;>symm|some out=>
    erw[N]at q;refine{λi mm W w=>mm=g.length - i/\i<=g.length/\∃s M L,Stp F H (tot R) s w (tot L)/\Ag T s/\StR X.K s w W M L/\BK b u (g.drop i) M=↑out,{g.length,by simp,ò _,T,Y,R,e1.stp0,.refl _,S1,by simpa using N},?_};rintro i mm W w ⟨rfl,hle,s,M,L,st,sf,Z,d⟩;let(i1,i2):=its i s w sf Z.fh
    by_cases k:i<g.length;refine .inr {(i1 _<|Á k).1,λP V=>i+1<=g.length/\∃U f R2,Stp F H (tot R) U V (tot R2)/\Ag T U/\StR X.K U V P f R2/\BK b u (g.drop<|i+1) f=↑out,λP V n2=>{g.length - (i+1),by lia,rfl,n2},λx K y=>?_};let(t,Q,rx):=(i1 _<|Á k).2 x K y;have S3:=Z.ext Q;rw[ı k]at d;unfold BK at d;cases I:b g[i] M with
    |none=>erw[I]at d;cases d|some J=>
     erw[I]at d;refine{t,M,L,g[i],J,S3,rx,I,λO3 R3 S4 hR3=>?_};have m:Stp F H (tot R) t K<|tot R3:=(st.trans Q.stp0).mono λa ⟨j,z⟩=>{j,hR3 j a z}
     refine{t,J,R3,S4,?_};cases hu:u J with
     |none=>erw[hu]at d;cases d|some o=>
      erw[hu]at d;cases o with
      |nx f=>exact λp A n C l G=>{k,p,f,C,m.trans l,(sf.trans Q.ff).trans l.ff,G,d}|ct f=>exact λp A n C l G=>{k,p,f,C,m.trans l,(sf.trans Q.ff).trans l.ff,G,d}|bk f=>cases d;exact λp A n C l G=>q p A n C (m.trans l) G|rt v=>cases d;exact λp A x B l r=>q p A x B (m.trans l) r|xc cc f=>cases d;exact λp A n C l G=>q p A n C (m.trans l) G
    have hi':i=g.length:=by lia
    subst hi';refine .inl {i2 rfl,?_};rw[List.drop_length]at d;unfold BK at d;cases d;exact q s w W L st Z
def s_wh(V:PassesOwn (model X.prog X.w) X.A X.env X.xe)(T:PT X c<|BV X.K E ca mc)(Q:Bf X body<|tS X.K E ca mu u):PS X (.While c body [] pos)<|tS X.K E ca mu<|Em mc u:=by
 refine PS.weak (zia V T Q) λD O H h=>?_;let(F,Y,R,S,q):=h;cases J:Em mc u Y with
 |none=>erw[J]at q<;>symm|some out=>
  erw[J]at q;let(n,U):=zi1 J;refine{λy C G=>∃A s l,Stp F H (tot R) A G (tot l)/\StR X.K A G C s l/\Cz mc u y s=↑out,{n,F,Y,R,Stp.refl S.fh,S,U},?_}
  rintro y C G ⟨A,s,l,st,I,a⟩;cases y with
  |zero=>cases a|succ y=>
   refine{A,s,l,I,?_};unfold Cz at a;cases M:mc s with
   |none=>erw[M]at a;cases a|some r=>
    erw[M]at a;cases r with
    |x P=>cases a;exact λi w z=>q i w C l (st.trans z.stp0) (I.ext z)|v t bb=>
     cases t with
     |bl k=>
      intro i w z;have L:=I.ext z;have d :=st.trans z.stp0;cases k with
      |false=>cases a;exact LV (q i w C l d L)|true=>
       simp only at a;refine LU {λK w=>∃i b R2,Stp F H (tot R) i w (tot R2)/\StR X.K i w K b R2/\Cz mc u y b=↑out,λO3 Z W=>{y,ċ _,W},i,s,l,L,?_};cases N:u s with
       |none=>erw[N]at a;cases a|some o=>
        erw[N]at a;cases o with
        |nx b=>exact λf j e m g p=>{f,b,m,d.trans g,p,a}|ct b=>exact λf j e m g p=>{f,b,m,d.trans g,p,a}|bk b=>cases a;exact λf j e m g p=>q f j e m (d.trans g) p|rt v=>cases a;exact λf j x B g r=>q f j x B (d.trans g) r|xc P b=>cases a;exact λf j e m g p=>q f j e m (d.trans g) p
     |_=>cases a
end
section
variable {K:q9}{F H:Hp}{l:qF}{xs:qE}{Rr:Nat->Rg}{p:Addr}{o:HO}
def Rp.own_inv(h:Rp K F H (.nd true k l) x A)(n:k.isT=false):∃p xs Rr,x=.ref p/\A=(λa=>a=p\/∃j,Rr j a)/\F p=none/\H p=↑(.lst xs)/\RpO K F H l xs Rr/\(∀j,¬ Rr j p)/\MQ k p:=by
 cases h with
 |own hk R f h e c d dp o=>exact{_,_,R,rfl,rfl,f,gB n▸h,{(e),c,d,o},dp,hk}
theorem IU(hk:MQ k p)(r:RpO K F H l xs Rr)(f:F p=none)(h:H p=↑(.lst xs))(dp:∀j,¬ Rr j p)(n:k.isT=false):Rp K F H (.nd true k l) (.ref p) (λa=>a=p\/∃j,Rr j a):=.own hk Rr f (gB n▸h) r.len r.rep r.dis dp r.out
theorem RpO.upd(r:RpO K F H l xs Rr)(dp:∀j,¬ Rr j p):RpO K F (L2.upd H p o) l xs Rr:={r.len,λi t x b c=>(r.rep i t x b c).frame (.refl _) λa z=>{BF<|λe=>dp i<|e▸z,(r.dom z).1},r.dis,r.out}
theorem Rp.upd(r:Rp K F H t x A)(dp:¬ A p):Rp K F (L2.upd H p o) t x A:=r.frame (.refl _) λa z=>{BF<|λe=>dp<|e▸z,(r.dom z).1}
def RpO.set(r:RpO K F H l xs Rr)(hj:j0<l.length)(rt:Rp K F H t y B)(d:∀j a,j≠j0->Rr j a->¬ B a):RpO K F H (l.set j0 t) (xs.set j0 y) (λj=>if j=j0 then B else Rr j):=by
 have m:=r.len;refine{by simp[m],λi n o g h=>?_,λi k a e f c=>?_,λi a z=>?_};by_cases b:i=j0;subst b;rw[å hj]at g;rw[å<|by lia]at h;cases g;cases h;simpa using rt;rw[á<|Ë b]at g h;simpa[b] using r.rep i n o g h;by_cases b:i=j0;erw[b,Å]at f;have hk:¬ k=j0:=λz=>e<|b.trans z.symm
 erw[hk,Ã]at c;exact d k a hk c f;erw[b,Ã]at f;by_cases hk:k=j0;erw[hk,Å]at c;exact d i a b f c;erw[hk,Ã]at c;exact r.dis i k a e f c;by_cases b:i=j0;simp[b];lia;erw[b,Ã]at z;simpa using r.out i a z
variable {O:L2.St}{Y:AM}{R:Nat->Rg}
def StR.upd(S:StR K F H O Y R){l B:Rg}(D:Y[i]?=↑↑t)(E:O[i]?=↑↑x)(q:R i p)(G:Rp K F (L2.upd H p o) t' x l)(m:∀a,l a->R i a\/B a)(s:∀j a,R j a->¬ B a) :
  StR K F (L2.upd H p o) O (Y.set i ↑t') (λj=>if j=i then l else R j)/\Stp F H (λa=>Pu.tot R a\/B a) F (L2.upd H p o) (Pu.tot λj=>if j=i then l else R j):=by
 have C :=(S.dom q).1;have v :=(É.mp D).1
 have g:Ag F<|L2.upd H p o:=λb u e=>by
  rw[BF (λz=>by rw[z,C]at e;cases e)];exact S.fh b u e
 refine{{g,by simpa using S.len,λj r e=>?_,λj a z=>?_,λj k a h f d=>?_},{.refl _,g,λb u n e=>?_,λb ⟨j,z⟩=>?_,λb u e=>.inl e}};by_cases c:j=i;subst c;rw[å v]at e;cases e;exact{x,E,by simpa using G};rw[á<|Ë c]at e;let(y,A,I):=S.rep j r e;exact{y,A,by simpa[c] using I.upd (λz=>S.dis j i p c z q)}
 by_cases c:j=i;subst c;exact{t',å v};erw[c,Ã]at z;let(r,e):=S.out j a z;exact{r,by rw[á<|Ë c];exact e}
 by_cases c:j=i;erw[c,Å]at f;have hk:¬ k=i:=λz=>h<|c.trans z.symm
 erw[hk,Ã]at d;rcases m a f with w|w;exact S.dis i k a (Ë hk) w d;exact s k a d w;erw[c,Ã]at f;by_cases hk:k=i;erw[hk,Å]at d;rcases m a d with w|w;exact S.dis i j a (Ë c) w f;exact s j a f w;erw[hk,Ã]at d;exact S.dis j k a h f d;rw[BF<|λz=>n<|.inl (by rw[z];exact{(i),q})];exact e;by_cases c:j=i;erw[c,Å]at z;rcases m b z with w|w;exact .inl<|.inl {(i),w}
 exact .inl<|.inr w
 erw[c,Ã]at z;exact .inl<|.inl {(j),z}
end
def Ep(Y:AM)(i:Nat):Option<|Kd×qF:=match Y[i]? with
 |some (↑(.nd true k l))=>(match k with
  |.tup=>none|k=>↑(k,l))
 |ϊ=>none
def NM(h:Ep Y i=↑(k,l)):Y[i]?=↑(↑(.nd true k l)):=by
 unfold Ep at h;grind
def HW(h:Ep Y i=↑(k,l)):k.isT=false:=by
 unfold Ep at h;cases k<;>first|rfl|(exfalso;grind)
def DJ(i:Nat)(m:AG):AH:=λY=>match Ep Y i with
 |some (kd,l)=>(match m Y with
  |some (.v t false)=>if l.length<BI then ↑(.nx<|Y.set i<|↑(.nd true kd<|l++[t])) else none
  |some (.v ϊ true)=>none|some (.x c)=>↑(.xc c Y)|none=>none)
 |none=>none
def JT(i:Nat)(m:AG):AH:=λY=>match Ep Y i with
 |some (kd,l)=>(match m Y with
  |some (.v (.nd ϊ .lst r) false)=>if l.length+r.length<=BI then ↑(.nx<|Y.set i<|↑(.nd true kd<|l++BP r)) else none
  |some (.v ϊ ϋ)=>none|some (.x c)=>↑(.xc c Y)|none=>none)
 |none=>none
def Ki(i:Nat)(mk m:AG):AH:=λY=>match m Y with
 |some (.v t false)=>(match Ep Y i with
  |some (kd,l)=>(match mk Y with
   |some (.v (.int k) ϊ)=>(match Bk l.length k with
    |some j=>↑(.nx<|Y.set i<|↑(.nd true kd<|l.set j t))|none=>none)
   |some (.v ϊ ϋ)=>none|some (.x c)=>↑(.xc c Y)|none=>none)
  |none=>none)
 |some (.v ϊ true)=>none|some (.x c)=>↑(.xc c Y)|none=>none
def FL:qB->Option (qF)
 |some (.nd true .lst l)=>↑l|ϊ=>none
def Gi(i:Nat)(mk mn m:AG):AH:=λY=>match m Y with
 |some (.v t false)=>(match Ep Y i with
  |some (kd,l)=>(match mk Y with
   |some (.v (.int k) ϊ)=>(match Bk l.length k with
    |some j=>(match FL l[j]? with
     |some r=>(match mn Y with
      |some (.v (.int n) ϊ)=>(match Bk r.length n with
       |some a=>↑(.nx<|Y.set i<|↑(.nd true kd<|l.set j<|.own<|r.set a t))|none=>none)
      |some (.v ϊ ϋ)=>none|some (.x c)=>↑(.xc c Y)|none=>none)
     |none=>none)
    |none=>none)
   |some (.v ϊ ϋ)=>none|some (.x c)=>↑(.xc c Y)|none=>none)
  |none=>none)
 |some (.v ϊ true)=>none|some (.x c)=>↑(.xc c Y)|none=>none
section
variable {mu:Bool}{X:Cx}{E:L2.St->XK}{ca:Str->Value}{O:L2.St}{H:Hp}{K:q9}{m mk mn:AG}{D:Ends}{e k n:Expr}{pos apos cpos p1 pos2 pos3:Pos}{i:Nat}{x:Str}
def L1(g:Dx K F H R (.int j) b y B):y=.int j:=by
 cases b with
 |true=>let(_,A,_,r):=g;exact r.int_inv
 |false=>exact(g).int_inv
def Qa{l:qF}{b:Nat->Rg}(h:∃j,(λj=>if j=l.length then B else b j) j a):(∃j,b j a)\/B a:=YH h
def Kg{b:Nat->Rg}(h:∃j,(λj=>if j=j0 then B else b j) j a):(∃j,b j a)\/B a:=by
 grind
def s_app(hN:X.N[i]?=↑x)(hv:DN X.env.scope x)(hd:(x == "__debug__")=false)(A:(x == "__classdict__")=false)(he:PE X e<|tM X.K E ca m)(G:starEach [e] X.env=[(false,eval e X.env)])(d:(apos.endLine == cpos.line)=true) :
  PS X (.Expr (.Call (.Attribute (.Name x p1) "append" apos) [e] [] cpos) pos) (tS X.K E ca mu<|DJ i m):=by
 refine PS.weak (ND (NK Ņ PySem.F.slot_list_append PySem.F.type_list_append dJ (FJ hN hv hd A) (FK he GA G) rfl (by rw[G];rfl) d G rfl) rfl) λD O H h=>?_;let(F,Y,R,S,q):=h;unfold DJ at q;cases f:Ep Y i with
 |none=>erw[f]at q<;>symm|some kl=>
  let(kd,l):=kl;erw[f]at q;have W:=NM f;let(y,T,ry):=S.rep i _ W;let(p,xs,Rr,rfl,s,fp,g,J,dp,u):=ry.own_inv<|HW f;refine{_,T,.inl {rfl,xs,Ai.of g},F,Y,R,S,?_};cases V:m Y with
  |none=>erw[V]at q<;>symm|some r=>
   erw[V]at q;cases r with
   |x c=>exact λF' H' e=>q F' H' O R e.stp0 (S.ext e)|v t bb=>
    cases bb with
    |true=>symm|false=>
     intro Q H1 y B b g1;have o :=g1
     by_cases I:l.length<BI;erw[I,Å]at q;have S1:=S.ext b;have K:=J.ext b;have C:=b.hh _ _ g;have Z:¬ B p:=λz=>by rw[b.nb p z]at g;cases g
     have n :=(ry.ext b |>.dom (by rw[s];exact .inl rfl)).1;refine{p,xs,y,rfl,rfl,C,by rw[<- J.len,<- GP];exact I,?_};have L:RpO X.K Q (upd H1 p<|.lst<|xs++[y]) (l++[t]) (xs++[y]) _:=(K.upd dp).snoc (o.upd Z) λj a N P=>J.apart b P j N
     have k:∀j,¬ (if j=l.length then B else Rr j) p:=λj z=>by
      by_cases U:j=l.length;erw[U,Å]at z;exact Z z;erw[U,Ã]at z;exact dp j z
     have r2:=IU u L n C2 k<|HW f
     let(S3,M):=S1.upd W T (by rw[s];exact .inl rfl) r2 (λa z=>by
      rw[s];rcases z with z|z;exact .inl<|.inl z
      rcases Qa z with w|w;exact .inl<|.inr w
      exact .inr w)<|λj a N P=>S.apart b P j N
     exact q Q _ O _ (b.stp.trans M) S3;erw[I,Ã]at q<;>symm
def s_ext(hN:X.N[i]?=↑x)(hv:DN X.env.scope x)(hd:(x == "__debug__")=false)(K:(x == "__classdict__")=false)(he:PE X e<|tM X.K E ca m)(N:starEach [e] X.env=[(false,eval e X.env)])(f:(apos.endLine == cpos.line)=true) :
  PS X (.Expr (.Call (.Attribute (.Name x p1) "extend" apos) [e] [] cpos) pos) (tS X.K E ca mu<|JT i m):=by
 refine PS.weak (ND (NK Ņ PySem.F.slot_list_extend PySem.F.type_list_extend zgc (FJ hN hv hd K) (FK he GA N) rfl (by rw[N];rfl) f N rfl) rfl) λD O H h=>?_;let(F,Y,R,S,q):=h;unfold JT at q;cases n:Ep Y i with
 |none=>erw[n]at q<;>symm|some kl=>
  let(kd,l):=kl;erw[n]at q;have ht:=NM n;let(y,ey,ry):=S.rep i _ ht;let(p,xs,C,rfl,I,fp,hp,ro,dp,J):=ry.own_inv<|HW n;refine{_,ey,.inl {rfl,xs,Ai.of hp},F,Y,R,S,?_};cases hm:m Y with
  |none=>erw[hm]at q<;>symm|some r=>
   erw[hm]at q;cases r with
   |x c=>exact λF' H' e=>q F' H' O R e.stp0 (S.ext e)|v t bb=>
    cases t with
    |nd o Q r=>
     cases Q with
     |lst=>
      cases bb with
      |true=>symm|false=>
       intro F1 H1 y B e1 g1;let(A,g,_,r2):=Dx.frz S e1 g1;have w :=r2;rw[T.share]at w;let(p2,ys,rfl,_,nn,s):=EU w
       by_cases P:l.length+r.length<=BI;erw[P,Å]at q;have S1:=S.ext g;have U:=ro.ext g;have M:=g.hh _ _ hp;have G :=(ry.ext g |>.dom (by rw[I];exact .inl rfl)).1
       have L :=nn;have lr :=by have:=s.1;rw[EA,À]at this;exact this
       refine{p,p2,xs,ys,rfl,rfl,M,g.fh _ _ L,by rw[<- ro.len,<- lr,<- GP];exact P,?_}
       have app:∀(u ) (d ),Am X.K A u d->∀(l ) (xs ) (k ),RpO X.K A k l xs C->RpO X.K A k (l++u) (xs++d) C:=by
        intro u
        induction u with
        |nil=>intro d hk l xs k b;rw[hk.inv0,è,è];exact b|cons t u ih=>
         intro d hk l xs k b;let(y,ys',rfl,r1,W):=hk.inv;have h2:=b.snoc (r1.any)<|λϊ ϊ ϊ z=>z
         have e3:(λj=>if j=l.length then R0 else C j)=C:=funext λj=>by
          by_cases hj:j=l.length;erw[hj,Å];exact funext λa=>propext {λz=>z.elim,λz=>absurd (b.out _ a z)<|ã _};erw[hj,Ã]
         rw[e3]at h2;have h3:=ih ys' W (l++[t]) (xs++[y]) k h2
         simpa using h3
       have V:=app _ _ s l xs _<|U.upd (o:=.lst<|xs++ys) dp;have r3:=IU J V G C2 dp<|HW n;let(S3,Z):=S1.upd ht ey (by rw[I];exact .inl rfl) r3 (λa z=>.inl (by rw[I];exact z))<|λj a z1 z2=>z2
       exact q A _ O _ ((g.stp).trans Z) S3;erw[P,Ã]at q<;>symm
     |_=>symm
    |_=>symm
def s_sto(hN:X.N[i]?=↑x)(hv:DN X.env.scope x)(hd:(x == "__debug__")=false)(N:(x == "__classdict__")=false)(he:PE X e<|tM X.K E ca m)(hk:PE X k<|tM X.K E ca mk)(hs:swapsWithSole [.Subscript (.Name x p1) k pos2] e pos.line X.env=pure false)(hw:swappedStores [.Subscript (.Name x p1) k pos2] e X.env=pure none)
  (ha : ∀ v, assign (.Subscript (.Name x p1) k pos2) X.env v = (do
   let ov <- holding [v]<|eval (.Name x p1) X.env;let iv <- holding [v,ov] (eval k X.env)
   standAt pos2
   holding [v,ov,iv] (setItem ov iv v)
   release [v,ov,iv] [])) :
  PS X (.Assign [.Subscript (.Name x p1) k pos2] e pos) (tS X.K E ca mu<|Ki i mk m):=by
 refine PS.weak (JZ he (Ks (FJ hN hv hd N) hk Qd ha) hs hw rfl) λD O H h=>?_;let(F,Y,R,S,q):=h;refine{F,Y,R,S,?_};unfold Ki at q;cases hm:m Y with
 |none=>erw[hm]at q<;>symm|some r=>
  erw[hm]at q;cases r with
  |x c=>exact λG I e=>q G I O R e.stp0 (S.ext e)|v t bb=>
   cases bb with
   |true=>symm|false=>
    intro F1 H1 y B d g1;have K :=g1;simp only at q;cases n:Ep Y i with
    |none=>erw[n]at q<;>symm|some kl=>
     let(kd,l):=kl;erw[n]at q;have o:=S.ext d;have ht:=NM n;let(y2,ey,ry):=o.rep i _ ht;refine{y2,ey,F1,Y,R,o,?_};cases g:mk Y with
     |none=>erw[g]at q<;>symm|some r=>
      erw[g]at q;cases r with
      |x c=>exact λG I e=>q G I O R ((d.stp0).trans e.stp0) (o.ext e)|v tk bk=>
       cases tk with
       |int kk=>
        simp only at q;cases A:Bk l.length kk with
        |none=>erw[A]at q<;>symm|some j=>
         erw[A]at q;intro Z H2 z C s g2;have hz:=L1 g2;subst hz;have S2:=o.ext s;have T:=ry.ext s;let(p,xs,Rr,rfl,u,fp,hp,ro,dp,M):=T.own_inv<|HW n;have P:=(Ji A).2.1;have L:=K.ext s
         have pB :=λz=>by
          have:R i p:=by rw[u];exact .inl rfl
          exact S.apart d z i this
         refine{p,xs,kk,j,rfl,rfl,hp,by rw[<- ro.len];exact A,?_};have Q:RpO X.K Z (upd H2 p<|.lst<|xs.set j y) (l.set j t) (xs.set j y) _:=(ro.upd dp).set P (L.upd pB) λb a ϊ V W=>S.apart d W i (by rw[u];exact .inr {(b),V})
         have J:∀b,¬ (if b=j then B else Rr b) p:=λb z=>by
          by_cases f:b=j;erw[f,Å]at z;exact pB z;erw[f,Ã]at z;exact dp b z
         have r3:=IU M Q fp C2 J<|HW n
         let(S3,U):=S2.upd ht ey (by rw[u];exact .inl rfl) r3 (λa z=>by
          rw[u];rcases z with z|z;exact .inl<|.inl z
          rcases Kg z with w|w;exact .inl<|.inr w
          exact .inr w)<|λj a V W=>S.apart d W j V
         exact q Z _ O _ ((d.stp.trans s.stp0).trans U) S3
       |_=>symm
set_option tactic.hygienic true in
def zna(hN:X.N[i]?=↑x)(hv:DN X.env.scope x)(hd:(x == ("__debug__":Str))=false)(hcd:(x == ("__classdict__":Str))=false)(he:PE X e<|tM X.K E ca m)(hk:PE X k<|tM X.K E ca mk)(hn:PE X n<|tM X.K E ca mn)(hpl:KU k)(hs:swapsWithSole [.Subscript (.Subscript (.Name x p1) k pos2) n pos3] e pos.line X.env=pure false)(hw:swappedStores [.Subscript (.Subscript (.Name x p1) k pos2) n pos3] e X.env=pure none)
  (ha : ∀ v, assign (.Subscript (.Subscript (.Name x p1) k pos2) n pos3) X.env v = (do
   let ov <- holding [v]<|eval (.Subscript (.Name x p1) k pos2) X.env;let iv <- holding [v,ov] (eval n X.env)
   standAt pos3
   holding [v,ov,iv] (setItem ov iv v)
   release [v,ov,iv] [])) :
  PS X (.Assign [.Subscript (.Subscript (.Name x p1) k pos2) n pos3] e pos) (tS X.K E ca mu<|Gi i mk mn m):=by
 refine PS.weak (JZ he (Ks (NH fM (FJ hN hv hd hcd) hk hpl) hn Qd ha) hs hw rfl) λD O H h=>?_;let(F,Y,R,S,q):=h;refine{F,Y,R,S,?_};unfold Gi at q;cases hm:m Y with
 |none=>erw[hm]at q<;>symm|some r=>
  erw[hm]at q;cases r with
  |x c=>exact λZ H' e=>q Z H' O R e.stp0 (S.ext e)|v t bb=>
   cases bb with
   |true=>symm|false=>
    intro F1 H1 y B L g1;have g1' :=g1;simp only at q;cases ho:Ep Y i with
    |none=>erw[ho]at q<;>symm|some kl=>
     let(kd,l):=kl;erw[ho]at q;have S1:=S.ext L;have ht:=NM ho;let(y2,ey,ry):=S1.rep i _ ht;refine{y2,ey,F1,Y,R,S1,?_};cases hkk:mk Y with
     |none=>erw[hkk]at q<;>symm|some r=>
      erw[hkk]at q;cases r with
      |x c=>exact λZ H' e=>q Z H' O R ((L.stp0).trans e.stp0) (S1.ext e)|v tk bk=>
       cases tk with
       |int kk=>
        simp only at q;cases hj:Bk l.length kk with
        |none=>erw[hj]at q<;>symm|some j=>
         erw[hj]at q;cases W:FL l[j]? with
         |none=>erw[W]at q<;>symm|some r=>
          erw[W]at q;intro F2 H2 z C e2 g2;have hz:=L1 g2;subst hz;have S2:=S1.ext e2;have ry2:=ry.ext e2;let(p,xs,Rr,rfl,V,fp,hp,ro,dp,hOw):=ry2.own_inv<|HW ho;have hjl:=(Ji hj).2.1;have P:j<xs.length:=by have:=ro.len;lia
          have hlj :=by
           unfold FL at W;split at W;rename_i e;cases W;exact e;cases W
          have rk:=ro.rep j _ _ hlj<|Á P
          have Hw:Ar xs kk=↑xs[j]:=by
           unfold Ar;rw[<- ro.len,hj];exact Á P
          refine{p,xs,kk,xs[j],rfl,rfl,Ai.of hp,Hw,F2,Y,R,S2,?_};cases hnn:mn Y with
          |none=>erw[hnn]at q<;>symm|some r'=>
           erw[hnn]at q;cases r' with
           |x c=>exact λZ H' e=>q Z H' O R ((L.stp0.trans e2.stp0).trans e.stp0) (S2.ext e)|v tn bn=>
            cases tn with
            |int nn=>
             simp only at q;cases N:Bk r.length nn with
             |none=>erw[N]at q<;>symm|some u=>
              erw[N]at q;intro F3 H3 z C T g3;have hz:=L1 g3;subst hz;have S3:=S2.ext T;have g:=ro.ext T;have hp3:=T.hh _ _ hp;have fp3 :=(ry2.ext T |>.dom (by rw[V];exact .inl rfl)).1
              have rk3:=rk.ext T;let(J,ys,Rq,ep,A,fp2,hp2,rq,dq,_):=rk3.own_inv rfl;have g3':=(g1'.ext e2).ext T;have U:∀a,Rr j a->R i a:=λa z=>by rw[V];exact .inr {(j),z}
              have f:Rr j J:=by rw[A];exact .inl rfl
              have p2B :=λz=>S.apart L z i<|U _ f
              have pp2:p≠J:=λz=>dp j<|z▸f
              have hj2l:=(Ji N).2.1;rw[ep];refine{J,ys,nn,u,rfl,rfl,hp2,by rw[<- rq.len];exact N,?_};have rq2:RpO X.K F3 (upd H3 J<|.lst<|ys.set u y) (r.set u t) (ys.set u y) _:=(rq.upd dq).set hj2l (g3'.upd p2B) λb a ϊ M K=>S.apart L K i<|U _ (by rw[A];exact .inr {(b),M})
              have dq2:∀b,¬ (if b=u then B else Rq b) J:=λb z=>by
               by_cases d:b=u;erw[d,Å]at z;exact p2B z;erw[d,Ã]at z;exact dq b z
              have rrow:=IU (k:=.lst) trivial rq2 fp2 C2 dq2 rfl;have Q :=λb hne z=>ro.dis b j J hne z f
              have xsj:xs.set j (.ref J)=xs:=by
               have :=ep;rw[<- this];exact List.set_getElem_self P
              have ro4:RpO X.K F3 (upd H3 J<|.lst<|ys.set u y) (l.set j<|.own<|r.set u t) xs (λb=>if b=j then (λa=>a=J\/∃b,(if b=u then B else Rq b) a) else Rr b):=by
               refine{by simpa using g.len,λI t' x' h1 h2=>?_,λI k' a hik M K=>?_,λI a z=>?_};by_cases s:I=j;subst s;rw[å hjl]at h1;cases h1;rw[Á P]at h2;cases h2;rw[ep];simpa using rrow;rw[á<|Ë s]at h1;have:=(g.rep I t' x' h1 h2).upd (o:=.lst<|ys.set u y) (Q I s)
               simpa[s] using this
               have sub:∀a,(a=J\/∃b,(if b=u then B else Rq b) a)->Rr j a\/B a:=λa z=>by
                rcases z with z|z;exact .inl (by rw[z];exact f);rcases Kg z with w|w;exact .inl (by rw[A];exact .inr w);exact .inr w
               by_cases s:I=j;erw[s,Å]at M;have G:¬ k'=j:=λz=>hik<|s.trans z.symm
               erw[G,Ã]at K;rcases sub a M with w|w;exact g.dis j k' a (Ë G) w K;exact S.apart L w i (by rw[V];exact .inr {(k'),K});erw[s,Ã]at M;by_cases G:k'=j;erw[G,Å]at K;rcases sub a K with w|w;exact g.dis I j a s M w;exact S.apart L w i (by rw[V];exact .inr {(I),M});erw[G,Ã]at K;exact g.dis I k' a hik M K;by_cases s:I=j;simpa[s] using hjl;erw[s,Ã]at z;simpa using g.out I a z
              have dp3:∀b,¬ (if b=j then (λa=>a=J\/∃b,(if b=u then B else Rq b) a) else Rr b) p:=λb z=>by
               by_cases d:b=j;erw[d,Å]at z;rcases z with z|z;exact pp2 z;rcases Kg z with w|w;exact dp j (by rw[A];exact .inr w);exact S.apart L w i (by rw[V];exact .inl rfl);erw[d,Ã]at z;exact dp b z
              have rall:=IU hOw ro4 fp3 (by rw[BF pp2];exact hp3) dp3<|HW ho
              let(S4,st4):=S3.upd ht ey (U _ f) rall (λa z=>by
               rw[V];rcases z with z|⟨b,z⟩;exact .inl<|.inl z
               by_cases d:b=j;erw[d,Å]at z;rcases z with z|z;exact .inl<|.inr {j,by rw[z];exact f}
               rcases Kg z with w|w;exact .inl<|.inr {j,by rw[A];exact .inr w}
               exact .inr w
               erw[d,Ã]at z;exact .inl<|.inr {(b),z})<|λj a M K=>S.apart L K j M
              exact q F3 _ O _ (((L.stp.trans e2.stp0).trans T.stp0).trans st4) S4
            |_=>symm
       |_=>symm
end
section
variable {X:Cx}{E:L2.St->XK}{ca:Str->Value}{O:L2.St}{H F:Hp}{K:q9}{m mk:AG}{ms:BN}{D:Ends}{e:Expr}{es:ku}{pos apos cpos p1 p2:Pos}{i j:Nat}{x y:Str}{Y:AM}{R:Nat->Rg}{mu:Bool}
set_option genInjectivity true in
inductive Mo where
 |ok (v:T) (Y:AM)|exc (c:Str) (Y:AM)
def Gg(K:q9)(ca:Str->Value)(g:qF->Option Ru):Sp:=λf H Q E=>∃F p l e A d,Ag F H/\f=.ref p::d/\Rp K F H (.nd true (.pin p) l) (.ref p) A/\Am K F e d/\match g (.nd true (.pin p) l::e) with
 |some (.ok t)=>∀b a x B,Stp F H A b a B->Wr K true b a t x B->Q x a|some (.exc c)=>∀b a,Stp F H A b a R0->XE E ca c b a|none=>False
variable {mm:AM->Option Mo}
end
abbrev Z5(A:Around):Around:={ A with handled:=none }
structure FnS(P:Program)(w:World)(K:q9)(mg:Str->Option Value)(base:Heap)(k:Nat)(f:Addr)(fd:FuncData)(p:Str)(sp:Sp):Prop where
 run:∀(A:Around) (outer:List Env) (s:Shared) (H:Hp) (args:Args) (a:Addr) (Q:VK),A.handled=↑(.ref a)->(∃C,IsX H a C)->Room k (Z5 A)->Env0 P w K mg base A outer s H->BindsTo s fd args [(p,.ref a)]->sp [.ref a] H Q E0 ->
  codeAny (model P w) A (.call (.ref f) args) (CR MU outer P w H s Q E0) s
structure DefS(P:Program)(w:World)(K:q9)(mg:Str->Option Value)(base:Heap)(k:Nat)(x p:Str)(sp:Sp) where
 f:Addr
 fd:FuncData
 ok:FnS P w K mg base k f fd p sp
 m:mg x=↑(.ref f)
 kp:W.keepIn K (.ref f)=true
 b:Cn K fd [p] []
section
variable {X:Cx}{pz:List<|Addr×Obj}{O:L2.St}{H:Hp}{s:Shared}{a:Addr}{kvs:List<|Key×V}
end
section
variable {X:Cx}
def tDicO:TE:=λϊ H Q=>∀p,H p=none->Q (.ref p) (upd H p<|.dK [])
theorem zl1:PE X (.Dict [] [] pos) tDicO:=λa s O H Q I h=>by
 refine wpAny_Dict_empty {.ref s.heap.objs.size,_,I.laid (λϊ ϊ q=>Ó _ q) (Ä _)<|zj9 s.heap I.big,rfl,h _<|I.hok.fresh<|Ä _}
variable {E:L2.St->XK}{ca:Str->Value}{m mk mv:AG}{e k:Expr}{pos p1 pos2:Pos}{mu:Bool}
end
section
variable {X:Cx}{E:L2.St->XK}{ca:Str->Value}{m mk:AG}{e k:Expr}{pos p1 pos2:Pos}{mu:Bool}{i:Nat}{x:Str}
end
set_option tactic.hygienic true in
def zp1(b:X.A.units+64<cLine):As X (compareOp .NotEq)<|Bt X.K DV:=by
 intro m s O H x y v u Q I i j h;let(F,n,o,r,fh,f,g,e,q):=h;unfold DV at e;split at e
 cases e;rename_i a;unfold Im Ef at a;rw[Æ,Æ,Æ,Æ,ó]at a;let(k,c):=HQ I fh (f.any) a.1.1.1 i;let(l,d):=HQ I fh (g.any) a.1.2.1 j;exact SeqAt.compareNe_reads c d a.1.1.2 a.1.2.2 (j1 b a.2) {.bl _,H,I,rfl,q.bl fh}
 cases e
def StR.frz{K }       (S:StR K F H O Y R)(h:Y[i]?=↑↑t):StR K (Pu.frz F H<|R i) H O (Y.set i ↑t.share) (λj=>if j=i then R0 else R j):=by
 let(x,ex,r):=S.rep i t h;have o:i<Y.length:=(É.mp h).1;have n:∀a,R i a->F a=none:=λa z=>(r.dom z).1
 refine{Jp S.fh,by simpa using S.len,λj g e=>?_,λj a z=>?_,λj k a f c d=>?_};by_cases b:j=i;subst b;rw[å o]at e;cases e;exact{x,ex,by simpa using r.share (F7 n) λa u z q=>by rw[Ee z];exact q};rw[á<|Ë b]at e;let(y,m,l):=S.rep j g e;refine{y,m,?_};erw[b,Ã]
 exact l.frame (F7 n) λa z=>{rfl,by
  rw[F6<|λp=>S.dis j i a b z p]
  exact(l.dom z).1}
 by_cases b:j=i;erw[b,Å]at z;exact z.elim;erw[b,Ã]at z;let(g,e):=S.out j a z;exact{g,by rw[á<|Ë b];exact e}
 by_cases b:j=i;erw[b,Å]at c;exact c.elim;by_cases hk:k=i;erw[hk,Å]at d;exact d.elim;erw[b,Ã]at c;erw[hk,Ã]at d;exact S.dis j k a f c d
open Classical in
def Fb(A:Rg)(F:Hp):Hp:=λa=>if A a then none else F a
section
variable {X:Cx}{E:L2.St->XK}{ca:Str->Value}{O:L2.St}{H:Hp}{K:q9}{u w:AH}{D:Ends}
end
def Nq{fs:ky}{xs}{f}:∀{j} {x:V},fs.findIdx? (· == f)=↑j->xs[j]?=↑x->(fs.zip xs).lookup f=↑x:=by
 induction fs generalizing xs with
 |nil=>intro j x h;simp at h|cons g r i=>
  intro j x h a;rw[ų]at h;cases xs with
  |nil=>simp at a|cons y l=>
   rw[Ģ,æ];by_cases b:g=f;subst b;erw[Ą,Å,Ŧ]at h;subst h;simp at a;rw[Ą,a];have c:(g == f)=false:=beq_eq_false_iff_ne.mpr b;have d:(f == g)=false:=beq_eq_false_iff_ne.mpr<|Ë b;rw[c]at h;erw[ņ,Ã,Ú]at h;let(k,e,rfl):=h;rw[d];exact i e<|by simpa using a
def zbh{fs:ky}{xs:qE}(h:fs.contains f=false):(fs.zip xs).lookup f=none:=by
 induction fs generalizing xs with
 |nil=>rfl|cons g r a=>
  cases xs with
  |nil=>rfl|cons y b=>rw[œ,õ]at h;rw[Ģ,æ,h.1];exact a h.2
def Rp.obj_inv{K}(h:Rp K F H (.obj k l) x A):∃p xs,x=.ref p/\A=R0/\KW F k p xs/\l.length=xs.length/\∀(i:Nat) (t) (x),l[i]?=↑t->xs[i]?=↑x->Rp K F H t x R0:=by
 cases h with
 |obj h e c=>exact{_,_,rfl,rfl,h,e,c}
def Ao(C:Addr)(fs:ky):T->Option (qF)
 |.obj (.ins b a) l=>if b=C/\a=fs then ↑l else none
 |ϊ=>none
def fX(h:Ao C fs t=↑l):t=.obj (.ins C fs) l:=by
 unfold Ao at h;grind
def AU(C:Addr)(fs:ky)(j:Nat)(m:AG):AG:=λY=>match m Y with
 |some (.v t b)=>(match Ao C fs t with
  |some l=>(match l[j]? with
   |some u=>↑(.v u<|b && !u.sh)|none=>none)
  |none=>none)
 |some (.x c)=>↑(.x c)|none=>none
def BU(C:Addr)(fs:ky)(g:qF->Option Ru)(m:AG)(ms:BN):AG:=λY=>match m Y with
 |some (.v t ϊ)=>(match Ao C fs t with
  |some ϊ=>(match ms Y with
   |some (.v a b)=>(match g (t.share::a) with
    |some (.ok v)=>BZ b v|some (.exc c)=>Lc true c|none=>none)
   |some (.x c)=>↑(.x c)|none=>none)
  |none=>none)
 |some (.x c)=>↑(.x c)|none=>none
def Aw(m n:AG):AG:=λY=>match m Y with
 |some r=>↑r|none=>n Y
section
variable {X:Cx}{E:L2.St->XK}{ca:Str->Value}{m n:AG}{ms:BN}{e o:Expr}{es:ku}{pos p apos:Pos}{C:Addr}{fs:ky}{f:Str}{j:Nat}
theorem Sk(c:PE X e<|tM X.K E ca m)(d:PE X e<|tM X.K E ca n):PE X e<|tM X.K E ca<|Aw m n:=λb s O H Q I h=>by
 let(F,Y,R,S,q):=h;unfold Aw at q;cases a:m Y with
 |none=>rw[a]at q;exact d b s O H Q I {(F),Y,R,S,q}|some r=>rw[a]at q;exact c b s O H Q I {F,Y,R,S,by rw[a];exact q}
def OK{K}(g:Dx K F H R (.obj k l) b x B):Rp K F H (.obj k l) x R0/\B=R0:=by
 cases b with
 |true=>let(c,A,_,r):=g;let(p,xs,rfl,a,_):=r.obj_inv;exact{a▸r,c}
 |false=>have r:Rp K F H (.obj k l) x B:=g;let(p,xs,rfl,a,_):=r.obj_inv;exact{a▸r,a}
def r_fld(c:Cls X.K C)(J:B7 X.K C f)(hj:fs.findIdx? (· == f)=↑j)(K:PE X o<|tM X.K E ca m)(G:attributeBase o f X.env (eval o X.env)=eval o X.env):PE X (.Attribute o f pos)<|tM X.K E ca<|AU C fs j m:=by
 refine PE.weak (NI K G) λO H Q h=>?_;let(F,Y,R,S,q):=h;refine{F,Y,R,S,?_};unfold AU at q;cases k:m Y with
 |none=>erw[k]at q<;>symm|some r=>
  erw[k]at q;cases r with
  |x c=>exact q|v t b=>
   intro p s x B i g1;cases g:Ao C fs t with
   |none=>erw[g]at q<;>symm|some l=>
    erw[g]at q;have L:=fX g;subst L;cases d:l[j]? with
    |none=>erw[d]at q<;>symm|some u=>
     erw[d]at q;let(M,A):=OK g1;subst A;let(a,xs,rfl,_,(y,D),N,w):=M.obj_inv;have I:=(É.mp d).1;have n:xs[j]?=↑xs[j]:=Á<|by lia
     have e:=w j u _ d n;refine{a,_,y,_,xs[j],rfl,i.fh _ _ D,c,J,Nq hj n,?_};refine q p s _ R0 i ?_;cases b with
     |false=>exact e|true=>
      cases P:u.sh with
      |true=>exact e|false=>exact{rfl,R0,λϊ z=>z.elim,e}
structure MetX(P:Program)(w:World)(K:q9)(mg:Str->Option Value)(base:Heap)(C:Addr)(m:Str)(k:Nat)(ps:ky)(sp:Sp) where
 f:Addr
 fd:FuncData
 c:Cls K C
 me:Meth K C m f
 ok:FnOk P w K mg base (Dg P w) k f fd ps sp
 b:Cn K fd ps []
def Q0(C:Addr)(m:Str)(sp:Sp)(E:L2.St->XK)(e:TE)(t:TA):TE:=λO H Q=>e O H λx b=>∃a d fs,x=.ref a/\b a=↑(.ins C d fs)/\fs.lookup m=none /\
 t O b λf c=>sp (x::f) c Q<|E O
def pmx(D:MetX X.prog X.w X.K X.mg X.base C f k ps sp)(y:Room j X.A)(A:C1 X E)(w:PE X o ta)(v:PA X (e::es) t)(hk:k<=j)
  (c:starEach (e::es) X.env=(false,eval e X.env)::starEach es X.env) (b:(backTo pos<|starEach es X.env).any (·.1)=false)
  (z : eval (.Call (.Attribute o f apos) (e :: es) [] pos) X.env = (do
   let ov <- eval o X.env
   standAt apos.atName
   let (f,first) <- holding [ov] (getMethod ov f pl)
   callWith pos f first (backTo pos<|starEach (e::es) X.env) (backToKw pos<|keywordEach [] X.env))):PE X (.Call (.Attribute o f apos) (e::es) [] pos)<|Q0 C f sp E ta t:=by
 intro g s O H Q I h;refine W.methodCall_KW (pl:=pl) (A5 (w g s O H _ I h) λu F G=>?_) z;let(x,n,d,B,a,J,fs,ex,p,l,q):=G;subst ex;obtain rfl:u=Value.ref a:=B;refine gI d p D.c D.me l ?_;refine Œ (first:=[.ref a]) (h₀:=X.base) I.ok.mod.kin D.me.kp (A5 (v pos g F O n _ d q) λi K ⟨m,H2,I2,r,q2⟩=>{I2.kIn,?_}) c b;exact Mw (us:=.ref a::i) (vs:=.ref a::m) (dvs:=[]) D.ok (y.mono hk) D.b .nil A I2 (.cons rfl r) (by rw[è];exact q2)
def pmx0(D:MetX X.prog X.w X.K X.mg X.base C f k ps sp)(e:Room j X.A)(i:C1 X E)(d:PE X o ta)(hk:k<=j)
  (g : eval (.Call (.Attribute o f apos) [] [] pos) X.env = (do
   let ov <- eval o X.env
   standAt apos.atName
   let (f,first) <- holding [ov] (getMethod ov f pl)
   callWith pos f first (backTo pos<|starEach [] X.env) (backToKw pos<|keywordEach [] X.env))):PE X (.Call (.Attribute o f apos) [] [] pos)<|Q0 C f sp E ta Xv:=by
 intro m s O H Q I h;refine W.methodCall_KW (A5 (d m s O H _ I h) λu v p=>?_) g;let(x,r,b,n,a,t,fs,ex,c,l,q):=p;subst ex;obtain rfl:u=Value.ref a:=n;refine gI b c D.c D.me l ?_;exact W.callWith_K0 b.kIn D.me.kp<|Mw (vs:=[.ref a]) D.ok (e.mono hk) D.b .nil i b (.cons rfl .nil) q
def Xx(i:fs.contains f=false)(h:tM X.K E ca (BU C fs g m ms) O H Q):Q0 C f (Bp X.K ca g) E (tM X.K E ca m) (CD X.K E ca ms) O H Q:=by
 let(F,Y,R,S,q):=h;refine{F,Y,R,S,?_};unfold BU at q;cases L:m Y with
 |none=>erw[L]at q<;>symm|some r=>
  erw[L]at q;cases r with
  |x c=>exact q|v t b=>
   intro V H1 x B k g1;cases y:Ao C fs t with
   |none=>erw[y]at q<;>symm|some l=>
    erw[y]at q;have ht:=fX y;subst ht;let(N,hB):=OK g1;subst hB;have I:=S.ext k;let(a,xs,rfl,_,(Z,hF),el,cc):=N.obj_inv;refine{a,Z,_,rfl,k.fh _ _ hF,zbh i,V,Y,R,I,?_};cases M:ms Y with
    |none=>erw[M]at q<;>symm|some r=>
     erw[M]at q;cases r with
     |x c=>exact λD p e=>q D p (k.trans0 e)|v ts u=>
      intro j s vs w rs;have J:=I.ext w;simp only at q;have r2:Rp X.K (Gz u j s R) s (T.obj (.ins C fs) l).share (.ref a) R0:=(N.ext w).share (OJ J) λϊ ϊ z=>z.elim
      refine{Gz u j s R,_,Us J,.cons r2 rs,?_};have d:=k.trans0 w;cases K:g ((T.obj (.ins C fs) l).share::ts) with
      |none=>erw[K]at q<;>symm|some r=>
       erw[K]at q;cases r with
       |exc c=>
        erw[Lc]at q;cases A:Fz c with
        |none=>rw[A]at q;exact λD p o=>(q j p<|d.grow o.hh).any A|some n=>rw[A]at q;symm
       |ok v=>
        intro W G z U o P;simp only at q;unfold BZ at q;cases u with
        |false=>exact q W G z U (d.trans0 o) P|true=>
         cases i:v.flat with
         |false=>rw[i]at q;cases q|true=>rw[i]at q;exact q j G z R0 (d.grow o.hh)<|P.flat_any i
theorem znz(D:MetX X.prog X.w X.K X.mg X.base C f k ps<|Bp X.K ca g)(i:fs.contains f=false)(l:Room j X.A)(p:C1 X E)(d:PE X o<|tM X.K E ca m)(c:PA X (e::es)<|CD X.K E ca ms)(hk:k<=j)
  (b:starEach (e::es) X.env=(false,eval e X.env)::starEach es X.env) (a:(backTo pos<|starEach es X.env).any (·.1)=false)
  (n : eval (.Call (.Attribute o f apos) (e :: es) [] pos) X.env = (do
   let ov <- eval o X.env
   standAt apos.atName
   let (f,first) <- holding [ov] (getMethod ov f pl)
   callWith pos f first (backTo pos<|starEach (e::es) X.env) (backToKw pos<|keywordEach [] X.env))):PE X (.Call (.Attribute o f apos) (e::es) [] pos)<|tM X.K E ca<|BU C fs g m ms:=
 PE.weak (pmx D l p d c hk b a n) λO H Q h=>Xx i h
structure NewX(P:Program)(w:World)(K:q9)(mg:Str->Option Value)(base:Heap)(x:Str)(C:Addr)(k:Nat)(ps:ky)(sp:Sp) where
 f:Addr
 fd:FuncData
 m:mg x=↑(.ref C)
 ma:Mk K C f
 ok:FnOk P w K mg base (Dg P w) k f fd ps sp
def zmu(C:Addr)(sp:Sp)(dvs:qE)(E:L2.St->XK)(t:TA):TE:=λO H Q=>t O H λd b=>∀x a,b x=none->b a=none->a≠x ->
 sp (.ref x::(d++dvs)) (upd (upd b a<|.own x) x<|.ins C a []) (λv c=>v=.non/\Q (.ref x) c) (E O)
def pnx{x:Str}{t:TA}(D:NewX X.prog X.w X.K X.mg X.base x C k ps sp)(z:Cn X.K D.fd ps ds)(hd:Al dvs ds)(G:Room j X.A)(J:C1 X E)(y:PA X (e::es) t)(hk:k+1<=j)(B:Gl X x)(f:(x == ("__debug__":Str))=false)
  (A:starEach (e::es) X.env=(false,eval e X.env)::starEach es X.env) (g:(backTo pos<|starEach es X.env).any (·.1)=false):PE X (.Call (.Name x p) (e::es) [] pos)<|zmu C sp dvs E t:=by
 intro l s O H Q I h;refine ī<|Jc I B D.m ?_ f;refine Œ I.ok.mod.kin D.ma.kp (A5 (y pos l s O H _ I h) λc b ⟨N,H1,I1,r,q⟩=>{I1.kIn,?_}) A g
 have i:=q (b.heap.objs.size+1) b.heap.objs.size (I1.hok.fresh<|Ę _) (I1.hok.fresh<|Ä _)<|Ô<|ċ _;have d:=Inv.made (C:=C) I1;have m:Al (V.ref (b.heap.objs.size+1)::(N++dvs))<|Value.ref (b.heap.objs.size+1)::(c++ds):=.cons rfl<|r.append hd
 have F :=by
  have e:=m.length;rw[D.ok.len _ _ _ _ i]at e;exact e.symm
 refine ŀ (zio I1.kIn D.ma.makes D.ma.init (beq_iff_eq.mp D.ma.fn) (Ě (D.ok.run _ X.stack _ _ {Value.ref (b.heap.objs.size+1)::c,[]} (Value.ref (b.heap.objs.size+1)::(c++ds)) _ _ (E O) ((G.mono hk).make C c [])
  (d.env0.make C c []) (z _ (Value.ref (b.heap.objs.size+1)::c) d.kIn F) m i) λr M a=>?_))
 cases r with
 |error v=>exact J l O _ _ v M d a|ok fl=>
  cases fl with
  |ret u=>let(v,n,o,L,w,K):=d.after a;subst w;exact{L,{V.ref<|b.heap.objs.size+1,n,o,rfl,K}}
  |next=>exact False.elim a|brk=>exact False.elim a|cont=>exact False.elim a
def Kc(K:q9)(ca:Str->Value)(C:Addr)(g:qF->Option Ru):Sp:=λi H Q E=>∃F p h f e,Ag F H/\i=.ref p::e/\F p=none/\H p=↑(.ins C h [])/\Am K F f e/\match g f with
 |some (.ok t)=>∀d b,Stp F H (λa=>a=p) d b R0->Rp K d b t (.ref p) R0->Q .non b|some (.exc c)=>∀d b,Stp F H (λa=>a=p) d b R0->XE E ca c d b|none=>False
def Hc(g:qF->Option Ru)(ds:qF)(ms:BN):AG:=λY=>match ms Y with
 |some (.v a false)=>(match g (a++ds) with
  |some (.ok t)=>↑(.v t false)|some (.exc c)=>↑(.x c)|none=>none)
 |some (.v ϊ true)=>none|some (.x c)=>↑(.x c)|none=>none
def r_new{k j:Nat}{x:Str}(D:NewX X.prog X.w X.K X.mg X.base x C k ps<|Kc X.K ca C g)(U:Cn X.K D.fd ps ds)(hd:Al dvs ds)(K:∀F:Hp,Am X.K F dts dvs)(Z:Room j X.A)(hx:C1 X E)(i:PA X (e::es)<|CD X.K E ca ms)(hk:k+1<=j)(B:Gl X x)(J:(x == ("__debug__":Str))=false)
  (V:starEach (e::es) X.env=(false,eval e X.env)::starEach es X.env) (L:(backTo pos<|starEach es X.env).any (·.1)=false):PE X (.Call (.Name x p) (e::es) [] pos)<|tM X.K E ca<|Hc g dts ms:=by
 refine PE.weak (pnx D U hd Z hx i hk B J V L) λO H Q h=>?_;let(F,Y,R,S,q):=h;refine{F,Y,R,S,?_};unfold Hc at q;cases P:ms Y with
 |none=>erw[P]at q<;>symm|some r=>
  erw[P]at q;cases r with
  |x c=>exact q|v T b=>
   cases b with
   |true=>exact λn G xs y rs=>q.elim|false=>
    intro n G xs y rs a m i l W;simp only at q;have M :=rs
    have s:∀d f,Stp n (upd (upd G m<|.own a) a<|.ins C m []) (λb=>b=a) d f R0->Ext F H d f R0:=λd f st=>by
     refine y.trans0 {λb u z=>?_,st.ff,st.fh,λϊ z=>z.elim,λb u z=>?_};have o :=DB z i;have A :=DB z l;exact st.kp b u o (by rw[BF o,BF A];exact z)
     rcases st.nf b u z with w|w|w;exact .inl w;rw[w];exact .inr i;by_cases o:b=a;rw[o];exact .inr i;by_cases A:b=m;rw[A];exact .inr l;rw[BF o,BF A]at w;exact .inr w
    have I:Ag n<|upd (upd G m<|.own a) a<|.ins C m []:=λb u z=>by
     have N:=y.fh b u z;rw[BF<|DB N i,BF<|DB N l];exact N
    refine{n,a,m,T++dts,xs++dvs,I,rfl,IY y.fh i,C2,My M<|K n,?_};cases B:g (T++dts) with
    |none=>erw[B]at q<;>symm|some r=>
     erw[B]at q;cases r with
     |exc c=>exact λd f st=>q d f (s d f st)|ok t=>exact λd f st r=>{rfl,q d f _ R0 (s d f st) r}
end
def ES(Y:AM)(i:Nat)(C:Addr)(fs:ky):Option<|Addr×qF:=match Y[i]? with
 |some (↑(.oob p b a l))=>if b=C/\a=fs then ↑(p,l) else none
 |ϊ=>none
set_option tactic.hygienic true in
def J2(h:ES Y i C fs=↑(p,l)):Y[i]?=↑(↑(.oob p C fs l)):=by
 unfold ES at h;split at h;rename_i q;split at h;rename_i a;cases h;rw[q,a.1,a.2];cases h;cases h
def CN(C:Addr)(fs:ky)(j i:Nat)(m:AG):AH:=λY=>match m Y with
 |some (.v t false)=>(match ES Y i C fs with
  |some (p,l)=>if l.length=j then ↑(.nx<|Y.set i<|↑(.oob p C fs<|l++[t])) else none
  |none=>none)
 |some (.v ϊ true)=>none|some (.x c)=>↑(.xc c Y)|none=>none
def GB:qB->Option (ky×qF)
 |some (.osd a l)=>↑(a,l)|ϊ=>none
def ZX(h:GB o=↑(ks,l)):o=↑(.osd ks l):=by
 unfold GB at h;grind
open Classical in
def JV(C:Addr)(fs:ky)(j i:Nat)(mk m:AG):AH:=λY=>match m Y with
 |some (.v t false)=>(match ES Y i C fs with
  |some (p,l)=>(match GB l[j]? with
   |some (a,lv)=>(match mk Y with
    |some (.v (.str k) ϊ)=>if k∉a/\a.length<100000 then ↑(.nx<|Y.set i<|↑(.oob p C fs<|l.set j<|.osd (a++[k])<|lv++[t.share])) else none
    |some (.v ϊ ϋ)=>none|some (.x c)=>↑(.xc c Y)|none=>none)
   |none=>none)
  |none=>none)
 |some (.v ϊ true)=>none|some (.x c)=>↑(.xc c Y)|none=>none
def Hf:AG:=λϊ=>↑(.v (.osd [] []) false)
def Yy{y:V}:∀{fs:ky} {xs:qE},fs[xs.length]?=↑f->(fs.take xs.length).contains f=false->DL f y (fs.zip xs)=fs.zip (xs++[y])
 |[],xs,h,ϊ=>by simp at h|g::r,[],h,ϊ=>by
  simp at h;subst h;simp[DL]
 |g::r,x::xs,h,a=>by
  rw[ñ,List.take_succ_cons,œ,õ]at a
  have b:¬ g=f:=λz=>by
   grind
  have c:=Yy (y:=y) (by simpa using h) a.2;rw[Ģ,ũ,Ģ];show(if g=f then _ else _)=_
  grind
section
variable {K:q9}{F H:Hp}{C:Addr}{fs:ky}{l:qF}
def Rp.oob_inv(h:Rp K F H (.oob p C fs l) x A):∃dx xs Rr,x=.ref p/\A=(λa=>a=p\/∃j,Rr j a)/\F p=none/\H p=↑(.ins C dx<|fs.zip xs)/\RpO K F H l xs Rr/\∀j,¬ Rr j p:=by
 cases h with
 |oob R f h e c d dp o=>exact{_,_,R,rfl,rfl,f,h,{(e),c,d,o},dp}
theorem NR(r:RpO K F H l xs Rr)(f:F p=none)(h:H p=↑(.ins C dx<|fs.zip xs))(dp:∀j,¬ Rr j p):Rp K F H (.oob p C fs l) (.ref p) (λa=>a=p\/∃j,Rr j a):=.oob Rr f h r.len r.rep r.dis dp r.out
def Rp.osd_inv(h:Rp K F H (.osd ks l) x A):∃p xs Rs,x=.ref p/\A=(λa=>a=p\/∃j,Rs j a)/\F p=none/\H p=↑(.dK<|Cf ks xs)/\RpO K F H l xs Rs/\ks.length=xs.length/\∀j,¬ Rs j p:=by
 cases h with
 |osd R f h e b c d dp o=>exact{_,_,R,rfl,rfl,f,h,{(e),c,d,o},b,dp}
theorem ZU(r:RpO K F H l xs Rr)(b:ks.length=xs.length)(f:F p=none)(h:H p=↑(.dK<|Cf ks xs))(dp:∀j,¬ Rr j p):Rp K F H (.osd ks l) (.ref p) (λa=>a=p\/∃j,Rr j a):=.osd Rr f h r.len b r.rep r.dis dp r.out
theorem ZT(r:RpO K F H l xs Rr)(e:ks.length=xs.length)(f:F p=none)(dp:∀j,¬ Rr j p)(rt:Rp K F H t y B)(d:∀j a,Rr j a->¬ B a)(c:¬ B p):Rp K F (upd H p<|.dK<|Cf (ks++[k])<|xs++[y]) (.osd (ks++[k])<|l++[t]) (.ref p) (λa=>a=p\/∃j,(if j=l.length then B else Rr j) a):=
 ZU ((r.upd dp).snoc (rt.upd c) d) (by simp[e]) f C2 λj z=>by
  by_cases b:j=l.length;erw[b,Å]at z;exact c z;erw[b,Ã]at z;exact dp j z
end
def fF(h:ks.length=xs.length):(Cf ks xs).length=xs.length:=by
 unfold Cf;rw[List.length_zipWith,h,Nat.min_self]
def zlt(h:kv∈Cf ks xs):∃k∈ks,kv.1=Sum.inr k:=by
 induction ks generalizing xs with
 |nil=>cases xs<;>cases h|cons a r c=>
  cases xs with
  |nil=>cases h|cons b s=>
   unfold Cf at h;rw[List.zipWith_cons_cons]at h;rcases Ñ.mp h with e|e;exact{a,Ï ..,by rw[e]};let(k,hk,e):=c (xs:=s) e;exact{k,Í _ hk,e}
def Yx(h:ks.length=xs.length)(hk:k∉ks):E9 (Cf ks xs) (Sum.inr k) y=Cf (ks++[k]) (xs++[y]):=by
 unfold E9;rw[if_neg];unfold Cf;rw[List.zipWith_append h];rfl;intro c;let(g,a,b):=ø.mp c;let(f,d,e):=zlt a
 grind
section
variable {X:Cx}{E:L2.St->XK}{ca:Str->Value}{m mk:AG}{e k:Expr}{pos p1 pos2 pos3:Pos}{mu:Bool}{i j:Nat}{x f:Str}{C:Addr}{fs:ky}
theorem Yp:PE X (.Dict [] [] pos)<|tM X.K E ca Hf:=PE.weak zl1 λO H Q h p a=>by
 let(F,Y,R,S,q):=h;exact q F (upd H p<|.dK []) (.ref p) _ (Ext.newO S.fh a) (Rp.osd0 (xs:=[]) (IY S.fh a) C2 rfl rfl λi t x h=>by simp at h)
def znh(c:Cls X.K C)(hn:B7 X.K C f)(hj:fs[j]?=↑f)(I:(fs.take j).contains f=false)(hjl:j<900)(hN:X.N[i]?=↑x)(hv:DN X.env.scope x)(hd:(x == "__debug__")=false)(A:(x == "__classdict__")=false)(he:PE X e<|tM X.K E ca m)
  (hs:swapsWith e (↑(.Attribute (.Name x p1) f pos2)) pos.line X.env=pure false):PS X (.Assign [.Attribute (.Name x p1) f pos2] e pos)<|tS X.K E ca mu<|CN C fs j i m:=by
 refine PS.weak (ZD (FJ hN hv hd A) he hs) λD O H h=>?_;let(F,Y,R,S,q):=h;refine{F,Y,R,S,?_};unfold CN at q;cases Z:m Y with
 |none=>erw[Z]at q<;>symm|some r=>
  erw[Z]at q;cases r with
  |x c=>exact λF' H' e=>q F' H' O R e.stp0 (S.ext e)|v t bb=>
   cases bb with
   |true=>exact λd k y B b g1=>q.elim|false=>
    intro d k y B b g1;have s:Rp X.K d k t y B:=g1;simp only at q;cases J:ES Y i C fs with
    |none=>erw[J]at q<;>symm|some pl=>
     let(p,l):=pl;erw[J]at q;by_cases G:l.length=j;rw[if_pos G]at q;have S1:=S.ext b;have ht:=J2 J;let(y2,W,ry):=S.rep i _ ht;let(V,xs,Rr,rfl,u,fp,K,M,dp):=ry.oob_inv;have g:xs.length=j:=by rw[<- M.len];exact G
     have L:=b.hh _ _ K;have pB:¬ B p:=λz=>by rw[b.nb p z]at K;cases K
     have o:d p=none:=(ry.ext b |>.dom (by rw[u];exact .inl rfl)).1;refine{_,W,p,C,V,fs.zip xs,rfl,L,c,hn,?_,?_};rw[List.length_zip];lia;rw[Yy (by rw[g];exact hj) (by rw[g];exact I)];have N:=M.ext b;have P:RpO X.K d (upd k p<|.ins C V<|fs.zip<|xs++[y]) (l++[t]) (xs++[y]) _:=(N.upd dp).snoc (s.upd pB) λj a T U=>M.apart b U j T
     have n:∀j,¬ (if j=l.length then B else Rr j) p:=λj z=>by
      by_cases hj:j=l.length;erw[hj,Å]at z;exact pB z;erw[hj,Ã]at z;exact dp j z
     have r2:=NR (C:=C) (fs:=fs) P o C2 n
     let(S3,Q):=S1.upd ht W (by rw[u];exact .inl rfl) r2 (B:=B) (λa z=>by
      rw[u];rcases z with z|z;exact .inl<|.inl z
      rcases Qa z with w|w;exact .inl<|.inr w
      exact .inr w)<|λj a T U=>S.apart b U j T
     exact q d _ O _ (b.stp.trans Q) S3;rw[if_neg G]at q;symm
def rSetS:Wf:=λo i v H Q=>∃p a k,o=.ref p/\i=.str k/\H p=↑(.dK a)/\a.length<sizeLine/\Q (upd H p<|.dK<|E9 a (Sum.inr k) v)
def YN(d:X.A.units+1<cLine):Wp X rSetS:=by
 intro n s O H o i v m l u Q I g f j h;let(p,e,k,rfl,rfl,c,b,q):=h;cases g;exact zh2 d I (Pt.k (k:=Sum.inr k) c b) (f) j λr a=>{_,a,q}
def Ig{K}(g:Dx K F H R (.str z) b y B):y=.str z:=by
 cases b with
 |true=>let(_,A,_,r):=g;exact r.str_inv
 |false=>exact(g).str_inv
def s_dpf(hu:X.A.units+1<cLine)(c:Cls X.K C)(hn:B7 X.K C f)(hj:fs.findIdx? (· == f)=↑j)(hN:X.N[i]?=↑x)(hv:DN X.env.scope x)(hd:(x == ("__debug__":Str))=false)(hcd:(x == "__classdict__")=false)(he:PE X e<|tM X.K E ca m)(hk:PE X k<|tM X.K E ca mk)
  (hs:swapsWithSole [.Subscript (.Attribute (.Name x p1) f pos3) k pos2] e pos.line X.env=pure false) (hw:swappedStores [.Subscript (.Attribute (.Name x p1) f pos3) k pos2] e X.env=pure none)
  (ha : ∀ v, assign (.Subscript (.Attribute (.Name x p1) f pos3) k pos2) X.env v = (do
   let ov <- holding [v]<|eval (.Attribute (.Name x p1) f pos3) X.env;let iv <- holding [v,ov] (eval k X.env)
   standAt pos2
   holding [v,ov,iv] (setItem ov iv v)
   release [v,ov,iv] [])) :
  PS X (.Assign [.Subscript (.Attribute (.Name x p1) f pos3) k pos2] e pos) (tS X.K E ca mu<|JV C fs j i mk m):=by
 refine PS.weak (JZ he (Ks (NI (FJ hN hv hd hcd) rfl) hk (YN hu) ha) hs hw rfl) λD O H h=>?_;let(F,Y,R,S,q):=h;refine{F,Y,R,S,?_};unfold JV at q;cases hm:m Y with
 |none=>erw[hm]at q<;>symm|some r=>
  erw[hm]at q;cases r with
  |x c=>exact λL s e=>q L s O R e.stp0 (S.ext e)|v t bb=>
   cases bb with
   |true=>exact λM W y B P g1=>q.elim|false=>
    intro F0 W y B e0 g0;simp only at q;let(M,P,_,g1):=Dx.frz S e0 g0;have g1':Rp X.K M W t.share y R0:=(g1).any;cases ho:ES Y i C fs with
    |none=>erw[ho]at q<;>symm|some pl=>
     let(p,l):=pl;erw[ho]at q;cases g:GB l[j]? with
     |none=>erw[g]at q<;>symm|some kl=>
      let(K,lv):=kl;erw[g]at q;have I:=ZX g;have N:=S.ext P;have ht:=J2 ho;let(y2,ey,ry):=N.rep i _ ht;let(dx,xs,Rr,rfl,hA,fp,hp,ro,dp):=ry.oob_inv;have A:=(É.mp I).1;have hjx:j<xs.length:=by rw[<- ro.len];exact A
      have hx :=Á hjx;refine{_,ey,p,C,dx,_,xs[j],rfl,hp,c,hn,Nq hj hx,M,Y,R,N,?_};cases G:mk Y with
      |none=>erw[G]at q<;>symm|some r=>
       erw[G]at q;cases r with
       |x c=>exact λL s e=>q L s O R ((P.stp0).trans e.stp0) (N.ext e)|v tk bk=>
        cases tk with
        |str J=>
         simp only at q;by_cases U:J∉K/\K.length<100000;rw[if_pos U]at q;intro V Z z CC d g2;have hz:=Ig g2;subst hz;have e2':Ext M W V Z R0:=d.mono λϊ z=>z.elim
         have S2:=N.ext d;have ry2:=ry.ext d;have b:=ro.ext d;have fp2 :=(ry2.dom (by rw[hA];exact .inl rfl)).1
         have hp2:=d.hh _ _ hp;have rk:=b.rep j _ _ I hx;let(o,ys,Rs,u,w,fpd,hpd,rs,Q,ds):=rk.osd_inv;have g2' :=g1'.ext d;have n:Rr j o:=by rw[w];exact .inl rfl
         have pne:o≠p:=λz=>dp j<|z▸n
         refine{o,Cf K ys,J,u,rfl,hpd,?_,?_};rw[fF Q,<- Q,č];exact Ĩ U.2<|by decide
         rw[Yx Q U.1];have r3:=ZT (k:=J) rs Q fpd ds (g2'.any (H':=Z)) (λϊ ϊ ϊ z=>z.elim)<|λz=>z.elim
         have hE:(λa=>a=o\/∃j,(if j=lv.length then R0 else Rs j) a)=Rr j:=by
          rw[w];funext a;apply propext;constructor;rintro(z|⟨j,z⟩);exact .inl z;split at z;exact z.elim;exact .inr {(j),z};rintro(z|⟨j,z⟩);exact .inl z;exact .inr {j,by rw[if_neg<|Ô<|rs.out j a z];exact z}
         rw[hE]at r3;have oth :=λk hk z=>b.dis k j o hk z n
         have ro3:RpO X.K V (upd Z o<|.dK<|Cf (K++[J])<|ys++[y]) (l.set j<|.osd (K++[J])<|lv++[t.share]) xs Rr:=by
          refine{by rw[Ā];exact b.len,λk t' x' T h2=>?_,b.dis,λk a z=>by rw[Ā];exact b.out k a z};by_cases hk:k=j;subst hk;rw[å A]at T;rw[hx]at h2;cases T;cases h2;rw[u];exact r3;rw[á<|Ë hk]at T;exact(b.rep k t' x' T h2).upd (oth k hk)
         have r4:=NR ro3 fp2 (by rw[BF<|Ë pne];exact hp2) dp;let(S3,st3):=S2.upd ht ey (by rw[hA];exact .inr {(j),n}) r4 (λa z=>.inl (by rw[hA];exact z))<|λj a z1 z2=>z2
         exact q V _ O _ ((P.stp.trans d.stp0).trans st3) S3;rw[if_neg U]at q;symm
        |_=>exact λL s z CC d g2=>q.elim
end
section
variable {X:Cx}{E:L2.St->XK}{ca:Str->Value}{ma mb mc:AG}{a b c:Expr}{pos:Pos}{x:Str}{t:T}
theorem r_con(a:Gl X x)(b:X.mg x=↑u)(c:Ak v u)(hd:(x == "__debug__")=false)(r:∀F ,Rp X.K F F t v R0):PE X (.Name x pos)<|tM X.K E ca<|mC t:=
 PE.weak (ZO a b c hd) λO H Q h=>by
  let(F,Y,R,S,q):=h;exact q F H v R0 (Ext.refl S.fh) (r F).any
def Gp(g g':T->T->qB)(ma a mc:AG):AG:=λY=>match ma Y,a Y with
 |some (.v t ϊ),↑(.v u ϋ)=>if t.flat && u.flat then (match g t u with
  |some (.bl true)=>(match mc Y with
   |some (.v w ϊ)=>if w.flat then (match g' u w with
    |some (.bl k)=>↑(.v (.bl k) false)|ϊ=>none) else none
   |ϊ=>none)
  |some (.bl false)=>↑(.v (.bl false) false)|ϊ=>none) else none
 |ϊ,ϋ=>none
def Jo{K}{b}{x}(g:Dx K F H R v b x B)(h:v.flat=true):Rp K F' H' v x R0:=by
 cases b with
 |true=>let(_,A,_,r):=g;exact r.flat_any h
 |false=>exact(g).flat_any h
def YB(h:tM X.K E ca (Gp g g' ma mb mc) O H Q):Q3 (Bt X.K g) (Bt X.K g') (tM X.K E ca ma) (tM X.K E ca mb) (tM X.K E ca mc) O H Q:=by
 let(F,Y,R,S,q):=h;refine{F,Y,R,S,?_};unfold Gp at q;cases f:ma Y with
 |none=>erw[f]at q<;>symm|some V=>
  cases V with
  |x c=>erw[f]at q<;>symm|v t b1=>
   cases l:mb Y with
   |none=>erw[f,l]at q<;>symm|some W=>
    cases W with
    |x c=>erw[f,l]at q<;>symm|v u b2=>
     erw[f,l]at q;by_cases b:(t.flat && u.flat)=true;rw[if_pos b]at q;rw[Æ]at b;intro J H1 x B1 C g1;have A:=S.ext C;refine{J,Y,R,A,?_};rw[l];intro m M y B2 D g2;have o:=A.ext D;have e:Ext F H m M R0:=(C.trans D).mono λϊ z=>z.elim
     cases d:g t u with
     |none=>erw[d]at q<;>symm|some k=>
      cases k with
      |bl k=>
       cases k with
       |false=>
        erw[d]at q;refine{m,t,u,_,o.fh,Jo g1 b.1,Jo g2 b.2,d,λn s z I j i=>{false,i.bl_inv,?_}};rw[if_neg ġ];exact q n s _ R0 (e.trans0<|j.mono λϊ z=>z.elim)<|.bl false
       |true=>
        erw[d]at q;refine{m,t,u,_,o.fh,Jo g1 b.1,Jo g2 b.2,d,λn s z I j i=>{true,i.bl_inv,?_}};rw[if_pos rfl];have B:=o.ext j;refine{n,Y,R,B,?_};cases p:mc Y with
        |none=>erw[p]at q<;>symm|some i=>
         cases i with
         |x c=>erw[p]at q<;>symm|v w b3=>
          erw[p]at q;by_cases r:w.flat=true;rw[if_pos r]at q;intro K H4 z4 B4 G U;have P:=B.ext G;cases a:g' u w with
          |none=>erw[a]at q<;>symm|some k=>
           cases k with
           |bl k=>
            erw[a]at q;refine{K,u,w,_,P.fh,Jo g2 b.2,Jo U r,a,λL N z5 C5 T Z=>?_};rw[Z.bl_inv];exact q L N _ R0 (e.trans0<|((j.trans G).trans T).mono λϊ z=>z.elim)<|.bl k
           |_=>erw[a]at q<;>symm
          rw[if_neg r]at q;symm
      |_=>erw[d]at q<;>symm
     rw[if_neg b]at q;symm
theorem r_chn(k:As X (compareOp op)<|Bt X.K g)(d:As X (compareOp op')<|Bt X.K g')(e:PE X a<|tM X.K E ca ma)(f:PE X b<|tM X.K E ca mb)(i:PE X c<|tM X.K E ca mc)(j:lastMarks [op,op'] [b,c]=false) :
  PE X (.Compare a [op,op'] [b,c] pos) (tM X.K E ca<|Gp g g' ma mb mc):=PE.weak (zif k d e f i j) λO H Q h=>YB h
theorem znx(k:As X (compareOp op)<|Bt X.K g)(d:As X (compareOp op')<|Bt X.K g')(e:PE X a<|tM X.K E ca ma)(f:PE X b<|tM X.K E ca mb)(i:PE X c<|tM X.K E ca mc)(j:lastMarks [op,op'] [b,c]=false) :
  PT X (.Compare a [op,op'] [b,c] pos) (BV X.K E ca<|Gp g g' ma mb mc):=PT.weak (zi8 k d e f i j) λO H Q h=>YB<|Mh h
end
def Po(x:Str):It:={λi ϊ=>i<x.cps.size,λi H y a=>a=H/\∃c,x.cps[i]?=↑c/\y=.str {#[c]},λi ϊ=>x.cps.size<=i}
def zhx{K}(x)(t)(it):Turn P w K tg (Po x) [it] it (λi h=>h.IsStrIter it (strIterType x) x t i) where
 mem:=by simp
 obj:=λi h st b a=>by
  have e :=by simpa using a
  subst e;let(o,e,c,d):=st;exact{o,e,λv z=>by rw[d]at z;cases z}
 keep:=λi h g st k=>by
  let(o,e,c,d):=st;exact{o,k it (by simp) o e,c,d}
 item:=by
  intro X r C q A i D s O H E I m st B;subst r C q;have j :=B;let(f0,f1,f2,f3,f4,f5):=m it<|by simp
  have BZ:∀(g ),g.IsStrIter it (strIterType x) x t (i+1)->Heap.SameBut it s.heap g->∃u,↑(Value.str {#[x.cps[i]]} s.toks)=↑u /\
   wpAny (model X.prog X.w) X.A (letOwnedTupleGo tg (.ref it) u) (λϊ F=>∃y p,Inv X D O p F/\Ak y u/\(Po x).yld i H y p/\F.heap.IsStrIter it (strIterType x) x t (i+1)/\∀b∈[it],p b=none) E { s with heap:=g,toks:=s.toks+1 }:=λg l sb=>by
   have G :=I.turned (t':=s.toks+1) (λb o a e=>(sb.2 b a).trans e) f0 f1 f3 f4 f5;let(o,e,c,d):=id l;refine{_,rfl,L3 e c d ?_ {.str {#[x.cps[i]]},H,G,{_,rfl},{rfl,_,Ĳ j,rfl},l,λb a=>(m b a).1}};unfold strIterType;split<;>decide
  cases f:(x.cps.all λx=>decide (x<128)) with
  |true=>
   have e:strIterType x="str_ascii_iterator":=by unfold strIterType;rw[f];rfl
   rw[e]at st BZ ⊢;exact wpAny_pyNext_ascii_item st (Ĳ j) BZ
  |false=>
   have e:strIterType x="str_iterator":=by unfold strIterType;rw[f];rfl
   rw[e]at st BZ ⊢;exact wpAny_pyNext_wide_item st (Ĳ j) BZ
 done:=by
  intro X r C q A i D s O H E I m st B;subst r C q;have j :=B;let(f0,f1,f2,f3,f4,f5):=m it<|by simp
  have n :=Array.getElem?_eq_none j;cases f:(x.cps.all λx=>decide (x<128)) with
  |true=>
   have e:strIterType x="str_ascii_iterator":=by unfold strIterType;rw[f];rfl
   rw[e]at st;exact wpAny_pyNext_ascii_end (I.ok.hd A) st n λg eb=>{rfl,I.turned (λb o a e=>eb b o a e) f0 f1 f3 f4 f5}
  |false=>
   have e:strIterType x="str_iterator":=by unfold strIterType;rw[f];rfl
   rw[e]at st;exact wpAny_pyNext_wide_end (I.ok.hd A) st n λg eb=>{rfl,I.turned (λb o a e=>eb b o a e) f0 f1 f3 f4 f5}
 self:=λϊ i s Q E st h=>by
  cases f:(x.cps.all λx=>decide (x<128)) with
  |true=>
   have e:strIterType x="str_ascii_iterator":=by unfold strIterType;rw[f];rfl
   rw[e]at st;exact wpAny_pyIter_striter_ascii st h
  |false=>
   have e:strIterType x="str_iterator":=by unfold strIterType;rw[f];rfl
   rw[e]at st;exact wpAny_pyIter_striter_wide st h
def iStrT(b:TE):TI:=λO H P=>b O H λx a=>∃y,x=.str y/\P (Po y) a
section
variable {X:Cx}{tg l e:Expr}{tl:TE}{E:L2.St->XK}{ca:Str->Value}{m:AG}
def zoh(g:PE X l tl):PI X tg l<|iStrT tl:=by
 intro i s O H R I h;refine A5 (g i s O H _ I h) λv c m=>?_;let(x,d,a,k,j):=m;let(y,rfl,q):=j;let(t,rfl):=(k);refine wpAny_pyIter_strU ?_;refine{c.heap.objs.size,[c.heap.objs.size],_,_,d,rfl,a.kept λb o e=>Ó _ e,zhx y t _,{_,â _ rfl,rfl,rfl},λb f=>?_,q}
 have e :=by simpa using f
 subst e;exact a.fpOk (Ä _)<|a.hok.fresh<|Ä _
def HL(x:Str):qF:=x.cps.toList.map λc=>.str {#[c]}
def zlv{K}:Gb K (Po x) F<|HL x:=by
 intro i d k m j;refine{λt b=>?_,λe=>?_};unfold HL at b;rw[Î]at b;let(c,a,rfl):=Ú.mp b;have h:i<x.cps.size:=by simpa using (É.mp a).1
 refine{h,λy f z=>?_};let(rfl,l,g,rfl):=z;rw[Array.getElem?_toList,g]at a;cases a;exact{d,Ext.refl j,.str _};show x.cps.size<=i;rw[e];simp[HL]
def Au(m:AG):BN:=λY=>match m Y with
 |some (.v (.str x) ϊ)=>↑(.v (HL x) false)|ϊ=>Jl m Y
def zo1(a:PE X e<|tM X.K E ca m):PI X tg e<|tI X.K E ca<|Au m:=by
 refine PI.weak (PI.or (Yn a)<|zoh a) λO H P h=>?_;let(F,Y,R,S,q):=h;by_cases i:∃x b,m Y=↑(.v (.str x) b);let(x,b,c):=i;have e:Au m Y=↑(.v (HL x) false):=by unfold Au;rw[c]
 rw[e]at q;refine .inr {F,Y,R,S,?_};rw[c];intro d f y B g g1;exact{x,Ig g1,q d f _ (g.mono λϊ z=>z.elim) zlv}
 have e:Au m Y=Jl m Y:=by
  unfold Au;grind
 rw[e]at q;exact .inl {(F),Y,R,S,q}
end
open Classical in
def met(val:Nat->Key):Nat->List Key
 |0=>[]|i+1=>if val i∈met val i then met val i else met val i++[val i]
open Classical in
def dY(val:Nat->Key):∀i,(met val i).length<=i
 |0=>Ä 0|i+1=>by
  have:=dY val i;unfold met;split;lia;rw[Ü,Ŋ];lia
section
variable {prog:Program}{w:World}{A:Around}{E:Value->Shared->Prop}
open Classical in
def eJ{knd:PySem.KeyKind prog w Key}{R:Result->Shared->Prop}{I:Addr}{fp J:List Addr}{G:Array GenState->Array GenState->Prop}{n:Nat}{P:Nat->Value->Prop}{St:Nat->Shared->Prop}(W:WalksS prog w A.in1 I fp J G n P St)(S:Addr)(j:S∉fp)(val:Nat->Key)
  (L:∀i v,P i v->knd.is (val i) v=true/\v.scannable=true) (Y:n+1<scanBound):∀(k i:Nat) (s:Shared),n - i=k->i<=n->St i s->Heap.SetOf knd s.heap S (λk'=>decide (k'∈met val i)) (met val i).length ->
   (∀s':Shared,Moved (S::J) G s s'->Heap.SetOf knd s'.heap S (λk'=>decide (k'∈met val n)) (met val n).length->R (Except.ok<|Flow.ret Value.none) s') ->
   codeAny (model prog w) A (Code.builtin "set.update.loop" { pos:=[Value.ref S,Value.ref I] }) R s
 |0,i,s,hk,X,st,a,h=>by
  have e:i=n:=by lia
  subst e;refine codeAny_builtin F.entry_set_update_loop ?_;rw[Around.under_plainId ť];unfold Builtin.«set.update.loop»;refine Â<|W.done s _ _ st λs' mv=>?_
  refine Ð ?_;refine h s' (mv.mono λb d=>Í _ d) ?_;let(o,m,l,t,p,q):=a;exact{o,m,l,t,mv.heap S o (λz=>j<|W.sub S z) p,q}
 |k+1,i,s,hk,X,st,a,h=>by
  have u:i<n:=by lia
  refine codeAny_builtin F.entry_set_update_loop ?_;rw[Around.under_plainId ť];unfold Builtin.«set.update.loop»;refine Â<|W.item i s _ _ u st λv s' Z E mv=>?_
  let(r,x):=L i v Z
  have f:Heap.SetOf knd s'.heap S (λk'=>decide (k'∈met val i)) (met val i).length:=by
   let(o,m,l,t,p,q):=a;exact{o,m,l,t,mv.heap S o (λz=>j<|W.sub S z) p,q}
  refine Â<|ă ?_;unfold setAdd;refine ă<|Â<|knd.pyHash r ?_;have hl:=dY val i;refine wpAny_setAddHashed_of (s:={ s' with toks:=s'.toks+1 }) r x f (by lia) λK sb g=>?_
  refine Ð {plainId_quiet ť _,?_};have H:=W.frame (i+1) s' K (s'.toks+1) E (Ę _) λb d o e=>(sb.2 b<|λz=>j<|z▸d).trans e
  have B:Moved (S::J) G s { s' with heap:=K,toks:=s'.toks+1 }:=(mv.mono λb d=>Í _ d).then_heap (Ę _) λb o d e=>(sb.2 b<|λz=>d (by rw[z];exact Ï ..)).trans e;refine eJ W S j val L Y k (i+1) _ (by lia) (by lia) H ?_ λD C y=>h D (B.trans W.gtrans C) y
  have j:(λk'=>(decide (k'∈met val i) || decide (k'=val i)))=λk'=>decide (k'∈met val (i+1)):=funext λk'=>by
   conv=>rhs;unfold met
   by_cases c:val i∈met val i;rw[if_pos c];by_cases e:k'=val i;rw[e,Ì c];rfl;rw[Ý e,Bool.or_false];rw[if_neg c,Bool.eq_iff_iff];erw[ĕ,ó,Ø,È]
  have V:(if decide (val i∈met val i)=true then (met val i).length else (met val i).length+1)=(met val<|i+1).length:=by
   conv=>rhs;unfold met
   by_cases c:val i∈met val i;rw[if_pos c,if_pos<|Ì c];rw[if_neg c,if_neg<|λz=>c<|í z,Ü,Ŋ]
  let(o,m,l,t,p,q,M,N,O,Q,T,U):=g;refine{o,m,l,t,p,q,M,N,λk'=>?_,Q,T,U.trans V};rw[<- O k'];have e:=congrFun j k';show decide (k'∈met val (i+1))=true ↔ _;rw[<- e]
end
open Classical in
def zct{prog:Program}{w:World}{A:Around}{E:Value->Shared->Prop}{s:Shared}{l:Addr}{d:Array Value}{knd:PySem.KeyKind prog w Key}{val:Nat->Key}{Q:Value->Shared->Prop}(hh:A.handled=none)(hl:s.heap.IsList l d)
  (hP:∀(i:Nat) (v:Value),d[i]?=↑v->knd.is (val i) v=true/\v.scannable=true) (J:d.size+1<scanBound)
  (h:∀(h':Heap) (tk:Nat),Heap.SetOf knd h' s.heap.objs.size (λk'=>decide (k'∈met val d.size)) (met val d.size).length->(∀(b:Nat) (o:Obj),b<s.heap.objs.size->s.heap.get? b=↑o->h'.get? b=↑o)->Q (.ref s.heap.objs.size) { s with heap:=h',toks:=tk }) :
  wpAny (model prog w) A (call (Value.type "set") [Value.ref l]) Q E s:=by
 let(c,tl,y):=Ī.mro;have p:=Ī.made;have D:=Ī.sub;refine ŀ<|codeAny_of_tree ?_;refine Ð {Code.quiet_builtin _ (by decide +kernel),codeAny_builtin F.entry_type_call ?_}
 have hu:=Around.under_plain (A:=A) (weight_type_call_type "set" [Value.ref l] []) rfl;have h1:=Ī.notType;have h2:=Ī.canCreate;have K:=F.typeCall_set_1<|Value.ref l;show wpAny (model prog w) (A.under<|Code.builtin "type.__call__" { pos:=[Value.type "set",Value.ref l] }) _ _ _ s;rw[hu];unfold Builtin.«type.__call__»;refine ý (by rw[h1];rfl)<|ý (by rw[h2];rfl) ?_
 refine Â<|ĭ K<|Â<|ĭ y<|ý rfl<|Â<|ĭ p<|Â<|Ð<|Â<|ă<|ŀ<|Ě (code_set_new_1 (E:=λϊ ϊ=>False) (Value.ref l) (Q₁:=λv u=>∃f:Bool,v=.ref s.heap.objs.size/\u={ s with heap:=s.heap.push { cls:=.type "set",data:=.set #[] 0 (SetTable.fresh 0 0 f) } }) λf=>{(f),rfl,rfl}) λr G C=>?_
 cases r with
 |error e=>exact False.elim C|ok fl=>
  cases fl with
  |next=>exact False.elim C|brk=>exact False.elim C|cont=>exact False.elim C|ret v=>
   let(f,rfl,rfl):=(show ∃f:Bool,v=.ref s.heap.objs.size/\G={ s with heap:=s.heap.push { cls:=.type "set",data:=.set #[] 0 (SetTable.fresh 0 0 f) } } from C);have O:(s.heap.push { cls:=.type "set",data:=.set #[] 0 (SetTable.fresh 0 0 f) }).get? s.heap.objs.size=↑{ cls:=.type "set",data:=.set #[] 0 (SetTable.fresh 0 0 f) }:=â _ rfl;have I:Shared.TypeIs { s with heap:=s.heap.push { cls:=.type "set",data:=.set #[] 0 (SetTable.fresh 0 0 f) } } (.ref s.heap.objs.size) "set":={_,O,rfl}
   have n:=Ī.init;refine Â<|Ž I D<|ý rfl<|Â<|ă ?_;unfold callSpecial?;refine Â<|wpAny_specialOf I n.lookup<|ă<|Â<|ĭ (n.bind _)<|Â<|ŀ<|Ě (R:=wants (λv u=>v=.none/\∃tk h',u={ s with heap:=h',toks:=tk }/\Heap.SetOf knd h' s.heap.objs.size (λk'=>decide (k'∈met val d.size)) (met val d.size).length/\∀(b:Nat) (o:Obj),b<s.heap.objs.size->s.heap.get? b=↑o->h'.get? b=↑o) λϊ ϊ=>False) (codeAny_call_builtin n.plain F.entry_set_init<|check_set_init_1 I ?_) λr H g=>?_
   unfold Builtin.«set.__init__» noKeywords;refine Â<|wpAny_ite_true rfl<|Ð ?_;unfold typeNameOfCut shownTypeOf;refine Â<|Â<|Â<|wpAny_typeOf I<|ý (by decide +kernel)<|Ð ?_
   refine ĭ (rfl:typeNameCut 200 (Value.type "set")=pure _) ?_;refine Â<|ĭ (rfl:checkCount _ 0 1 1=pure ()) ?_;refine Â<|Ð ?_;unfold setUsed setState;refine Â<|Â<|Â<|wpAny_load O<|ý rfl<|Ð<|Ð<|ý rfl ?_;let(S,B,m,nl,x):=id hl;have j:(s.heap.push { cls:=.type "set",data:=.set #[] 0 (SetTable.fresh 0 0 f) }).get? l=↑S:=Ó _ B;have k:Shared.TypeIs { s with heap:=s.heap.push { cls:=.type "set",data:=.set #[] 0 (SetTable.fresh 0 0 f) } } (.ref l) "list":={_,j,m}
   unfold Builtin.Frozenset.updateFrom Builtin.Frozenset.isAnySet;refine Â<|Â<|Â<|Ž k F.sub_list_set ?_;have N:(s.heap.push { cls:=.type "set",data:=.set #[] 0 (SetTable.fresh 0 0 f) }).IsList l d:={(S),j,m,nl,x};refine Ž k F.sub_list_frozenset<|ý rfl<|Â<|wpAny_typeOf k<|ý (by decide +kernel)<|Â<|ż N ?_
   have lt:l<s.heap.objs.size:=Ç B;have q:(s.heap.push { cls:=.type "set",data:=.set #[] 0 (SetTable.fresh 0 0 f) }).objs.size=s.heap.objs.size+1:=Ė _ _;generalize M:s.heap.push { cls:=.type "set",data:=.set #[] 0 (SetTable.fresh 0 0 f) }=hp at *
   have hS:s.heap.objs.size∉[hp.objs.size,l]:=by
    rw[q];intro z;rcases Ñ.mp z with e|e;exact absurd e<|Ô<|ċ _
    exact absurd (È.mp e)<|Nat.ne_of_gt lt
   refine Â<|wpAny_runValue ?_;refine eJ (knd:=knd) (A:=A.in1.in1) (Walks.list (A:=A.in1.in1.in1) hh hp.objs.size l (by rw[q];exact Ô<|Ĥ lt) d).toS s.heap.objs.size hS val (λi v e=>hP i v e) J d.size 0 _ (by lia) (ò _) {?_,?_} ?_ λu mv P=>?_
   exact{_,â _ rfl,rfl,rfl};exact{S,Ó _ j,m,nl,x};letI:BEq Key:={λa b=>decide (a=b)};haveI:LawfulBEq Key:={ eq_of_beq:=λh=>í h,rfl:=Ì rfl };have V:=(setObjOf_fresh (prog:=prog) (w:=w) (knd:=knd) f).setOf (h:=hp.push { cls:=.type "list_iterator",data:=.fields #[.ref l,.int 0 0] }) (a:=s.heap.objs.size) (Ó _ O) (by decide);let(o,X,W,t,g1,g2,Y,Z,g5,g6,g7,g8):=V;refine{o,X,W,t,g1,g2,Y,Z,λk'=>?_,g6,g7,g8};rw[<- g5 k'];simp[met];refine Ð<|Ð ?_
   have U:∀(b:Nat) (o:Obj),b<s.heap.objs.size->s.heap.get? b=↑o->u.heap.get? b=↑o:=λb o J e=>by
    refine mv.heap b o (λz=>?_)<|Ó _ (by rw[<- M];exact Ó _ e)
    rcases Ñ.mp z with e|e;exact absurd e<|Ô J
    have e:=È.mp e;rw[q]at e;exact absurd e<|Ô<|Ĥ J
   have m1:=mv.gens;have m2:=mv.drawn;have T:=mv.os;let(L,g',d',t',os'):=u;refine{rfl,t',L,?_,P,U};simp only at m1 m2 T;rw[m1,m2,T]
   .cases r with
    |error e=>exact False.elim g|ok fl=>
     cases fl with
     |next=>exact False.elim g|brk=>exact False.elim g|cont=>exact False.elim g|ret v=>
      let(rfl,tk,h',rfl,hs,hk):=(show v=.none/\∃tk h',H={ s with heap:=h',toks:=tk }/\Heap.SetOf knd h' s.heap.objs.size (λk'=>decide (k'∈met val d.size)) (met val d.size).length/\∀(b:Nat) (o:Obj),b<s.heap.objs.size->s.heap.get? b=↑o->h'.get? b=↑o from g);refine Ð<|ý rfl<|Ð ?_;exact h h' tk hs hk
def Wh(P:Program)(w:World)(a:Addr)(b:List Key):HO:=.ext λh=>Heap.SetOf (Dl P w) h a (λk=>@decide (k∈b) (Classical.propDecidable _)) b.length
section
variable {X:Cx}
def zhf(y:X.calm=true):CT X (.type "set") (λxs H Q=>∃(p:Addr) (ys:ky),xs=[.ref p]/\Ai X.K H p (ys.map V.str)/\ys.length<1000/\∀a,H a=none->Q (.ref a) (upd H a<|Wh X.prog X.w a<|met (λi=>Sum.inr<|ys.getD i Str.empty) ys.length)):=by
 intro L s O H xs M Q I r h;let(p,ys,rfl,z,B,q):=h;let(u,rfl,F):=Fq r;cases F;let(g,x,D,_):=I.list z;have c:=x.length;rw[À]at c;have d:g.toArray.size=ys.length:=by rw[ë];exact c.symm
 refine zct (knd:=Dl X.prog X.w) (val:=λi=>Sum.inr<|ys.getD i Str.empty) (I.ok.hd y) D.isList (λi v e=>?_) (by rw[d];exact Û (Nat.succ_lt_succ B)<|by decide) λG tk f kp=>?_;have j :=by simpa using e
 have w:i<ys.length:=by rw[c];exact(É.mp j).1
 have A:(ys.map V.str)[i]?=↑(.str ys[i]):=by rw[Î,Á w];rfl
 let(u,l,E):=x.get A;rw[j]at l;cases l;let(t,rfl):=(E);refine{?_,rfl};show Hk (Sum.inr<|ys.getD i Str.empty) (Value.str ys[i] t)=true;rw[Þ,Á w];show(ys[i] == ys[i])=true;exact Ą _
 rw[d]at f;refine{.ref s.heap.objs.size,_,I.laid (o:=Wh X.prog X.w s.heap.objs.size<|met (λi=>Sum.inr<|ys.getD i Str.empty) ys.length) (λb o e=>kp b o (Ç e) e) (Ä _) {?_,?_,?_},rfl,q _<|I.hok.fresh<|Ä _};exact f;let(o,n,m,t,g1,_):=f;exact{(o),g1};intro J K C k;let(o,n,m,t,g1,g2):=C;exact{o,n,m,t,k o g1,g2}
def zhi:CT X (.builtin "len") (λxs H Q=>∃a ks,xs=[.ref a]/\H a=↑(Wh X.prog X.w a ks)/\Q (.int ks.length) H):=by
 intro p s O H xs v Q I r h;let(a,ks,rfl,i,q):=h;let(u,rfl,k):=Fq r;cases k;let((o,b,l,t,g1,g2,c,m,n,d,f,g),_):=(show _/\_ from I.hok a _ i)
 have j:((b.size:Nat):Int)<2 ^ 63:=by
  have:scanBound<=2 ^ 40:=by decide
  have e:b.size<scanBound:=d;lia
 refine call_len_set g1 g2 c f j {.int (b.size:Int),H,I.tok _,{_,rfl},?_};rw[show b.size=ks.length from g];exact q
end
def Gd:qF->Option (ky)
 |[]=>↑[]|.str x::r=>(match Gd r with
  |some l=>↑(x::l)|none=>none)
 |ϊ::ϋ=>none
set_option tactic.hygienic true in
def Mn{K}{F}:∀{l} {ys} {xs},Gd l=↑ys->Am K F l xs->xs=ys.map V.str
 |[],ys,xs,h,r=>by
  cases h;exact r.inv0
 |t::l,ys,xs,h,r=>by
  let(x,d,rfl,b,c):=r.inv;unfold Gd at h;split at h;grind;rename_i y r e;cases e;split at h;rename_i f a;cases h;rw[b.str_inv,Mn a c];rfl;cases h;cases h
def QW(ys:ky):Nat:=(met (λi=>Sum.inr<|ys.getD i Str.empty) ys.length).length
def K6:T->qB
 |.nd ϊ .lst l=>(match Gd l with
  |some a=>if a.length<1000 then ↑(.int<|QW a) else none
  |none=>none)
 |.nd ϊ .rl l=>(match Gd l with
  |some a=>if a.length<1000 then ↑(.int<|QW a) else none
  |none=>none)
 |ϊ=>none
section
variable {X:Cx}{E:L2.St->XK}{ca:Str->Value}{m:AG}{e:Expr}{pos p p2 p3:Pos}
set_option tactic.hygienic true in
def r_unq(y:X.calm=true)(A:Gl X "len")(B:X.mg "len"=none)(d:Gl X "set")(f:X.mg "set"=none)(b:PE X e<|tM X.K E ca m)(r:starEach [e] X.env=[(false,eval e X.env)]) :
  PE X (.Call (.Name "len" p) [.Call (.Name "set" p2) [e] [] p3] [] pos) (tM X.K E ca<|Bm (g1 K6)<|AB m AE):=by
 have c:=ZP (pos:=p3) (p:=p2) (zhf y) d f (rfl) (FK b GA r) (by decide) (by decide) r rfl;refine PE.weak (NJ (zhi) A B PySem.boot_len (FK c GA rfl) (by decide) (by decide) rfl rfl) λO H Q h=>?_;refine(IK<|IL h).mono λx I u=>?_;let(F,J,v,fh,rs,e,q):=IJ u;unfold g1 at e;split at e;let(K,D,t,s,C):=rs.inv;cases t;unfold K6 at e;split at e;split at e;rename_i o l k g;split at e;rename_i i;cases e;let(j,G,rfl,_,n,kd):=EU s;have w :=n;refine{j,k,rfl,Ai.of (by rw[<- Mn g kd];exact fh _ _ w),i,λa b=>{a,_,rfl,C2,?_}}
 exact q F _ _ R0 ((Ext.newO fh b).mono λϊ z=>z.elim)<|Rp.int _
 cases e;cases e;split at e;rename_i o l k g;split at e;rename_i i;cases e;let(j,G,rfl,_,n,kd):=EU s;refine{j,k,rfl,by rw[<- Mn g kd];exact fh.seq<|HE.l n,i,λa b=>{a,_,rfl,C2,?_}}
 exact q F _ _ R0 ((Ext.newO fh b).mono λϊ z=>z.elim)<|Rp.int _
 cases e;cases e;cases e;cases e
end
def GQ:T->T->qB
 |.int i,.int j=>↑(.bl<|decide (i<=j))|.str x,.str y=>↑(.bl<|!(@decide (y.cps.toList<x.cps.toList) (Classical.propDecidable _)))|ϊ,ϋ=>none
section
variable {X:Cx}{E:L2.St->XK}{ca:Str->Value}{m mk:AG}{o k:Expr}{pos apos cpos:Pos}
set_option tactic.hygienic true in
def zld:As X (compareOp .LtE)<|Bt X.K GQ:=by
 intro i s O H x y v u Q I c d h;let(F,l,m,r,fh,f,g,e,q):=h;unfold GQ at e;split at e
 cases e;rw[f.int_inv]at c;rw[g.int_inv]at d;exact Z0 i s O H _ _ v u Q I c d {_,_,rfl,rfl,q.bl fh};rename_i a b;cases e;rw[f.str_inv]at c;rw[g.str_inv]at d;let(t,rfl):=(c);let(k,rfl):=(d);refine PySem.P.le_str {.bl _,H,I,rfl,?_};have j:=q.bl fh
 grind;cases e
end
def CI(ys:ky)(y:Str):Option Nat:=ys.findIdx? λx=>@decide (x=y) (Classical.propDecidable _)
def zgk{ys:ky}{y:Str}{j:Nat}(h:CI ys y=↑j):∃hj:j<ys.length,ys[j]=y/\∀(m:Nat) (hm:m<ys.length),m<j->ys[m]≠y:=by
 unfold CI at h;let(b,c,d):=ď.mp h;refine{b,@of_decide_eq_true _ (Classical.propDecidable _) c,λm hm a e=>?_}
 exact d m a<|@decide_eq_true _ (Classical.propDecidable _) e
def kA{x y:Str}:(x.cps.toList == y.cps.toList)=true ↔ x=y:=by
 constructor;cases x;simp_all;grind
def zo6(K:q9):V->qE->Hp->VK->Prop:=λx b H Q=>∃(l:Addr) (a:ky) (y:Str) (j:Nat),x=.ref l/\b=[.str y]/\Ai K H l (a.map V.str)/\CI a y=↑j/\a.length<1000000/\Q (.int j) H
section
variable {X:Cx}{E:L2.St->XK}{ca:Str->Value}{m mk:AG}{o k:Expr}{pos apos cpos:Pos}
def zim:Wq X "list.index"<|zo6 X.K:=by
 intro pz s O H x vs v us Q I T S h;let(l,k,y,j,rfl,rfl,J,K,hz,q):=h;cases T;let(u,rfl,D):=S.one;let(d,r,(ob,n,e,c1,c2,c3),R):=I.list J;have M:=r.length;let(W,Z,Y,U):=ob;simp only at c1 c2 c3;subst c1 c2 c3;let(t,rfl):=(D);let(L,w,A):=zgk K;rw[À]at M
 have at_:∀(i ) (o ),∃(b:Tok) (a:i<k.length),d.toArray[i]=Value.str k[i] b:=λi o=>by
  have p :=by simpa using o
  have a:i<k.length:=by lia
  have P:(k.map V.str)[i]?=↑(.str k[i]):=by rw[Î,Á a];rfl
  let(u,E,D):=r.get P;let(b,rfl):=(D);rw[Á p]at E;refine{b,a,?_}
  simpa using E
 let G:Value->Bool:=λv=>match v with
  |.str x ϊ=>x.cps.toList == y.cps.toList|ϊ=>false
 have c:∀(x ) (b ),G (.str x b)=(x.cps.toList == y.cps.toList):=λϊ ϊ=>rfl;have g:j<d.toArray.size:=by rw[ë];lia
 refine Ŀ F.slot_list_index {_,e,rfl} F.entry_list_index (F.args_list_index_2 _ _) (SeqAt.list_indexAt l d.toArray n none U (.str y t) G j g (by lia) ?_ λm N B=>?_) {e,λy' C=>?_,.int j,H,I.tok _,{_,rfl},q}
 rotate_left 2
 let(i,o,rfl):=Array.mem_iff_getElem.mp C;let(b,a,f):=at_ i o;rw[f,c _ b];exact(SeqRoads2.EqGives.str _ _ _ _).at _ _
 let(b,a,f):=at_ j g;rw[f,c _ b];exact kA.mpr w;let(b,a,f):=at_ m N;rw[f,c _ b,Bool.eq_false_iff];exact λz=>A m a B<|kA.mp z
def LJ:T->Option (qF)
 |.nd false .lst l=>↑l|.nd false .rl l=>↑l|ϊ=>none
def zln{t:T}{l:qF}(h:LJ t=↑l):∃k,t=.nd false k l/\Jj t=true:=by
 unfold LJ at h;split at h;cases h;exact{_,rfl,rfl};cases h;exact{_,rfl,rfl};cases h
def LH(m mk:AG):AG:=λY=>match m Y with
  |some (.v t false)=>(match LJ t with
   |some l=>(match Gd l with
    |some a=>(match mk Y with
      |some (.v (.str y) ϊ)=>(match CI a y with
        |some j=>if a.length<1000000 then ↑(.v (.int j) false) else none
        |none=>none)
      |ϊ=>none)
    |none=>none)
   |none=>none)
  |ϊ=>none
def zkg(V:PE X o<|tM X.K E ca m)(hk:PE X k<|tM X.K E ca mk)(d:attributeBase o "index" X.env (eval o X.env)=eval o X.env)(G:starEach [k] X.env=[(false,eval k X.env)])(e:(apos.endLine == cpos.line)=true) :
    PE X (.Call (.Attribute o "index" apos) [k] [] cpos) (tM X.K E ca<|LH m mk):=by
  refine PE.weak (NK Ņ PySem.F.slot_list_index PySem.F.type_list_index zim V (FK hk GA G) d (by rw[G];rfl) e G rfl) λO H Q h=>?_;let(F,Y,R,S,q):=h;refine{F,Y,R,S,?_};unfold LH at q;cases n:m Y with
  |none=>erw[n]at q<;>symm|some r=>
    cases r with
    |x c=>erw[n]at q<;>symm|v t b=>
      cases b with
      |true=>erw[n]at q<;>symm|false=>
       erw[n]at q;cases f:LJ t with
       |none=>erw[f]at q<;>symm|some l=>
        erw[f]at q;let(kk,rfl,T):=zln f;intro i M x B u g1;have P:Rp X.K i M (.nd false kk l) x B:=g1;let(p,rfl):=P.ref_inv;let(xs0,U,D):=Am.node P;let(p1,xs,s,g,W):=LW T<|Am.of_node (H:=i) U D;injection s with s
        subst s;cases J:Gd l with
        |none=>erw[J]at q<;>symm|some K=>
          erw[J]at q;have I:=Mn J W;refine{.inl {rfl,xs,g i M (Ag.refl _) u.fh},i,Y,R,S.ext u,?_};cases a:mk Y with
          |none=>erw[a]at q<;>symm|some r=>
            cases r with
            |x c=>erw[a]at q<;>symm|v t2 b2=>
              cases t2 with
              |str y=>
                erw[a]at q;intro L N z B2 w g2;have Z:=Ig g2;subst Z;cases A:CI K y with
                |none=>erw[A]at q<;>symm|some j=>
                  erw[A]at q;by_cases C:K.length<1000000
                  . rw[if_pos C]at q
                    refine{p,K,y,j,rfl,rfl,by rw[<- I];exact g L N w.ff w.fh,A,C,?_};exact q L N _ R0 ((u.trans w).mono λϊ z=>z.elim)<|.int _
                  . rw[if_neg C]at q
                    symm
              |_=>erw[a]at q<;>symm
variable {mu:Bool}{i:Nat}{x n:Str}{np hpos:Pos}{body suite:kx}{b₀:Stmt}{u h:AH}{cs:List<|Str×Addr}
end
section
variable {X:Cx}{E:L2.St->XK}{ca:Str->Value}{m:AG}{e:Expr}{pos p p2:Pos}{c:Str}{v:V}{tb:List<|Addr×Bool}
end
section
variable {X:Cx}{E:L2.St->XK}{ca:Str->Value}{mu:Bool}{i j:Nat}{tg it c:Expr}{ret:kx}{mc:AG}{k:T}{ip pos:Pos}
variable {e:Expr}{m:AG}{t:T}{p1 apos cpos bpos:Pos}{x:Str}
end
section
variable {X:Cx}{E:L2.St->XK}{ca:Str->Value}{m mk ma:AG}{o k e a:Expr}{pos apos cpos p p2:Pos}
def rSlS:V->kj->kj->Hp->VK->Prop:=λx b a H Q=>∃z:Str,x=.str z/\z.length<=BI/\Q (.str<|Txt.slice z b a) H
def zn2:Wg X rSlS:=by
 intro r s O H x v vl y p o w Q I n h m f q;let(z,rfl,a,q):=q;let(t,rfl):=(n);let(ob,c,b,hd):=h;rw[GP]at a;cases m with
 |none=>
  cases f with
  |none=>exact{"str",_,ń.lookup,Ĭ _ _ _,Ş (l:=none) (u:=none) (st:=none) {(ob),c,b,hd} rfl<|ş {Õ (Ś z _ _) a,λd k=>{.str _,H,I.tok _,{_,rfl},q}}}|int j e=>exact{"str",_,ń.lookup,Ĭ _ _ _,Ş (l:=none) (u:=↑(j,e)) (st:=none) {(ob),c,b,hd} rfl<|ş {Õ (Ś z _ _) a,λd k=>{.str _,H,I.tok _,{_,rfl},q}}}
 |int i g=>
  cases f with
  |none=>exact{"str",_,ń.lookup,Ĭ _ _ _,Ş (l:=↑(i,g)) (u:=none) (st:=none) {(ob),c,b,hd} rfl<|ş {Õ (Ś z _ _) a,λd k=>{.str _,H,I.tok _,{_,rfl},q}}}|int j e=>exact{"str",_,ń.lookup,Ĭ _ _ _,Ş (l:=↑(i,g)) (u:=↑(j,e)) (st:=none) {(ob),c,b,hd} rfl<|ş {Õ (Ś z _ _) a,λd k=>{.str _,H,I.tok _,{_,rfl},q}}}
def EG(ma:AG)(d c:Option<|AG):AG:=λY=>match ma Y with
 |some (.v (.str z) ϊ)=>(match Et d Y,Et c Y with
  |some b,↑a=>if z.length<=BI then ↑(.v (.str<|Txt.slice z b a) false) else none
  |ϊ,ϋ=>none)
 |ϊ=>none
def zi5{lo hi}(A:PE X a<|tM X.K E ca ma)(C:PO X lo<|HI X.K ml)(hh:PO X hi<|HI X.K mh):PE X (.Subscript a (.Slice lo hi none p2) pos)<|tM X.K E ca<|EG ma ml mh:=by
 refine PE.weak (ZK zn2 A C hh) λO H Q h=>?_;let(F,Y,R,S,q):=h;refine{F,Y,R,S,?_};unfold EG at q;cases m:ma Y with
 |none=>rw[m]at q;symm|some r=>
  rw[m]at q;cases r with
  |x c=>symm|v t I=>
   cases t with
   |str z=>
    intro j p x B w g1;have D:=Ig g1;subst D;have b:Ext F H j p R0:=w.mono λϊ z=>z.elim
    have k:=S.ext b;cases d:Et ml Y with
    |none=>erw[d]at q<;>symm|some i=>
     refine{j,Y,R,i,k,d,λn G l=>?_};have u:=k.ext l;cases e:Et mh Y with
     |none=>erw[d,e]at q<;>symm|some f=>
      erw[d,e]at q;refine{n,Y,R,f,u,e,λo s y=>?_};by_cases g:z.length<=BI;rw[if_pos g]at q;exact{z,rfl,g,q o s _ R0 (b.trans0<|l.trans0 y)<|.str _};rw[if_neg g]at q;symm
   |_=>symm
def rIxD:R2:=λx y H Q=>∃a b k v,x=.ref a/\y=.str k/\Rd H a (.dK b)/\E6 b (Sum.inr k)=↑v/\Q v H
def fN(p:X.A.units+1<cLine):Ga X rIxD:=by
 intro d c z s O H x y v u Q I A B h o;let(a,f,k,w,rfl,rfl,j,t,q):=h;cases A;have g:Pw H a (kV<|Sum.inr k) ↑w:=.inl {f,Sum.inr k,j,rfl,t.symm}
 have n:s.TypeIs (.ref a) "dict":=by
  let(_,_,D,_,m):=V6 I.hok j;exact m.typeIs
 refine Â ?_;refine Â<|wpAny_specialOf n PySem.F.slot_dict_getitem.lookup ?_
 have BZ:wpAny (model X.prog X.w) X.A (subscripted c false (.ref a) u) (λr b=>wpAny (model X.prog X.w) X.A (letTemporaryGo d (.ref a) r >>= λϊ=>pure r) (EP X z O Q) X.xe b) X.xe s:=by
  rw[o];exact wpAny_operating<|ê (zh3 p I g (B) λE C l i=>{(w),H,l,i,q}) (λr b e=>Â<|wpAny_letTemporaryGo<|Ð e) λϊ ϊ x=>x
 first|exact Ð (Â BZ)|rfl|rfl
def Kh:Ob->Option (ky)
 |.sdc a=>↑a|ϊ=>none
def zn7{F:Hp}{k:Ob}{p:Addr}{xs:qE}(h:Kh k=↑ks)(o:KW F k p xs):ks.length=xs.length/\Rd F p (.dK<|Cf ks xs):=by
 cases k<;>first|(cases h;exact⟨o.1,.inl o.2⟩)|(cases h;exact⟨o.1,.inr o.2⟩)|cases h
def Cs(m mk:AG):AG:=λY=>match m Y with
 |some (.v (.obj kd l) ϊ)=>(match Kh kd with
  |some a=>(match mk Y with
   |some (.v (.str y) ϊ)=>(match CI a y with
    |some j=>(match l[j]? with
     |some u=>if u.sh then ↑(.v u false) else none
     |none=>none)
    |none=>none)
   |ϊ=>none)
  |none=>none)
 |ϊ=>none
def QV:∀{ks} {xs} {y} {j} {v},CI ks y=↑j->xs[j]?=↑v->E6 (Cf ks xs) (Sum.inr y)=↑v
 |[],xs,y,j,v,h,ϊ=>by simp[CI]at h|k::ks,[],y,j,v,ϊ,h=>by simp at h|k::ks,x::xs,y,j,v,h,a=>by
  show E6 ((Sum.inr k,x)::Cf ks xs) (Sum.inr y)=↑v;unfold CI at h;rw[ų]at h;by_cases e:k=y;rw[@decide_eq_true _ (Classical.propDecidable _) e]at h;erw[Å,Ŧ]at h;subst h;rw[M8 (p:=(Sum.inr k,x))<|by rw[e]];simpa using a;rw[@decide_eq_false _ (Classical.propDecidable _) e]at h;erw[ņ,Ã,Ú]at h;let(c,b,rfl):=h;rw[M9 (p:=(Sum.inr k,x))<|λz=>e<|Sum.inr.inj z]
  exact QV (show CI ks y=↑c from b)<|by simpa using a
def r_gt(W:X.A.units+1<cLine)(U:PE X o<|tM X.K E ca m)(hk:PE X k<|tM X.K E ca mk)(V:KU k):PE X (.Subscript o k pos)<|tM X.K E ca<|Cs m mk:=by
 refine PE.weak (NH (fN W) U hk V) λO H Q h=>?_;let(F,Y,R,S,q):=h;refine{F,Y,R,S,?_};unfold Cs at q;cases D:m Y with
 |none=>rw[D]at q;symm|some r=>
  rw[D]at q;cases r with
  |x c=>symm|v t b=>
   cases t with
   |obj kd l=>
    cases g:Kh kd with
    |none=>erw[g]at q<;>symm|some ks=>
     erw[g]at q;intro A I x B n g1;let(r1,L):=OK g1;subst L;let(a,xs,rfl,_,w,el,J):=r1.obj_inv;let(T,M):=zn7 g w;refine{A,Y,R,S.ext n,?_};cases i:mk Y with
     |none=>rw[i]at q;symm|some r2=>
      rw[i]at q;cases r2 with
      |x c=>symm|v t2 b2=>
       cases t2 with
       |str y=>
        simp only at q;intro C p z B2 K g2;have Z:=Ig g2;subst Z;have d:Ext A I C p R0:=K.mono λϊ z=>z.elim
        cases s:CI ks y with
        |none=>erw[s]at q<;>symm|some j=>
         erw[s]at q;cases e:l[j]? with
         |none=>erw[e]at q<;>symm|some u=>
          erw[e]at q;by_cases f:u.sh=true;rw[if_pos f]at q;have P:=(É.mp e).1;have G:xs[j]?=↑xs[j]:=Á<|by lia
          have N:=(J j u _ e G).move (H':=p) f d.ff;exact{a,_,y,_,rfl,rfl,M.elim (λh=>.inl<|d.hh _ _<|n.fh _ _ h) λ⟨o,h⟩=>.inr {o,d.hh _ _<|n.fh _ _ h},QV s G,q C p _ R0 (n.trans0 d) N};rw[if_neg f]at q;symm
       |_=>symm
   |_=>symm
def tKys(d:TE):TE:=λO H Q=>d O H λx b=>∃a c xs,x=.ref a/\c.length=xs.length/\b a=↑(.dK<|Cf c xs)/\∀p,b p=none->Q (.ref p) (upd b p<|.lst<|c.map V.str)
def fE:∀{ks} {xs},ks.length=xs.length->(Cf ks xs).length=ks.length
 |[],[],ϊ=>rfl|[],ϊ::ϋ,h=>by simp at h|ϊ::ϋ,[],h=>by simp at h|k::ks,x::xs,h=>by
  show(Cf ks xs).length+1=ks.length+1;rw[fE<|by simpa using h]
def fG:∀{ks} {xs} {vs},ks.length=xs.length->KV (Cf ks xs) vs->vs.map (·.1)=ks.map Sum.inr
 |[],[],vs,ϊ,r=>by
  have a :=(r);cases a;rfl
 |[],ϊ::ϋ,ό,h,ύ=>by simp at h|ϊ::ϋ,[],ό,h,ύ=>by simp at h|k::ks,x::xs,vs,h,r=>by
  have a :=r;cases a with
  |@cons ϊ q ϋ c hd b=>rw[Ö,Ö,<- hd.1,fG (by simpa using h) b]
def zoq(U:X.calm=true)(Y:Gl X "list")(Z:X.mg "list"=none)(ho:PE X o to)(J:starEach [o] X.env=[(false,eval o X.env)]) :
  PE X (.Call (.Name "list" p) [o] [] p2) (tKys to):=by
 intro pz s O H Q I h;refine ī<|Gq I Y Z Ň ?_ (by decide)<|by decide
 refine Đ ?_ (by rw[J];rfl) rfl;rw[J];show wpAny _ _ (spliced<|(false,eval o X.env)::backTo p2 (starEach [] X.env)) _ _ s;refine Calls.spliced_cons<|A5 (ho pz s O H _ I h) λv s1 zz=>?_
 let(x,H1,m,r1,q1):=zz;let(a,g,xs,rfl,F,hd,q):=q1;cases r1;let(z,D,K,l,o',T,S,C,r):=(m.hok a _ hd);have B:s1.heap.DictAt (Dl X.prog X.w) a K S:={(o'),T,C,r};refine Calls.spliced_nil ?_;refine W.kdl_call (W.kdl_dict D) (m.ok.hd U) B (by rw[<- zps l];exact z) λh' tk c L hk G e=>?_
 have b:=fG F l;refine{.ref _,_,m.laid hk (Ä _) ?_,rfl,q _<|m.hok.fresh<|Ä _};refine{by rw[À,<- fE F];exact z,c.toList,L,?_,by rw[G]}
 have j:c.toList.length=g.length:=by
  rw[Array.length_toList,e.1,<- À,b,À]
 have f:∀(n ) (k ) (v ),g[n]?=↑k->c.toList[n]?=↑v->∃t,v=Value.str k t:=λn k v y A=>by
  let(k',x',M,N):=e.2 n v (by rw[<- Array.getElem?_toList];exact A);have E:(K.map (·.1))[n]?=↑k':=by rw[Î,M];rfl
  rw[b,Î,y]at E;have P :=(Ù E).symm;subst P
  rcases Fj (show Hk (Sum.inr k) v=true from N) with ⟨i,t,w,_⟩|⟨x,t,w,R⟩;cases w;cases w;exact{(t),R}
 clear G hk e;generalize c.toList=d at j f;clear hd q b
 have go:∀(g:ky) (d ),d.length=g.length->(∀(n:Nat) (k ) (v ),g[n]?=↑k->d[n]?=↑v->∃t,v=Value.str k t)->Al (g.map V.str) d:=by
  intro g
  induction g with
  |nil=>
   intro d u _;cases d with
   |nil=>exact .nil|cons ϊ ϋ=>simp at u
  |cons k g ih=>
   intro d u f;cases d with
   |nil=>simp at u|cons v d=>exact .cons (f 0 k v rfl rfl)<|ih d (by simpa using u) λn k v y A=>f (n+1) k v (by simpa using y)<|by simpa using A
 exact go g d j f
def He(m:AG):AG:=λY=>match m Y with
 |some (.v (.obj (.sdc a) ϊ) ϋ)=>↑(.v (.own<|a.map T.str) false)|ϊ=>none
theorem zi2{K}(c:ky):Am K F (c.map T.str)<|c.map V.str:={by simp,λi t x a b=>by
 rw[Î]at a b;cases h:c[i]? with
 |none=>grind|some k=>rw[h]at a b;cases a;cases b;exact .str k}
def r_kys(D:X.calm=true)(G:Gl X "list")(I:X.mg "list"=none)(J:PE X o<|tM X.K E ca m)(L:starEach [o] X.env=[(false,eval o X.env)]):PE X (.Call (.Name "list" p) [o] [] p2)<|tM X.K E ca<|He m:=by
 refine PE.weak (zoq D G I J L) λO H Q h=>?_;let(F,Y,R,S,q):=h;refine{F,Y,R,S,?_};unfold He at q;cases d:m Y with
 |none=>rw[d]at q;symm|some r=>
  rw[d]at q;cases r with
  |x c=>symm|v t b=>
   cases t with
   |obj kd l=>
    cases kd with
    |sdc j=>
     intro n u x B f g1;let(M,y):=OK g1;subst y;let(a,xs,rfl,_,(i,A),P,N):=M.obj_inv;refine{a,j,xs,rfl,i,f.fh _ _ A,λp K=>?_}
     have w:Dd X.K n u (.own<|j.map T.str) Q:=λk s z C e g=>q k s z C (f.trans0 e) g;exact w.list f.fh (zi2 j) K
    |_=>symm
   |_=>symm
structure ICls(K:q9)(C:Addr):Prop where
 c:Cls K C
 a:W.findIn K (.ref C) "__class__"=↑(↑(.builtin "object.__class__"))
 n:W.specialIn K (.builtin "object.__class__") "__get__"=↑(↑(.builtin "getset_descriptor.__get__"))
 k:W.takesIn K (.builtin "object.__class__")=↑true
 m:W.mroIn K C (.type "object")=↑true
def Uk(a:List<|Addr×Bool):Ob->qB
 |.ins C ϊ=>(a.lookup C).map .bl|ϊ=>none
def Md:List String:=["NoneType","bool","int","str","list","tuple","dict"]
def LX(a:List<|Addr×Bool):T->qB
 |.obj o ϊ=>Uk a o|t=>(Me t).map λϊ=>.bl false
def zjk(c:ICls X.K C)(hk:W.kitOne X.K (.ref C) (.ref D)=↑b):CT X (.builtin "isinstance") (λxs H Q=>∃a dx fs,xs=[.ref a,.ref D]/\H a=↑(.ins C dx fs)/\Q (.bl b) H):=by
 intro g s O H xs i Q I r h;let(a,dx,fs,rfl,e,q):=h;let(u,j,rfl,d,f):=IG r;cases f;exact Ui I d (.ins e c.c c.a c.n c.k c.m) hk λtk=>{.bl b,H,I.tok _,rfl,q}
def r_isC(g:(∀C b,tb.lookup C=↑b->ICls X.K C/\W.kitOne X.K (.ref C) (.ref D)=↑b)/\(Md.all λa=>W.kitOne X.K (.type a) (.ref D) == ↑false)=true)(J:Gl X "isinstance")(f:X.mg "isinstance"=none)(j:Gl X c)(k:X.mg c=↑(.ref D))(hd:(c == "__debug__")=false)(i:PE X e<|tM X.K E ca m)(l:starEach [e,.Name c p2] X.env=(false,eval e X.env)::starEach [.Name c p2] X.env) :
  PE X (.Call (.Name "isinstance" p) [e,.Name c p2] [] pos) (tM X.K E ca<|Bm (g1<|LX tb)<|AB m AE):=by
 have B:CT X (.builtin "isinstance") (λxs H Q=>(∃C b a d fs,tb.lookup C=↑b/\xs=[.ref a,.ref D]/\H a=↑(.ins C d fs)/\Q (.bl b) H)\/∃x a,xs=[x,.ref D]/\a∈Md/\(TyOf X.K H x (.type a)\/We X.K H x a)/\Q (.bl false) H):=λL s O H xs P Q I r h=>by
  rcases h with ⟨C,b,a,d,fs,n,h⟩|⟨x,a,rfl,f,ty,q⟩;exact zjk (g.1 C b n).1 (g.1 C b n).2 L s O H xs P Q I r {(a),d,fs,h};have hk :=eq_of_beq<|Ò.mp g.2 a f;let(u,U,rfl,t,N):=IG r;cases N
  rcases ty with ty|K;exact Ui I t ty hk λtk=>{.bl false,H,I.tok _,rfl,q};exact fS I t K hk λtk=>{.bl false,H,I.tok _,rfl,q}
 refine PE.weak (NJ B J f PyProof.Rows.boot_isinstance (FK i (FK (ZO (v:=.ref D) j k rfl hd) GA) l) (by decide) (by decide) l rfl) λO H Q h=>?_;refine(IK<|IL h).mono λx S z=>?_;let(F,T,w,fh,rs,e,q):=IJ z;unfold g1 at e;split at e;let(V,R,y,o,M):=rs.inv;cases y;unfold LX at e;split at e;unfold Uk at e;split at e;let(b,G,rfl):=Ú.mp e;let(a,xs,rfl,_,(d,A),_,_):=o.obj_inv;exact .inl {_,b,a,d,_,G,rfl,fh _ _ A,q.bl fh}
 cases e;let(a,i,rfl):=Ú.mp e;let(ty,f):=Xi fh o i;exact .inr {_,a,rfl,f,ty,q.bl fh}
 cases e
end
open Classical in
def JU(i:Nat)(mk m:AG):AH:=λY=>match m Y with
 |some (.v t false)=>(match GB (Y.getD i none) with
  |some (a,l)=>(match mk Y with
   |some (.v (.str k) ϊ)=>if k∉a/\a.length<100000 then ↑(.nx<|Y.set i<|↑(.osd (a++[k])<|l++[t])) else
    none
   |some (.v ϊ ϋ)=>none|some (.x c)=>↑(.xc c Y)|none=>none)
  |none=>none)
 |some (.v ϊ true)=>none|some (.x c)=>↑(.xc c Y)|none=>none
def ZV{Y:AM}(h:GB (Y.getD i none)=↑(ks,l)):Y[i]?=↑(↑(.osd ks l)):=by
 have:=ZX h;rw[Þ]at this;cases e:Y[i]? with
 |none=>rw[e]at this;cases this|some o=>rw[e]at this;rw[<- this];rfl
section
variable {X:Cx}{E:L2.St->XK}{ca:Str->Value}{m mk:AG}{e k:Expr}{pos p1 pos2 pos3:Pos}{mu:Bool}{i j:Nat}{x f:Str}
def s_dps(hu:X.A.units+1<cLine)(hN:X.N[i]?=↑x)(hv:DN X.env.scope x)(hd:(x == "__debug__")=false)(K:(x == "__classdict__")=false)(he:PE X e<|tM X.K E ca m)(hk:PE X k<|tM X.K E ca mk)(hs:swapsWithSole [.Subscript (.Name x p1) k pos2] e pos.line X.env=pure false)(hw:swappedStores [.Subscript (.Name x p1) k pos2] e X.env=pure none)
  (ha : ∀ v, assign (.Subscript (.Name x p1) k pos2) X.env v = (do
   let ov <- holding [v]<|eval (.Name x p1) X.env;let iv <- holding [v,ov] (eval k X.env)
   standAt pos2
   holding [v,ov,iv] (setItem ov iv v)
   release [v,ov,iv] [])) :
  PS X (.Assign [.Subscript (.Name x p1) k pos2] e pos) (tS X.K E ca mu<|JU i mk m):=by
 refine PS.weak (JZ he (Ks (FJ hN hv hd K) hk (YN hu) ha) hs hw rfl) λD O H h=>?_;let(F,Y,R,S,q):=h;refine{F,Y,R,S,?_};unfold JU at q;cases W:m Y with
 |none=>erw[W]at q<;>symm|some r=>
  erw[W]at q;cases r with
  |x c=>exact λf g e=>q f g O R e.stp0 (S.ext e)|v t bb=>
   cases bb with
   |true=>symm|false=>
    intro F1 H1 y B o g1;have G :=g1;simp only at q;cases L:GB (Y.getD i none) with
    |none=>erw[L]at q<;>symm|some kl=>
     let(N,l):=kl;erw[L]at q;have n:=S.ext o;have Z:=ZV L;let(y2,V,ry):=n.rep i _ Z;refine{y2,V,F1,Y,R,n,?_};cases d:mk Y with
     |none=>erw[d]at q<;>symm|some r=>
      erw[d]at q;cases r with
      |x c=>exact λf g e=>q f g O R ((o.stp0).trans e.stp0) (n.ext e)|v tk bk=>
       cases tk with
       |str M=>
        simp only at q;by_cases A:M∉N/\N.length<100000;rw[if_pos A]at q;intro F2 H2 z C b g2;have hz:=Ig g2;subst hz;have S2:=n.ext b;have P:=ry.ext b;let(p,xs,Rs,rfl,u,fp,hp,rs,s,ds):=P.osd_inv;have I :=G.ext b;have J:∀j a,R j a->¬ B a:=λj a T U=>S.apart o U j T
        have pB:¬ B p:=J i p (by rw[u];exact .inl rfl);refine{p,Cf N xs,M,rfl,rfl,hp,?_,?_};rw[fF s,<- s,č];exact Ĩ A.2<|by decide
        rw[Yx s A.1];have r3:=ZT (k:=M) rs s fp ds I (λj a T U=>J i a (by rw[u];exact .inr {(j),T}) U) pB
        let(S3,Q):=S2.upd Z V (by rw[u];exact .inl rfl) r3 (λa z=>by
         rw[u];rcases z with z|z;exact .inl<|.inl z
         rcases Qa z with w|w;exact .inl<|.inr w
         exact .inr w) J
        exact q F2 _ O _ ((o.stp.trans b.stp0).trans Q) S3;rw[if_neg A]at q;symm
       |_=>exact λf g z CC b g2=>q.elim
def HV(l:qF)(j:Nat):Option<|qF:=match l[j]? with
 |some (.nd true .lst v)=>↑v|ϊ=>none
def zf6(h:HV l j=↑v):l[j]?=↑(.own v):=by
 unfold HV at h;grind
def Kk(i:Nat)(mk m:AG):AH:=λY=>match GB (Y.getD i none) with
 |some (a,l)=>(match mk Y with
  |some (.v (.str y) false)=>(match CI a y with
   |some j=>(match HV l j with
    |some v=>(match m Y with
     |some (.v t false)=>if v.length<BI/\t.sh=true then ↑(.nx<|Y.set i<|↑(.osd a<|l.set j<|.own<|v++[t])) else none
     |ϊ=>none)
    |none=>none)
   |none=>none)
  |ϊ=>none)
 |none=>none
def s_dap(hu:X.A.units+1<cLine)(hN:X.N[i]?=↑x)(hv:DN X.env.scope x)(hd:(x == "__debug__")=false)(hcd:(x == "__classdict__")=false)(hk:PE X k<|tM X.K E ca mk)(hsl:KU k)(he:PE X e<|tM X.K E ca m)(hs:starEach [e] X.env=[(false,eval e X.env)])(g:(apos.endLine == cpos.line)=true) :
  PS X (.Expr (.Call (.Attribute (.Subscript (.Name x p1) k pos2) "append" apos) [e] [] cpos) pos) (tS X.K E ca mu<|Kk i mk m):=by
 refine PS.weak (ND (NK Ņ PySem.F.slot_list_append PySem.F.type_list_append dJ (NH (fN hu) (FJ hN hv hd hcd) hk hsl) (FK he GA hs) rfl (by rw[hs];rfl) g hs rfl) rfl) λD O H h=>?_;let(F,Y,R,S,q):=h;unfold Kk at q;cases ho:GB (Y.getD i none) with
 |none=>erw[ho]at q<;>symm|some kl=>
  let(ks,l):=kl;erw[ho]at q;have ht:=ZV ho;let(y2,ey,ry):=S.rep i _ ht;refine{y2,ey,F,Y,R,S,?_};cases L:mk Y with
  |none=>erw[L]at q<;>symm|some r=>
   erw[L]at q;cases r with
   |x c=>symm|v tk bk=>
    cases bk with
    |true=>cases tk<;>symm|false=>
    cases tk with
    |str kk=>
     simp only at q;intro F1 H1 z C W g1;have w:=Ig g1;subst w;cases u:CI ks kk with
     |none=>erw[u]at q<;>symm|some j=>
      erw[u]at q;cases o:HV l j with
      |none=>erw[o]at q<;>symm|some v=>
       erw[o]at q;have M:=zf6 o;have S1:=S.ext W;have Q:=ry.ext W;let(p,xs,Rs,rfl,hA,fp,hp,rs,ek,ds):=Q.osd_inv;have K:=(É.mp M).1;have hjx:j<xs.length:=by rw[<- rs.len];exact K
       have hx :=Á hjx;have rk:=rs.rep j _ _ M hx;let(s,T,Rr,A,J,fpd,N,ro,dr,_):=rk.own_inv rfl;refine{p,_,kk,xs[j],rfl,rfl,.inl hp,QV u hx,?_};rw[A];refine{.inl {rfl,T,Ai.of N},F1,Y,R,S1,?_};cases hm:m Y with
       |none=>erw[hm]at q<;>symm|some r=>
        erw[hm]at q;cases r with
        |x c=>symm|v t bb=>
         cases bb with
         |true=>symm|false=>
          intro V H2 y B f g2;have I:=g2;simp only at q
          by_cases w:v.length<BI/\t.sh=true;rw[if_pos w]at q;have hB:=Rp.r0 I w.2;subst hB;have S2:=S1.ext f;have b:=rs.ext f;have ry2:=Q.ext f;have ro2:=ro.ext f;have P:=f.hh _ _ N;have Z:=(ry2.dom (by rw[hA];exact .inl rfl)).1
          have hp2:=f.hh _ _ hp;have d:Rs j s:=by rw[J];exact .inl rfl
          have pne:s≠p:=λz=>ds j<|z▸d
          have G:=(b.dom d).1;refine{s,T,y,rfl,rfl,P,by rw[<- ro.len,<- GP];exact w.1,?_};have ro3:RpO X.K V (upd H2 s<|.lst<|T++[y]) (v++[t]) (T++[y]) _:=(ro2.upd dr).snoc (B:=R0) (I.upd<|λz=>z.elim) λϊ ϊ ϊ z=>z.elim
          have r3:=IU (k:=.lst) trivial ro3 G C2 (n:=rfl) λj z=>by
           by_cases u:j=v.length;erw[u,Å]at z;exact z.elim;erw[u,Ã]at z;exact dr j z
          have hE:(λa=>a=s\/∃j,(if j=v.length then R0 else Rr j) a)=Rs j:=by
           rw[J];funext a;apply propext;constructor;rintro(z|⟨j,z⟩);exact .inl z;split at z;exact z.elim;exact .inr {(j),z};rintro(z|⟨j,z⟩);exact .inl z;exact .inr {j,by rw[if_neg<|Ô<|ro.out j a z];exact z}
          rw[hE]at r3;have oth :=λk hk z=>b.dis k j s hk z d
          have rs3:RpO X.K V (upd H2 s<|.lst<|T++[y]) (l.set j<|.own<|v++[t]) xs Rs:=by
           refine{by rw[Ā];exact b.len,λk t' x' U h2=>?_,b.dis,λk a z=>by rw[Ā];exact b.out k a z};by_cases hk:k=j;subst hk;rw[å K]at U;rw[hx]at h2;cases U;cases h2;rw[A];exact r3;rw[á<|Ë hk]at U;exact(b.rep k t' x' U h2).upd (oth k hk)
          have r4:=ZU rs3 ek Z (by rw[BF<|Ë pne];exact hp2) ds;let(S3,st3):=S2.upd (B:=R0) ht ey (by rw[hA];exact .inr {(j),d}) r4 (λa z=>.inl (by rw[hA];exact z))<|λj a z1 z2=>z2
          exact q V _ O _ ((W.stp0.trans f.stp).trans st3) S3;rw[if_neg w]at q;symm
    |_=>symm
end
def Km(m n:AH):AH:=λY=>match m Y with
 |some r=>↑r|none=>n Y
def JS(C:Addr)(fs:ky)(j i:Nat)(m:AG):AH:=λY=>match m Y with
 |some (.v t false)=>(match ES Y i C fs with
  |some (p,l)=>if j<l.length/\l.length<900 then ↑(.nx<|Y.set i<|↑(.oob p C fs<|l.set j t)) else none
  |none=>none)
 |some (.v ϊ true)=>none|some (.x c)=>↑(.xc c Y)|none=>none
def Yz{y:V}:∀{fs:ky} {xs:qE} {j:Nat},fs[j]?=↑f->(fs.take j).contains f=false->j<xs.length->DL f y (fs.zip xs)=fs.zip (xs.set j y)
 |[],xs,j,h,ϊ,ϋ=>by simp at h|g::r,[],j,h,ϊ,a=>by simp at a|g::r,x::xs,0,h,b,a=>by
  simp at h;subst h;simp[DL]
 |g::r,x::xs,j+1,h,b,a=>by
  rw[List.take_succ_cons,œ,õ]at b
  have c:¬ g=f:=λz=>by
   grind
  have d:=Yz (y:=y) (fs:=r) (xs:=xs) (j:=j) (by simpa using h) b.2<|by simpa using a
  rw[Ģ,List.set_cons_succ,Ģ];show(if g=f then _ else _)=_
  grind
section
variable {X:Cx}{E:L2.St->XK}{ca:Str->Value}{m:AG}{e:Expr}{pos p1 pos2:Pos}{mu:Bool}{i j:Nat}{x f:Str}{C:Addr}{fs:ky}{st:Stmt}{a b:AH}
theorem s_alt(e:PS X st<|tS X.K E ca mu a)(f:PS X st<|tS X.K E ca mu b):PS X st<|tS X.K E ca mu<|Km a b:=λd s O H D I h=>by
 let(F,Y,R,S,q):=h;unfold Km at q;cases c:a Y with
 |none=>rw[c]at q;exact f d s O H D I {(F),Y,R,S,q}|some r=>rw[c]at q;exact e d s O H D I {F,Y,R,S,by rw[c];exact q}
def zng(c:Cls X.K C)(hn:B7 X.K C f)(hj:fs[j]?=↑f)(J:(fs.take j).contains f=false)(hjl:j<900)(hN:X.N[i]?=↑x)(hv:DN X.env.scope x)(hd:(x == "__debug__")=false)(I:(x == "__classdict__")=false)(he:PE X e<|tM X.K E ca m)
  (hs:swapsWith e (↑(.Attribute (.Name x p1) f pos2)) pos.line X.env=pure false):PS X (.Assign [.Attribute (.Name x p1) f pos2] e pos)<|tS X.K E ca mu<|JS C fs j i m:=by
 refine PS.weak (ZD (FJ hN hv hd I) he hs) λD O H h=>?_;let(F,Y,R,S,q):=h;refine{F,Y,R,S,?_};unfold JS at q;cases hm:m Y with
 |none=>erw[hm]at q<;>symm|some r=>
  erw[hm]at q;cases r with
  |x c=>exact λF' H' e=>q F' H' O R e.stp0 (S.ext e)|v t bb=>
   cases bb with
   |true=>exact λk o y B b g1=>q.elim|false=>
    intro k o y B b g1;have A:Rp X.K k o t y B:=g1;simp only at q;cases K:ES Y i C fs with
    |none=>erw[K]at q<;>symm|some pl=>
     let(p,l):=pl;erw[K]at q;by_cases d:j<l.length/\l.length<900;let(hl,hl9):=id d;rw[if_pos d]at q;have S1:=S.ext b;have ht:=J2 K;let(y2,Z,ry):=S.rep i _ ht;let(W,xs,Rr,rfl,G,fp,L,n,dp):=ry.oob_inv;have N:j<xs.length:=by rw[<- n.len];exact hl
     have hfj:=(É.mp hj).1;have M:=b.hh _ _ L;have pB:¬ B p:=λz=>by rw[b.nb p z]at L;cases L
     have u:k p=none:=(ry.ext b |>.dom (by rw[G];exact .inl rfl)).1;refine{_,Z,p,C,W,fs.zip xs,rfl,M,c,hn,?_,?_};rw[List.length_zip];have:=n.len
     lia;rw[Yz hj J N];have P:=n.ext b;have Q:RpO X.K k (upd o p<|.ins C W<|fs.zip<|xs.set j y) (l.set j t) (xs.set j y) _:=(P.upd dp).set hl (A.upd pB) λg a ϊ U V=>n.apart b V g U
     have s:∀g,¬ (if g=j then B else Rr g) p:=λg z=>by
      by_cases hj:g=j;erw[hj,Å]at z;exact pB z;erw[hj,Ã]at z;exact dp g z
     have r2:=NR (C:=C) (fs:=fs) Q u C2 s
     let(S3,T):=S1.upd ht Z (by rw[G];exact .inl rfl) r2 (B:=B) (λa z=>by
      rw[G];rcases z with z|z;exact .inl<|.inl z
      rcases Kg z with w|w;exact .inl<|.inr w
      exact .inr w)<|λj a U V=>S.apart b V j U
     exact q k _ O _ (b.stp.trans T) S3;rw[if_neg d]at q;symm
end
def LI(C:Addr)(fs:ky)(j i:Nat):AG:=λY=>match ES Y i C fs with
 |some (ϊ,l)=>(match l[j]? with
  |some u=>if u.sh=true then ↑(.v u false) else none
  |none=>none)
 |none=>none
def zo2{X:Cx}{E:L2.St->XK}{ca:Str->Value}{pos y:Pos}{i j:Nat}{x f:Str}{C:Addr}{fs:ky}(c:Cls X.K C)(s:B7 X.K C f)(hj:fs.findIdx? (· == f)=↑j)(r:X.N[i]?=↑x)(w:DN X.env.scope x)(hd:(x == ("__debug__":Str))=false)(b:(x == "__classdict__")=false) :
  PE X (.Attribute (.Name x y) f pos) (tM X.K E ca<|LI C fs j i):=by
 refine PE.weak (NI (FJ r w hd b) rfl) λO H Q h=>?_;let(F,Y,R,S,q):=h;unfold LI at q;cases e:ES Y i C fs with
 |none=>erw[e]at q<;>symm|some z=>
  let(p,l):=z;erw[e]at q;cases a:l[j]? with
  |none=>erw[a]at q<;>symm|some u=>
   erw[a]at q;by_cases g:u.sh=true;rw[if_pos g]at q;have v:=J2 e;let(I,o,A):=S.rep i _ v;let(n,xs,B,rfl,G,D,t,m,dp):=A.oob_inv;have d:j<xs.length:=by rw[<- m.len];exact(É.mp a).1
   have k:=Á d;refine{_,o,p,C,n,_,xs[j],rfl,t,c,s,Nq hj k,?_};exact q F H _ R0 (Ext.refl S.fh)<|(m.rep j _ _ a k).move g (.refl _)
   rw[if_neg g]at q;symm
open Classical in
def Kj(C:Addr)(fs:ky)(j i:Nat)(mk m:AG):AH:=λY=>match m Y with
 |some (.v t false)=>(match ES Y i C fs with
  |some (p,l)=>(match FL l[j]? with
   |some lv=>(match mk Y with
    |some (.v (.int k) ϊ)=>(match Bk lv.length k with
     |some n=>↑(.nx<|Y.set i<|↑(.oob p C fs<|l.set j<|.own<|lv.set n t.share))|none=>none)
    |some (.v ϊ ϋ)=>none|some (.x c)=>↑(.xc c Y)|none=>none)
   |none=>none)
  |none=>none)
 |some (.v ϊ true)=>none|some (.x c)=>↑(.xc c Y)|none=>none
def ze1(h:FL o=↑l):o=↑(.own l):=by
 unfold FL at h;grind
def s_lsf{X:Cx}{E:L2.St->XK}{ca:Str->Value}{m mk:AG}{e k:Expr}{pos T pos2 d:Pos}{mu:Bool}{i j:Nat}{x f:Str}{C:Addr}{fs:ky}(c:Cls X.K C)(J:B7 X.K C f)(hj:fs.findIdx? (· == f)=↑j)(hN:X.N[i]?=↑x)(hv:DN X.env.scope x)(hd:(x == ("__debug__":Str))=false)(hcd:(x == "__classdict__")=false)(he:PE X e<|tM X.K E ca m)(hk:PE X k<|tM X.K E ca mk)
  (hs:swapsWithSole [.Subscript (.Attribute (.Name x T) f d) k pos2] e pos.line X.env=pure false) (hw:swappedStores [.Subscript (.Attribute (.Name x T) f d) k pos2] e X.env=pure none)
  (ha : ∀ v, assign (.Subscript (.Attribute (.Name x T) f d) k pos2) X.env v = (do
   let ov <- holding [v]<|eval (.Attribute (.Name x T) f d) X.env;let iv <- holding [v,ov] (eval k X.env)
   standAt pos2
   holding [v,ov,iv] (setItem ov iv v)
   release [v,ov,iv] [])) :
  PS X (.Assign [.Subscript (.Attribute (.Name x T) f d) k pos2] e pos) (tS X.K E ca mu<|Kj C fs j i mk m):=by
 refine PS.weak (JZ he (Ks (NI (FJ hN hv hd hcd) rfl) hk Qd ha) hs hw rfl) λD O H h=>?_;let(F,Y,R,S,q):=h;refine{F,Y,R,S,?_};unfold Kj at q;cases hm:m Y with
 |none=>erw[hm]at q<;>symm|some r=>
  erw[hm]at q;cases r with
  |x c=>exact λF' W e=>q F' W O R e.stp0 (S.ext e)|v t bb=>
   cases bb with
   |true=>exact λU H1 y B e1 g1=>q.elim|false=>
    intro F0 H1 y B e0 g0;simp only at q;let(U,e1,_,g1):=Dx.frz S e0 g0;have g1':Rp X.K U H1 t.share y R0:=(g1).any;cases ho:ES Y i C fs with
    |none=>erw[ho]at q<;>symm|some pl=>
     let(p,l):=pl;erw[ho]at q;cases A:FL l[j]? with
     |none=>erw[A]at q<;>symm|some lv=>
      erw[A]at q;have Q:=ze1 A;have S1:=S.ext e1;have ht:=J2 ho;let(y2,ey,ry):=S1.rep i _ ht;let(dx,xs,I,rfl,hA,fp,hp,ro,dp):=ry.oob_inv;have w:=(É.mp Q).1;have hjx:j<xs.length:=by rw[<- ro.len];exact w
      have hx :=Á hjx;refine{_,ey,p,C,dx,_,xs[j],rfl,hp,c,J,Nq hj hx,U,Y,R,S1,?_};cases P:mk Y with
      |none=>erw[P]at q<;>symm|some r=>
       erw[P]at q;cases r with
       |x c=>exact λF' W e=>q F' W O R ((e1.stp0).trans e.stp0) (S1.ext e)|v tk bk=>
        cases tk with
        |int kk=>
         simp only at q;cases J:Bk lv.length kk with
         |none=>erw[J]at q<;>symm|some n=>
          erw[J]at q;intro V Z z CC u g2;have hz:=L1 g2;subst hz;have e2':Ext U H1 V Z R0:=u.mono λϊ z=>z.elim
          have S2:=S1.ext u;have ry2:=ry.ext u;have g:=ro.ext u;have fp2 :=(ry2.dom (by rw[hA];exact .inl rfl)).1
          have hp2:=u.hh _ _ hp;have rk:=g.rep j _ _ Q hx;let(o,ys,Rs,L,M,fpd,hpd,rs,ds,hOw):=rk.own_inv rfl;have g2' :=g1'.ext u;have G:I j o:=by rw[M];exact .inl rfl
          have pne:o≠p:=λz=>dp j<|z▸G
          have hnl:=(Ji J).2.1;refine{o,ys,kk,n,L,rfl,hpd,by rw[<- rs.len];exact J,?_};have rs2:RpO X.K V (upd Z o<|.lst<|ys.set n y) (lv.set n t.share) (ys.set n y) _:=(rs.upd ds).set hnl ((g2'.any (H':=Z)).upd λz=>z.elim) λb a ϊ K s=>s
          have ds2:∀b,¬ (if b=n then R0 else Rs b) o:=λb z=>by
           by_cases N:b=n;erw[N,Å]at z;exact z;erw[N,Ã]at z;exact ds b z
          have r3:=IU hOw rs2 fpd C2 ds2 rfl
          have hE:∀a,(a=o\/∃b,(if b=n then R0 else Rs b) a)->I j a:=λa z=>by
           rw[M];rcases z with z|⟨b,z⟩;exact .inl z;split at z;exact z.elim;exact .inr {(b),z}
          have oth :=λk hk z=>g.dis k j o hk z G
          have ro3:RpO X.K V (upd Z o<|.lst<|ys.set n y) (l.set j<|.own<|lv.set n t.share) xs (λk=>if k=j then (λa=>a=o\/∃b,(if b=n then R0 else Rs b) a) else I k):=by
           refine{by rw[Ā];exact g.len,λk t' x' h1 h2=>?_,λk1 k2 a hk K s=>?_,λk a z=>?_};by_cases hk:k=j;subst hk;rw[å w]at h1;rw[hx]at h2;cases h1;cases h2;rw[L,if_pos rfl];exact r3;rw[á<|Ë hk]at h1;rw[if_neg hk];exact(g.rep k t' x' h1 h2).upd (oth k hk)
           have w1:I k1 a:=by
            by_cases h:k1=j;rw[if_pos h]at K;exact h▸hE a K;rw[if_neg h]at K;exact K
           have w2:I k2 a:=by
            by_cases h:k2=j;rw[if_pos h]at s;exact h▸hE a s;rw[if_neg h]at s;exact s
           exact g.dis k1 k2 a hk w1 w2;rw[Ā];by_cases h:k=j;rw[h];exact w;rw[if_neg h]at z;exact g.out k a z
          have dp3:∀k,¬ (if k=j then (λa=>a=o\/∃b,(if b=n then R0 else Rs b) a) else I k) p:=λk z=>by
           by_cases h:k=j;rw[if_pos h]at z;exact dp j<|hE p z
           rw[if_neg h]at z;exact dp k z
          have r4:=NR ro3 fp2 (by rw[BF<|Ë pne];exact hp2) dp3
          let(S3,st3):=S2.upd ht ey (by rw[hA];exact .inr {(j),G}) r4 (B:=R0) (λa z=>.inl (by
           rw[hA];rcases z with z|⟨k,z⟩;exact .inl z;by_cases h:k=j;rw[if_pos h]at z;exact .inr {j,hE a z}
           rw[if_neg h]at z;exact .inr {(k),z}))<|λj a K s=>s
          exact q V _ O _ ((e1.stp.trans u.stp0).trans st3) S3
        |_=>symm
end Pu
namespace Zx
open PySem PySem.Spec PyProof.Rows L2 Zw
section
variable {A:Around}{E:Value->Shared->Prop}{M:Model}
end
section
variable {X:Cx}{i1 i2:Nat}{x1 x2 n1 n2:Str}{np1 np2 pos hpos1 hpos2:Pos}{body suite1 suite2:kx}{b1 b2:Stmt}{tb th1 th2:TS}{E:L2.St->XK}
end
end Zx
namespace Pu
open PySem PySem.Spec PyProof.Rows L2 Zw Zx
section
variable {X:Cx}{E:L2.St->XK}{ca:Str->Value}{mu:Bool}{i1 i2:Nat}{x1 x2 n1 n2:Str}{np1 np2 pos hpos1 hpos2:Pos}{body suite1 suite2:kx}{b1 b2:Stmt}{u h1 h2:AH}{cs1 cs2:List<|Str×Addr}
variable {m:AG}{e:Expr}{p p2 p3 p4:Pos}{c1 c2:Str}{t1 t2:List<|Addr×Bool}{kt:Nat}
end
end Pu
namespace Zx
open PySem PySem.Spec PyProof.Rows L2 Zw
def tTry0(K:q9)(W:Addr)(E:L2.St->XK)(e th:TS):TS:=λD O H=>e D O H/\∀c a d b,E c a d b->∃C,a=.ref C/\PySem.W.subIn K (.ref C) (.ref W)=↑true/\th D c b
section
variable {X:Cx}{x:Str}{np pos hpos:Pos}{body suite:kx}{b₀:Stmt}{tb th:TS}{E:L2.St->XK}
def zkr(T:ECls X.K X.mg x)(J:X.stack=X.env::X.outer)(hf:X.env.frame=↑X.env.locals)(j:∀pz xe,C1 (F8 X pz xe) E->Bf (F8 X pz xe) body tb)(hh:∀a,Bf (Lg X a) (b₀::suite) th)(hg:Gl X x)(hdb:(x == "__debug__")=false) :
  PS X (.Try body [.ExceptHandler (↑(.Name x np)) none (b₀::suite) hpos] [] [] pos) (tTry0 X.K T.C E tb th):=by
 intro pz s O H D I h;let(h1,h2):=h
 refine wpAny_Try_except (ê (j pz (λe P=>wpAny (model X.prog X.w) X.A (noteFrame e X.env) (λϊ Q=>wpAny (model X.prog X.w) X.A (setFlight e none) (λϊ R=>wpAny (model X.prog X.w) X.A (handleBy e X.env [.ExceptHandler (↑(.Name x np)) none (b₀::suite) hpos]) (SP X pz D) X.xe R) X.xe Q) X.xe P)
  ?pass [] s O H D (zq5 I) h1) (λf L q=>?_)<|λe L q=>q)
 case pass=>
  intro pins1 O1 H1 L e s' Y hcx;have V :=Z6 (ok:=I.ok) Y;let(a,cls,i,B,rfl,os,bare,un,hok,kB,tB,fl0,he):=hcx;let(c0,dx):=cls;let(C,A,K,kk):=h2 O1 c0 dx i he;have A :=A;subst A;have fl1 :=J▸fl0
  have sl:∀y,s'.heap.UpToSlots y->∀b o,L.heap.get? b=↑o->H1 b=none->b∈Bg X.stack->∃z,y.get? b=↑{ o with slots:=z }:=λy U b o e n j=>by
   let(_,o2,G,hd):=V.stack.mem j;rw[e]at G;cases G;let(z2,e2):=un.slot b o e n j<|by simp
   let(z3,e3):=U b { o with slots:=z2 } e2 hd;exact{(z3),e3}
  have l :=λy st U=>
   V.call' (s':={ s' with heap:=y }) os {λb o e n j ϊ=>st b o<|kB b o e n j,λb o e n j ϊ=>sl y U b o e n j,un.free,λb o e ϊ=>by
    by_cases j:b∈Bg X.stack;let(z,q):=sl y U b o e (V.stkFree b j) j;exact{_,q}
    let(o',q):=tB b o e j;exact{o',st b o' q},un.tups,un.frzs,un.tbls} (hok.kept st) bare (λϊ z=>nomatch z)
  refine Sw (J▸I.ok.frames) rfl hf fl1 λh4 F M=>?_;refine Ub F λh5 w N=>?_;have Z:=l h5 w.1<|M.trans N;let(oe,he5,hc5):=w.there;let(cd,bm,dd,kf,mN,hC,_,_,TL):=jS Z.kIn T.k.q;refine wpAny_handleBy_cons (codeAny_handlers_test<|Jc (fY Z) hg T.m ?_ hdb) (by intro q;cases q)
  refine exm hC he5 hc5 (TL.hasType Š.hasBase) (W.looks_subIn Z.kIn K) ?_;refine codeAny_handlers_suite<|zr3 w λh6 fl6 sm6=>?_
  refine ê (hh a pz _ O1 i D (fY<|l h6 fl6.1<|(M.trans N).trans sm6) kk) (λf s8 S=>?_)<|λϊ ϊ z=>False.elim z
  cases f with
  |next=>let(c,m,p,t):=S;exact{c,m,NS I.ok p,t}
  |brk=>let(c,m,p,t):=S;exact{c,m,NS I.ok p,t}
  |cont=>let(c,m,p,t):=S;exact{c,m,NS I.ok p,t}
  |ret u=>let(v,c,m,p,r8,t):=S;exact{v,c,m,NS I.ok p,r8,t}
 have g:∀{xe0 } {k } {i },Inv (F8 X pz xe0) [] k i L->Inv X pz k i L:=λΓ=>Z6 (ok:=I.ok) Γ;cases f with
 |next=>let(k,i,Γ,d):=q;exact ľ {k,i,g Γ,d}
 |brk=>let(k,i,Γ,d):=q;exact{k,i,g Γ,d}
 |cont=>let(k,i,Γ,d):=q;exact{k,i,g Γ,d}
 |ret u=>let(v,k,i,Γ,r,d):=q;exact{v,k,i,g Γ,r,d}
end
end Zx
namespace Pu
open PySem PySem.Spec PyProof.Rows L2 Zw Zx
def HN(cs:List<|Str×Addr)(u h:AH):AH:=λY=>match u Y with
 |some (.xc c b)=>(match cs.lookup (HU c) with
  |some ϊ=>(match h b with
   |some (.nx a)=>↑(.nx a)|some (.rt t)=>↑(.rt t)|ϊ=>none)
  |none=>none)
 |r=>r
section
variable {X:Cx}{E:L2.St->XK}{ca:Str->Value}{mu:Bool}{x:Str}{np pos hpos:Pos}{body suite:kx}{b₀:Stmt}{u h:AH}{cs:List<|Str×Addr}
def zn9(T:ECls X.K X.mg x)(p:∀c C,cs.lookup c=↑C->ca c=.ref C/\W.subIn X.K (.ref C) (.ref T.C)=↑true)(w:X.stack=X.env::X.outer)(M:X.env.frame=↑X.env.locals)
  (L:∀(E' ) pz xe,C1 (F8 X pz xe) E'->Bf (F8 X pz xe) body (tS X.K E' ca mu u)) (hh:∀a,Bf (Lg X a) (b₀::suite)<|tS X.K E00 ca mu h) (N:Gl X x) (r:(x == "__debug__")=false) :
  PS X (.Try body [.ExceptHandler (↑(.Name x np)) none (b₀::suite) hpos] [] [] pos) (tS X.K E ca mu<|HN cs u h):=by
 intro pz s O H D I Q;let(F,Y,R,S,q):=Q;let E':L2.St->XK:=λz g ϊ k=>∃c b e f,u Y=↑(.xc c b)/\g=ca (HU c)/\Stp F H (tot R) e k (tot f)/\StR X.K e k z b f
 refine zkr T w M (λpz xe P=>L E' pz xe P) hh N r pz s O H D I {{F,Y,R,S,?_},?_};unfold HN at q;cases i:u Y with
 |none=>rw[i]at q;exact q|some o=>
  cases o with
  |xc c b=>exact λe Z O' f st m ϊ ϊ=>{(c),b,e,f,i,rfl,st,m}|_=>rw[i]at q;exact q
 intro z g _ k ⟨c,b,e,f,i,n,st,m⟩;unfold HN at q;erw[i]at q;cases v:cs.lookup (HU c) with
 |none=>erw[v]at q<;>symm|some C=>
  erw[v]at q;let(J,K):=p _ C v;refine{C,n.trans J,K,e,b,f,m,?_};cases hh:h b with
  |none=>erw[hh]at q<;>symm|some o=>
   erw[hh]at q;cases o with
   |nx V=>exact λj l y A d G=>q j l y A (st.trans d) G|rt t=>exact λj l x B d U=>q j l x B (st.trans d) U|bk ϊ=>symm|ct ϊ=>symm|xc ϊ ϋ=>symm
variable {m mk ma:AG}{o k e a:Expr}{apos cpos p p2:Pos}
end
section
variable {X:Cx}{E:L2.St->XK}{ca:Str->Value}{m mk:AG}{o k e:Expr}{pos pos' apos cpos:Pos}
def Kl(i:Nat)(m:AG):AH:=λY=>match Y[i]? with
 |some (↑(.int a))=>(match m Y with
  |some (.v (.int b) ϊ)=>↑(.nx<|Y.set i<|↑(.int<|a+b))|ϊ=>none)
 |ϊ=>none
def s_aug{mu:Bool}{i:Nat}{x:Str}(u:X.N.Nodup)(G:X.N[i]?=↑x)(I:G9 X.env.scope x)(A:PE X e<|tM X.K E ca m)(C:X.fn x=true\/X.env.scope.names.lookup x=↑.local) :
  PS X (.AugAssign (.Name x pos') .Add e pos) (tS X.K E ca mu<|Kl i m):=by
 refine PS.weak (zod u G I A zq4 C) λD O H h=>?_;let(F,Y,R,S,q):=h;unfold Kl at q;cases f:Y[i]? with
 |none=>rw[f]at q;symm|some J=>
  rw[f]at q;cases J with
  |none=>symm|some t=>
   cases t with
   |int a=>
    simp only at q;let(y,s,K):=S.rep i _ f;have g:=K.int_inv;subst g;refine{_,s,F,Y,R,S,?_};cases o:m Y with
    |none=>rw[o]at q;symm|some r=>
     rw[o]at q;cases r with
     |x c=>symm|v t b=>
      cases t with
      |int z=>
       simp only at q;intro k l y B p g1;have g:=L1 g1;subst g;have d:Ext F H k l R0:=p.mono λϊ z=>z.elim
       refine{a,z,rfl,rfl,?_};refine q k l _ _ (d.stp0.mono λb ⟨j,w⟩=>{j,?_})<|(S.ext d).set (.int<|a+z) (λϊ ϊ ϊ ϊ z=>z.elim) (É.mp f).1
       by_cases n:j=i;erw[n,Å]at w;exact w.elim;simpa[n] using w
      |_=>symm
   |_=>symm
def tRv(K:q9)(d:TE)(ts:TO):TE:=λO H Q=>d O H λx c=>ts O c λk b=>∃a xs,k=↑(-1)/\x=.ref a/\Ai K b a xs/\∀p,b p=none->Q (.ref p) (upd b p<|.lst xs.reverse)
def zhv{xs:qE}{us:ki}(h:Al xs us):Al xs.reverse us.reverse:=by
 induction h with
 |nil=>exact .nil|cons a ϊ b=>rw[List.reverse_cons,List.reverse_cons];exact b.append<|.cons a .nil
def pe_rv{l:TE}{ts:TO}{st:Expr}{j:Pos}(t:PE X e l)(u:PO X ↑st ts):PE X (.Subscript e (.Slice none none ↑st j) pos)<|tRv X.K l ts:=by
 intro d s O H Q I h;refine Subscript_<|A5 (t d s O H _ I h) λv B C=>?_
 let(x,n,p,A,z):=C;refine wpAny_Slice ?_;rw[evalPart_none];refine Ð<|Ð ?_;refine A5 (u d B O n _ p z) λm c ⟨k,H3,I3,pk,q3⟩=>?_
 let(a,xs,rfl,rfl,w,q):=q3;cases A;have f:Inv X d O H3 { c with heap:=c.heap.push { cls:=.type "slice",data:=.fields #[.none,.none,m] } }:=I3.kept (t':=c.toks) λb ob q=>Ó _ q
 let(y,r,g,i):=f.list w;show wpAny (model X.prog X.w) X.A (subscriptTail e (.Slice none none ↑st j) (.ref a)<|.ref c.heap.objs.size) (EP X d O Q) X.xe { c with heap:=c.heap.push { cls:=.type "slice",data:=.fields #[.none,.none,m] } }
 refine tail_any (ops:=[.ref a,.ref c.heap.objs.size]) g.isList.typeIs slot_list_getitem.lookup (wpAny_getItem_list_slice g.isList (Heap.IsSliceOf.new ..) .none .none pk (by decide) ?_ (by rw[ë,<- r.length];exact i))<|by with_unfolding_all rfl
 rw[W.krv_pick];refine{.ref _,_,f.laid (t':=c.toks) (o:=.lst xs.reverse) (λb ob q=>Ó _ q) (Ä _) ?_,rfl,q _<|f.hok.fresh<|Ä _};exact{by rw[Ŏ];exact i,_,0,zhv r,â _ rfl}
def LG(m mk:AG):AG:=λY=>match m Y with
 |some (.v (.nd ϊ .lst l) false)=>(match Et ↑mk Y with
  |some ↑k=>if k=-1 then ↑(.v (.own (BP l).reverse) false) else none
  |ϊ=>none)
 |ϊ=>none
def zkb{K:q9}{F:Hp}{l:qF}{xs:qE}(h:Am K F l xs):Am K F l.reverse xs.reverse:=by
 let(c,d):=h;refine{by simp[c],λi t x a b=>?_};have e:i<l.length:=by simpa using (É.mp a).1
 rw[ū e]at a;rw[ū<|by lia]at b;refine d _ t x a ?_;rw[c];exact b
def r_rv{st:Expr}{N:Pos}(J:PE X e<|tM X.K E ca m)(K:PO X ↑st<|HI X.K ↑mk):PE X (.Subscript e (.Slice none none ↑st N) pos)<|tM X.K E ca<|LG m mk:=by
 refine PE.weak (pe_rv J K) λO H Q h=>?_;let(F,Y,R,S,q):=h;refine{F,Y,R,S,?_};unfold LG at q;cases s:m Y with
 |none=>rw[s]at q;symm|some r=>
  rw[s]at q;cases r with
  |x c=>symm|v t b=>
   cases t with
   |nd o kd l=>
    cases kd with
    |lst=>
     cases b with
     |true=>symm|false=>
      simp only at q;intro U V x B G g1;let(a,d,_,P):=Dx.frz (b:=false) S G g1;have D:=S.ext d;cases j:Et ↑mk Y with
      |none=>rw[j]at q;symm|some ok=>
       rw[j]at q;cases ok with
       |none=>symm|some k=>
        simp only at q;by_cases hk:k=-1;rw[if_pos hk]at q;refine{a,Y,R,↑k,D,j,λi A f=>?_};have u:Rp X.K i i (T.nd o .lst l).share x R0:=(show Rp X.K a a _ x R0 from P).frame f.ff λϊ z=>z.elim;rw[T.share]at u;let(p,xs,rfl,_,M,L):=EU u;refine{p,xs,by rw[hk],rfl,Ai.of<|f.fh _ _ M,λW n=>?_}
        have I:Dd X.K i A (.own (BP l).reverse) Q:=λw y z C e g=>q w y z C ((d.trans0 f).trans0 e) g;exact I.list f.fh (zkb L) n;rw[if_neg hk]at q;symm
    |_=>symm
   |_=>symm
end
abbrev f6(ms:BN):BN:=C6 ms
theorem r_enX{X:Cx}{E:L2.St->XK}{ca:Str->Value}{ms:BN}{a:Expr}{b:ku}{h:Nat}{p pos c:Pos}(e:Gl X "enumerate")(f:X.mg "enumerate"=none)(d:PA X [a]<|CD X.K E ca ms)(g:starEach [a] X.env=[(false,eval a X.env)]):PI X (.Tuple b h c) (.Call (.Name "enumerate" p) [a] [] pos)<|tI X.K E ca<|f6 ms:=Yo e f d g
def clsO(C N:Addr)(o:Obj):Prop:=∃nm q bs b k sub d c e f g h i j a,o=excClassObj nm q C N bs [.type "object"] b k sub d c e f g h i j a
def keyO(e:DictEntry):Bool:=match e.key with
 |.str n ϊ=>!(n == ("__eq__":Str)) && !(n == ("__ne__":Str))|ϊ=>false
def nsO(o:Obj):Bool:=match o.data with
 |.dict a ϊ=>a.toList.all keyO|ϊ=>false
structure TiOk(K:q9)(C:Addr):Prop where
 i:ICls K C
 k:(JJ.all λc=>W.kitOne K (.ref C) (.type c) == ↑false)=true
 o:∃(oC oN:Obj) (N:Addr),K.lookup C=↑oC/\clsO C N oC/\K.lookup N=↑oN/\nsO oN=true
mutual
noncomputable def T.lend:T->T
 |.nd o k l=>match o,k with
  |true,.lst=>.nd false .rl (Hh l)|true,.tup=>.nd false .tup (Hh l)|ϊ,ϋ=>.nd o k l
 |.dic a l=>.dic a l|.pdc a l=>.pdc a l|.odc a l=>.odc a l|.obj k l=>.obj k l|.oob p C fs l=>.oob p C fs l|.osd a l=>.osd a l|.non=>.non|.bl b=>.bl b|.int i=>.int i|.str x=>.str x
noncomputable def Hh:List T->List T
 |[]=>[]|t::r=>t.lend::Hh r
end
def Uj:T->Bool
 |.nd o k ϊ=>match o,k with
  |true,.lst=>true|ϊ,ϋ=>false
 |ϊ=>false
def zlx(h:Uj t=true):∃l,t=.nd true .lst l:=by
 cases t with
 |nd o k l=>
  cases o with
  |false=>cases h|true=>cases k<;>first|exact⟨l,rfl⟩|cases h
 |_=>cases h
mutual
noncomputable def T.lnd:T->Bool
 |.nd o k l=>match o,k with
  |true,.lst=>GO l|true,.tup=>l.any Uj && GO l|true,ϊ=>false|false,ϊ=>AX l
 |.dic ϊ l=>AX l|.pdc ϊ l=>AX l|.odc ϊ ϋ=>false|.obj ϊ l=>AX l|.oob ϊ ϋ ό ύ=>false|.osd ϊ ϋ=>false|.non=>true|.bl ϊ=>true|.int ϊ=>true|.str ϊ=>true
noncomputable def GO:List T->Bool
 |[]=>true|t::r=>t.lnd && GO r
end
def Nt:∀l,Hh l=l.map T.lend
 |[]=>rfl|t::r=>by rw[Hh,Nt r];rfl
def U6:∀{l},GO l=true->∀{i:Nat} {t},l[i]?=↑t->t.lnd=true
 |[],ϊ,i,t,e=>by simp at e|a::r,h,i,t,e=>by
  rw[GO,Æ]at h;cases i with
  |zero=>cases e;exact h.1|succ j=>exact U6 h.2<|by simpa using e
def eU(n:T.lnd (.nd true .tup l)=true):l.any Uj=true/\GO l=true:=by
 rw[T.lnd,Æ]at n;exact n
def Rp.lend{K}(r:Rp K F H t x A)(n:t.lnd=true)(s:Ag F F')(k:∀a xs,A a->H a=↑(.lst xs)->∃o,F' a=↑(.frz o<|.lst xs))(k2:∀a xs,A a->H a=↑(.tup xs)->F' a=↑(.tup xs)):Rp K F' H' t.lend x R0:=by
 induction r with
 |non=>exact .non|bl b=>exact .bl b|int i=>exact .int i|str y=>exact .str y|@shr m p xs l h e c g=>
  have C:T.sh (.nd false m l)=true:=by rw[T.sh];rw[T.lnd]at n;exact n
  have B:(T.nd false m l).lend=.nd false m l:=by cases m<;>rfl
  rw[B];exact(Rp.shr (H:=H) h e c).move C s
 |dic h e q c g=>exact(Rp.dic (H:=H) h e q c).move (by rw[T.sh];exact n) s|pdc h e q c g=>exact(Rp.pdc (H:=H) h e q c).move (by rw[T.sh];exact n) s|odc f h e q c g=>cases n|obj h e c g=>exact(Rp.obj (H:=H) h e c).move (by rw[T.sh];exact n) s|oob R f h e c d dp o g=>cases n|osd R f h e q c d dp o g=>cases n|@own m p xs l hk R f h e c d dp o g=>
  have j:GO l=true->∀i t x,(Hh l)[i]?=↑t->xs[i]?=↑x->Rp K F' H' t x R0:=λnl i t x v w=>by
   rw[Nt,Î]at v;let(D,u,rfl):=Ú.mp v;exact g i D x u w (U6 nl u) (λa xs z=>k a xs<|.inr {(i),z}) λa xs z=>k2 a xs<|.inr {(i),z}
  cases m with
  |lst=>rw[T.lend];exact .shr (.inl<|k p xs (.inl rfl) h) (by rw[Nt,À];exact e) (j n)|tup=>rw[T.lend];exact .shr (k:=.tup) (k2 p xs (.inl rfl) h) (by rw[Nt,À];exact e) (j (eU n).2)|_=>cases n
def Rp.lnd{K}(r:Rp K F H t x A)(n:t.lnd=true):∀a,A a->(∃xs,H a=↑(.lst xs))\/∃xs,H a=↑(.tup xs)/\∃(j:Nat) (c:Addr) (ys:qE),xs[j]?=↑(.ref c)/\A c/\H c=↑(.lst ys):=by
 induction r with
 |@own T p xs l hk R f h e c d dp o k=>
  have b:GO l=true->∀a i,R i a->(∃xs,H a=↑(.lst xs))\/∃xs,H a=↑(.tup xs)/\∃(j:Nat) (c:Addr) (ys:qE),xs[j]?=↑(.ref c)/\(c=p\/∃i,R i c)/\H c=↑(.lst ys):=λnl a i z=>by
   have u:=o i a z;have g:i<xs.length:=by lia
   rcases k i _ _ (Á u) (Á g) (U6 nl<|Á u) a z with w|⟨V,E,j,c,ys,G,I,J⟩;exact .inl w;exact .inr {V,E,j,c,ys,G,.inr {(i),I},J}
  cases T with
  |lst=>
   rintro a (rfl|⟨i,z⟩);exact .inl {(xs),h};exact b n a i z
  |tup=>
   let(U,n2):=eU n;rintro a (rfl|⟨i,z⟩);let(t,Q,O):=ø.mp U;let(m,rfl):=zlx O;let(j,M,C):=Ō.mp Q;have g:j<xs.length:=by lia
   have s:=c j _ _ (Á M)<|Á g;rw[C]at s;generalize L:R j=B at s;generalize S:xs[j]=y at s;cases s with
   |@own k1 q ys m' N W fq P Z X Y v oq=>exact .inr {xs,h,j,q,ys,by rw[Á g,S],.inr {j,by rw[L];exact .inl rfl},P}
   exact b n2 a i z
  |_=>cases n
 |odc f h e D c k=>cases n|oob R f h e c d dp o k=>cases n|osd R f h e D c d dp o k=>cases n|_=>exact λa z=>z.elim
open Classical in
def fz(A:Rg)(h:Heap)(H:Hp):Hp:=λb=>if A b then (match H b,h.get? b with
 |some (.lst xs),↑o=>↑(.frz o<|.lst xs)|u,ϊ=>u) else H b
open Classical in
def th(A:Rg)(H H':Hp):Hp:=λb=>if A b then H b else H' b
def fz_in{A:Rg}{h:Heap}{H:Hp}(z:A b)(e:H b=↑(.lst xs))(q:h.get? b=↑o):fz A h H b=↑(.frz o<|.lst xs):=by unfold fz;rw[if_pos z,e,q]
def gN{A:Rg}{h:Heap}{H:Hp}(z:¬ A b):fz A h H b=H b:=by unfold fz;rw[if_neg z]
set_option tactic.hygienic true in
def L7{A:Rg}{h:Heap}{H:Hp}(e:∀xs,H b≠↑(.lst xs)):fz A h H b=H b:=by
 unfold fz;split;split;rename_i xs _ q _;exact absurd q<|e xs
 rfl;rfl
def JK{A:Rg}{H H':Hp}(z:A b):th A H H' b=H b:=by unfold th;rw[if_pos z]
def Fs{A:Rg}{H H':Hp}(z:¬ A b):th A H H' b=H' b:=by unfold th;rw[if_neg z]
section
variable {X:Cx}{pz:List<|Addr×Obj}{O O':L2.St}{H H':Hp}{s s':Shared}{A:Rg}
def Ii(I:Inv X pz O H s)(z:A b)(e:H b=↑(.lst xs)):∃o,s.heap.get? b=↑o/\fz A s.heap H b=↑(.frz o<|.lst xs):=by
 let(_,a,n,_,q):=I.hok b _ e;exact{_,q,fz_in z e q}
def ziv(I:Inv X pz O H s):Inv X pz O (fz A s.heap H) s:=by
 have nf:∀{b},H b=none->fz A s.heap H b=none:=λ{b} e=>by
  rw[L7 (λxs q=>by rw[e]at q;cases q)];exact e
 have nl:∀{b} {u},H b=↑u->(∀xs,u≠.lst xs)->fz A s.heap H b=↑u:=λ{b u} e n=>by
  rw[L7 (λxs q=>by rw[e]at q;exact n xs<|Ù q)];exact e
 refine { I with base:={I.base.keep,I.base.slot,λb o e n k=>nf<|I.base.free b o e n k,I.base.there,λb xs e=>nl (I.base.tups b xs e) (λϊ z=>by cases z),λb o u e=>nl (I.base.frzs b o u e) (λϊ z=>by cases z),λb ps e=>?_},free:=nf I.free,freeC:=λx c e=>nf<|I.freeC x c e,pin:=λp j=>?_,hok:=λa o e=>?_ };let(more,q):=I.base.tbls b ps e;exact{more,nl q<|λϊ z=>by cases z};let(f,g,h):=I.pin p j;exact{f,nf g,h};have st:=λ{u} q=>(I.hok a u q).stay (H':=fz A s.heap H) (λϊ ϊ ϊ e=>e) (λb e=>nl e<|λϊ z=>by cases z) λb xs e=>nl e<|λϊ z=>by cases z
 by_cases z:A a/\∃xs,H a=↑(.lst xs);let(z,xs,q):=z;let(ob,i,w):=Ii I z q;rw[w]at e;cases e;exact{i,st q}
 by_cases d:A a;rw[L7<|λxs q=>z {(d),xs,q}]at e;exact st e;rw[gN d]at e;exact st e
def ziu(I:Inv X pz O H s)(d:∀a,A a->(∃xs,H a=↑(.lst xs))\/∃xs,H a=↑(.tup xs))(Γ:Inv X pz O' H' s')(hk:∀b,A b->H' b=fz A s.heap H b):Inv X pz O' (th A H H') s':=by
 have nf:∀{b},(A b->H b=none)->H' b=none->th A H H' b=none:=λ{b} i j=>by
  by_cases z:A b;rw[JK z];exact i z;rw[Fs z];exact j
 have h:∀{b xs},A b->H b=↑(.tup xs)->H' b=↑(.tup xs):=λ{b xs} z e=>by
  rw[hk b z,L7 (λt q=>by rw[e]at q;cases q)];exact e
 have nl:∀{b} {u},H' b=↑u->(∀o xs,u≠.frz o (.lst xs))->th A H H' b=↑u:=λ{b u} e n=>by
  by_cases z:A b;rcases d b z with ⟨xs,q⟩|⟨xs,q⟩;let(o,_,w):=Ii I z q;rw[hk b z,w]at e;exact absurd (Ù e).symm<|n o xs
  rw[JK z,q,<- h z q];exact e;rw[Fs z];exact e
 refine { Γ with base:={Γ.base.keep,Γ.base.slot,λb o e n g=>nf (λϊ=>I.base.free b o e n g)<|Γ.base.free b o e n g,Γ.base.there,λb xs e=>nl (Γ.base.tups b xs e) (λϊ ϊ z=>by cases z),λb o u e=>?_,λb ps e=>?_},free:=nf (λϊ=>I.free) Γ.free,freeC:=λx c e=>nf (λϊ=>I.freeC x c e)<|Γ.freeC x c e,pin:=λp f=>?_,hok:=λa o e=>?_ };by_cases z:A b;rw[JK z];exact I.base.frzs b o u e;rw[Fs z];exact Γ.base.frzs b o u e;let(more,q):=Γ.base.tbls b ps e;exact{more,nl q<|λϊ ϊ z=>by cases z};let(k,l,m):=Γ.pin p f;exact{k,nf (λϊ=>(I.pin p f).2.1) l,m};have st:=λ{u} (q:DH X.prog X.w H' s'.heap a u)=>q.stay (H':=th A H H') (λϊ ϊ ϊ e=>e) (λb e=>nl e<|λϊ ϊ z=>by cases z) λb xs e=>nl e<|λϊ ϊ z=>by cases z
 by_cases z:A a;rcases d a z with ⟨xs,q⟩|⟨xs,q⟩;let(ob,r,w):=Ii I z q;rw[JK z,q]at e;cases e;have:=Γ.hok a _<|(hk a z).trans w;exact st this.2
 rw[JK z,q]at e;cases e;exact st<|Γ.hok a _<|h z q
 rw[Fs z]at e;exact st<|Γ.hok a o e
end
def kYng:Kd->Bool
 |.rl=>false|.rt=>false|ϊ=>true
def oYng:Ob->Bool
 |.lab ϊ=>false|ϊ=>true
mutual
noncomputable def T.noR:T->Bool
 |.nd ϊ k l=>kYng k && GI l|.dic ϊ l=>GI l|.pdc ϊ l=>GI l|.odc ϊ l=>GI l|.obj k l=>oYng k && GI l|.oob ϊ ϋ ό l=>GI l|.osd ϊ l=>GI l|.non=>true|.bl ϊ=>true|.int ϊ=>true|.str ϊ=>true
noncomputable def GI:List T->Bool
 |[]=>true|t::r=>t.noR && GI r
end
def GH:∀{l},GI l=true->∀{i:Nat} {t},l[i]?=↑t->t.noR=true
 |[],ϊ,i,t,e=>by simp at e|a::r,h,i,t,e=>by
  rw[GI,Æ]at h;cases i with
  |zero=>cases e;exact h.1|succ j=>exact GH h.2<|by simpa using e
def zpa{K}(r:Rp K F H t (.ref c) A)(n:t.noR=true)(b:F c=↑(.frz o<|.lst ys)):False:=by
 cases r with
 |@shr i p xs l a e k=>
  rw[T.noR,Æ]at n;cases i with
  |lst=>have h:F c=↑(.lst xs):=a;rw[b]at h;cases h|pin q=>have h:F c=↑(.lst xs):=a;rw[b]at h;cases h|tup=>have h:F c=↑(.tup xs):=a;rw[b]at h;cases h|rl=>cases n.1|rt=>cases n.1
 |dic a e g c=>rw[b]at a;cases a|pdc a e g c=>rw[b]at a;cases a|odc f a e g c=>rw[b]at f;cases f|@obj i p xs l a e c=>
  rw[T.noR,Æ]at n;cases i with
  |ins C fs=>let(j,q):=a;rw[b]at q;cases q
  |exn C=>let(j,(ob,q,_),_):=a;rw[b]at q;cases q
  |sdc m=>have q:=a.2;rw[b]at q;cases q|lab q=>cases n.1
 |oob R f a e c d dp o=>rw[b]at f;cases f|osd R f a e g c d dp o=>rw[b]at f;cases f|own hk R f a e c d dp o=>rw[b]at f;cases f
def Rp.noR{K}{N:Hp}{A:Rg}(r:Rp K F H t x B)(n:t.noR=true)(L:∀b,A b->(∃o xs,F b=↑(.frz o<|.lst xs))\/∃xs,F b=↑(.tup xs)/\∃(j:Nat) (c:Addr) (o:Obj) (ys:qE),xs[j]?=↑(.ref c)/\F c=↑(.frz o<|.lst ys))(D:∀b,B b->¬ A b):Rp K (Fb A F) (th A N H) t x B:=by
 have nl:∀{b} {u},F b=↑u->(∀o xs,u≠.frz o (.lst xs))->(∀xs,u≠.tup xs)->Fb A F b=↑u:=λ{b u} e m m2=>by
  unfold Fb;rw[if_neg<|λz=>?_];exact e;rcases L b z with ⟨o,xs,q⟩|⟨xs,q,_⟩;rw[e]at q;exact m o xs<|Ù q
  rw[e]at q;exact m2 xs<|Ù q
 have E:∀{b},F b=none->Fb A F b=none:=λ{b} e=>by unfold Fb;split;rfl;exact e
 induction r with
 |non=>exact .non|bl b=>exact .bl b|int i=>exact .int i|str y=>exact .str y|@shr J p xs l g e c k=>
  rw[T.noR,Æ]at n;refine .shr ?_ e λi t x a h=>k i t x a h (GH n.2 a) λb z=>z.elim;cases J with
  |lst=>exact nl g (λϊ ϊ z=>by cases z) (λϊ z=>by cases z)|pin q=>exact nl g (λϊ ϊ z=>by cases z) (λϊ z=>by cases z)|tup=>
   have I:F p=↑(.tup xs):=g;show Fb A F p=↑(.tup xs);unfold Fb;rw[if_neg<|λz=>?_]
   exact I;rcases L p z with ⟨o,ys,q⟩|⟨S,q,j,P,o,ys,a,h⟩;rw[I]at q;cases q;rw[I]at q;cases q;have M:j<l.length:=by rw[e];exact(É.mp a).1
   exact zpa (c j _ _ (Á M) a) (GH n.2<|Á M) h
  |rl=>cases n.1|rt=>cases n.1
 |dic g e w c k=>exact .dic (nl g (λϊ ϊ z=>by cases z)<|λϊ z=>by cases z) e w λi t x a h=>k i t x a h (GH n a) λb z=>z.elim|pdc g e w c k=>exact .pdc (nl g (λϊ ϊ z=>by cases z)<|λϊ z=>by cases z) e w λi t x a h=>k i t x a h (GH n a) λb z=>z.elim|odc f g e w c k=>exact .odc (E f) ((Fs<|D _ rfl).trans g) e w λi t x a h=>k i t x a h (GH n a) λb z=>z.elim|@obj J p xs l g e c k=>
  rw[T.noR,Æ]at n;refine .obj ?_ e λi t x a h=>k i t x a h (GH n.2 a) λb z=>z.elim;cases J with
  |ins C fs=>exact g.elim λG q=>{G,nl q (λϊ ϊ z=>by cases z)<|λϊ z=>by cases z}|exn C=>let(G,(ob,q,r),s):=g;exact{G,{ob,nl q (λϊ ϊ z=>by cases z) (λϊ z=>by cases z),r},λv O=>let ⟨d,od,u,e,a,r⟩:=s v O;{d,od,u,e,nl a (λϊ ϊ z=>by cases z) (λϊ z=>by cases z),r}}
  |sdc Q=>exact{g.1,nl g.2 (λϊ ϊ z=>by cases z)<|λϊ z=>by cases z}|lab q=>exact g
 |oob R f g e c d dp o k=>exact .oob R (E f) ((Fs<|D _<|.inl rfl).trans g) e (λi t x a h=>k i t x a h (GH n a) λb z=>D b<|.inr {(i),z}) d dp o|osd R f g e w c d dp o k=>exact .osd R (E f) ((Fs<|D _<|.inl rfl).trans g) e w (λi t x a h=>k i t x a h (GH n a) λb z=>D b<|.inr {(i),z}) d dp o|own hk R f g e c d dp o k=>rw[T.noR,Æ]at n;exact .own hk R (E f) ((Fs<|D _<|.inl rfl).trans g) e (λi t x a h=>k i t x a h (GH n.2 a) λb z=>D b<|.inr {(i),z}) d dp o
def Dp(i:Nat)(m:AG):AG:=λY=>match Y[i]? with
 |some ↑t=>if t.lnd then (match m (Y.set i ↑t.lend) with
  |some (.v v false)=>if v.noR then ↑(.v v false) else none
  |ϊ=>none) else none
 |ϊ=>none
def eI(h:Dp i m Y=↑r):∃t v,Y[i]?=↑↑t/\t.lnd=true/\m (Y.set i ↑t.lend)=↑(.v v false)/\v.noR=true/\r=.v v false:=by
 unfold Dp at h;grind
def U8{X:Cx}{E:L2.St->XK}{ca:Str->Value}{m:AG}{i:Nat}{D:List<|Addr×Obj}{s:Shared}{O:L2.St}{H:Hp}{Q:VK}(I:Inv X D O H s)(h:tM X.K E ca (Dp i m) O H Q) :
  ∃A:Rg,Inv X D O (fz A s.heap H) s/\tM X.K E ca m O (fz A s.heap H) (λv H'=>(∀b,A b->H' b=fz A s.heap H b)/\Q v (th A H H'))/\∀{O':L2.St} {H':Hp} {s':Shared},Inv X D O' H' s'->(∀b,A b->H' b=fz A s.heap H b)->Inv X D O' (th A H H') s':=by
 let(F,Y,R,S,q):=h;cases L:Dp i m Y with
 |none=>rw[L]at q;symm|some r=>
  let(t,v,Z,W,hv,hn,rfl):=eI L;rw[L]at q;let(x,ex,r):=S.rep i t Z;have hi:i<Y.length:=(É.mp Z).1;have V:=r.lnd W;have n:∀a,R i a->(∃xs,H a=↑(.lst xs))\/∃xs,H a=↑(.tup xs):=λa z=>(V a z).imp_right λ⟨xs,e,_⟩=>{(xs),e}
  have fA:∀a,R i a->F a=none:=λa z=>(r.dom z).1;have p:∀{b},¬ R i b->fz (R i) s.heap H b=H b:=λz=>gN z;have P:∀{b xs},H b=↑(.tup xs)->fz (R i) s.heap H b=↑(.tup xs):=λ{b xs} e=>by rw[L7 (λys z=>by rw[e]at z;cases z)];exact e
  have M:Ag F<|frz F (fz (R i) s.heap H)<|R i:=F7 fA
  have fh:Ag (frz F (fz (R i) s.heap H)<|R i)<|fz (R i) s.heap H:=λb u e=>by
   by_cases z:R i b;rw[Ee z]at e;exact e;rw[F6 z]at e;rw[p z];exact S.fh b u e
  have S':StR X.K (frz F (fz (R i) s.heap H)<|R i) (fz (R i) s.heap H) O (Y.set i ↑t.lend) (λj=>if j=i then R0 else R j):=by
   refine{fh,by simpa using S.len,λj N e=>?_,λj a z=>?_,λj k a K G J=>?_};by_cases d:j=i;subst d;rw[å hi]at e;cases e;refine{x,ex,?_};erw[Å];refine r.lend W M (λa xs z f=>?_) λa xs z f=>?_;let(o,_,w):=Ii (A:=R j) I z f;exact{o,by rw[Ee z];exact w};rw[Ee z];exact P f;rw[á<|Ë d]at e;let(y,f,r1):=S.rep j N e;refine{y,f,?_};erw[d,Ã];exact r1.frame M λa z=>{p λw=>S.dis j i a d z w,by rw[F6<|λw=>S.dis j i a d z w];exact(r1.dom z).1}
   by_cases d:j=i;erw[d,Å]at z;exact z.elim;erw[d,Ã]at z;let(N,e):=S.out j a z;exact{N,by rw[á<|Ë d];exact e}
   by_cases d:j=i;erw[d,Å]at G;exact G.elim;by_cases hk:k=i;erw[hk,Å]at J;exact J.elim;erw[d,Ã]at G;erw[hk,Ã]at J;exact S.dis j k a K G J
  have l:∀b,R i b->∃u,fz (R i) s.heap H b=↑u:=λb z=>by
   rcases n b z with ⟨xs,e⟩|⟨xs,e⟩;let(o,_,w):=Ii (A:=R i) I z e;exact{_,w};exact{_,P e}
  refine{R i,ziv I,{_,_,_,S',?_},λΓ hk=>ziu I n Γ hk};rw[hv];intro T H' y B e g;have g':Rp X.K T H' v y B:=g
  have nB:∀b,B b->¬ R i b:=λb z w=>by
   let(u,C):=l b w;rw[e.nb b z]at C;cases C
  refine{λb z=>?_,q (Fb (R i) T) (th (R i) H H') y B {λb u w=>?_,λb u w=>?_,λb u w=>?_,λb z=>?_,λb u w=>?_} ?_};let(u,C):=l b z;rw[C];exact e.hh b _ C;by_cases z:R i b;rw[JK z];exact w;rw[Fs z];exact e.hh b u (by rw[p z];exact w);have z:¬ R i b:=λz=>by rw[fA b z]at w;cases w
  unfold Fb;rw[if_neg z];exact e.ff b u<|M b u w
  unfold Fb at w;by_cases z:R i b;rw[if_pos z]at w;cases w;rw[if_neg z]at w;rw[Fs z];exact e.fh b u w;rw[<- p<|nB b z];exact e.nb b z;unfold Fb at w;by_cases z:R i b;rw[if_pos z]at w;cases w;rw[if_neg z]at w;rcases e.nf b u w with w|w;rw[F6 z]at w;exact .inl w;rw[p z]at w;exact .inr w;refine g'.noR hn (λb z=>?_) nB;rcases V b z with ⟨xs,f⟩|⟨xs,f,j,c,ys,h1,U,h3⟩;let(o,_,w):=Ii (A:=R i) I z f;exact .inl {o,xs,e.ff b _ (by rw[Ee z];exact w)};let(o,_,w):=Ii (A:=R i) I U h3;exact .inr {xs,e.ff b _ (by rw[Ee z];exact P f),j,c,o,ys,h1,e.ff c _ (by rw[Ee U];exact w)}
def zo0{X:Cx}{E:L2.St->XK}{ca:Str->Value}{m:AG}{e:Expr}{i:Nat}(d:PE X e<|tM X.K E ca m):PE X e<|tM X.K E ca<|Dp i m:=by
 intro j s O H Q I h;let(A,b,c,a):=U8 I h;refine ê (d j s O _ _ b c) (λu o g=>?_) λϊ ϊ z=>z
 let(l,n,Γ,k,hk,f):=g;exact{l,_,a Γ hk,k,f}
def zkf{X:Cx}{E:L2.St->XK}{ca:Str->Value}{m:AG}{e:Expr}{i:Nat}(Z:PT X e<|BV X.K E ca m):PT X e<|BV X.K E ca<|Dp i m:=by
 intro pz s O H Q I h;let(F,Y,R,S,q):=h;cases o:Dp i m Y with
 |none=>rw[o]at q;symm|some r=>
  let(t,v,M,N,P,e4,rfl):=eI o;rw[o]at q;let(c,rfl):∃c,v=.bl c:=by cases v<;>first|exact⟨_,rfl⟩|symm
  have U:Dp i (λL=>match m L with|some (.v (.bl b) false)=>if b=c then ↑(.v (.bl b) false) else none|ϊ=>none) Y=↑(.v (.bl c) false):=by
   unfold Dp;erw[M,N,P,Å];rfl
  let(A,G,(D,l,J,K,a),j):=U8 (E:=E) (ca:=ca) (Q:=λv d=>∃f,v=V.bl f/\Q f d) I {F,Y,R,S,by
   rw[U];intro n d x B ex g;have T:Rp X.K n d (.bl c) x B:=g;cases T;exact{c,rfl,q n d ex}}
  have W:BV X.K E ca m O (fz A s.heap H)<|λf d=>(∀b,A b->d b=fz A s.heap H b)/\Q f (th A H d):=by
   refine{D,l,J,K,?_};simp only at a;cases C:m l with
   |none=>rw[C]at a;exact a.elim|some r=>
    rw[C]at a;cases r with
    |x f=>exact a.elim|v w b=>
     cases b with
     |true=>cases w<;>exact a.elim|false=>
      cases w with
      |bl b=>
       by_cases y:b=c;subst y;erw[reduceIte]at a;intro n d ex;let(k,f,e,p):=a n d (.bl b) R0 ex<|.bl b;cases e;exact{(k),p}
       erw[y,Ã]at a;exact a.elim
      |_=>exact a.elim
  refine ê (Z pz s O _ _ G W) (λu s' hx=>?_) λϊ ϊ z=>z;let(d,Γ,hk,p):=hx;exact{_,j Γ hk,p}
def znf{X:Cx}{E:L2.St->XK}{ca:Str->Value}{m:AG}{st:Stmt}{i j:Nat}(n:PS X st<|HJ (tM X.K E ca m)<|Gy j):PS X st<|HJ (tM X.K E ca<|Dp i m)<|Gy j:=by
 intro o s O H D I h;let(A,g,k,a):=U8 I h;refine ê (n o s O _ { nx:=λe d=>(∀b,A b->d b=fz A s.heap H b)/\D.nx e (th A H d),rt:=λϊ ϊ=>False,bk:=λϊ ϊ=>False,ct:=λϊ ϊ=>False } g k) (λf p c=>?_) λϊ ϊ z=>z
 cases f with
 |next=>let(e,d,Γ,hk,l):=c;exact{e,_,a Γ hk,l}
 |brk=>let(_,_,_,z):=c;exact z.elim
 |cont=>let(_,_,_,z):=c;exact z.elim
 |ret u=>let(_,_,_,_,_,z):=c;exact z.elim
end Pu
namespace Zx
open PySem PySem.Spec PyProof.Rows L2 Zw
section
variable {M:Model}{prog:Program}{w:World}{A:Around}{E:Value->Shared->Prop}{env:Env}{nm q:Str}{C N:Addr}{bs bm:ki}{hdct:Bool}{sn:ky}{sub:ki}{ab:Bool}{col:Option Bool}{dd:Option Addr}{k0 k1 k2 k3 k5:Option Value}{newId:String}
variable {K:q9}{s:Shared}{e:Addr}{vs:Array Value}{sl:Array<|Option Value}{name:Str}{v:Value}
end
section
variable {K:q9}{prog:Program}{w:World}{A:Around}{E:Value->Shared->Prop}{s:Shared}{a C:Addr}{name:Str}{u:Value}
variable {X:Cx}{pz:List<|Addr×Obj}{O:L2.St}{H:Hp}{t:Addr}
end
section
variable {X:Cx}{E:L2.St->XK}{C:Addr}{x:Str}{p pos:Pos}{e:Expr}{t:TA}{k j:Nat}
end
section
variable {X:Cx}{pz:List<|Addr×Obj}{O:L2.St}{H:Hp}{s:Shared}{a C t:Addr}{dx:Option Addr}
variable {E:L2.St->XK}{e:Expr}{pos:Pos}{te:TE}
end
end Zx
noncomputable section
namespace Pu
open PySem PySem.Spec PyProof.Rows L2 Zw Zx
structure Fn where
 lv:Nat
 ps:ky
 g:qF->Option Ru
structure Gx where
 co:List (Str×T)
 cl:List (Str×Addr×ky)
 mt:List (Str×Addr×ky×Fn)
 nw:List (Str×Fn×List (Nat×qF))
 nr:Bool
 tx:Bool
 df:Bool
 sf:Option (Addr×ky)
 xs:List (Str×List (Str×Addr))
 sb:List (Str×List (Addr×Bool))
 sv:List (Str×List (Addr×Bool))
 no:Bool
 fo:ky
 ci:List (Str×List (Addr×Bool))
 x2:List (Str×Str×List (Str×Addr))
 gt:ky
 wd:List (Str×Fn)
 pn:ky
 ti:List Addr
 dn:List (Str×Fn×qF)
 rn:Option<|Addr×Nat
abbrev B9:Gx:={[],[],[],[],false,true,true,none,[],[],[],true,[],[],[],[],[],[],[],[],none}
structure Gm where
 N:ky
 nm:List (Str×NameKind)
 ce:ky
 lv:Nat
 fns:List (Str×Fn)
 bl:ky
 ex:ky
 ow:ky
 pk:ky
 mu:Bool
 mus:List (Str×Fn)
 mv:ky
 dc:ky
 ox:Gx
def DU(x:Str):Bool:=!(x == ("__debug__":Str)) && !(x == ("__classdict__":Str)) && !(x == ("__name__":Str))
def QU(nm:List<|Str×NameKind)(x:Str):Bool:=nm.lookup x == ↑.local || nm.lookup x == ↑.cell || nm.lookup x == ↑.free
def C7(nm:List<|Str×NameKind)(x:Str):Bool:=nm.lookup x == ↑.globalImplicit
def EX(N:ky)(x:Str):Option Nat:=N.findIdx? (· == x)
def Gm.var(J:Gm)(x:Str):Option Nat:=if DU x && QU J.nm x then EX J.N x else none
def Gm.loc(J:Gm)(x:Str):Bool:=DU x && (J.nm.lookup x == ↑.local || J.ce.contains x)
def Er:Expr->Bool
 |.Starred ..=>false|ϊ=>true
def GC:Expr->Bool
 |.IfExp ..=>false|.NamedExpr ..=>false|ϊ=>true
def nmOf:Expr->Option (Str×Pos)
 |.Name x p=>↑(x,p)|ϊ=>none
def QY:ku->ky
 |[]=>[]|e::a=>(match nmOf e with
  |some (x,ϊ)=>x::QY a|none=>QY a)
def Ek:Expr->ky
 |.Name x ϊ=>[x]|.Tuple a ϊ ϋ=>QY a|ϊ=>[]
def zq3:Expr->Bool
 |.Tuple ..=>true|ϊ=>false
def GU:Expr->Bool
 |.Slice ..=>true|ϊ=>false
def Ew(nm:List<|Str×NameKind):ky:=nm.filterMap λ(y,k)=>if k == .free then ↑y else none
def Vg(nm:List<|Str×NameKind):ky:=nm.filterMap λ(y,k)=>if k == .cell then ↑y else none
def Ko(a outer:List<|Str×NameKind):List<|Str×NameKind:=a.map λ(n,k)=>if (k == .free && outer.lookup n == ↑.cell) then (n,.cell) else (n,k)
def Li(N:ky):ky->Option (qA)
 |[]=>↑[]|y::r=>(match EX N y with
  |some i=>(match Li N r with
   |some l=>↑(i::l)|none=>none)
  |none=>none)
def Ll(J:Gm)(a:Scope)(b:ky):Bool:=
 (a.kind == .function) && a.names.all (λx=>!(x.2 == .local) || a.names.lookup x.1 == ↑.local) &&
 a.names.all (λx=>!(x.2 == .free) || (a.names.lookup x.1 == ↑.free && (J.nm.lookup x.1 == ↑.cell || J.nm.lookup x.1 == ↑.free) && !(a.names.contains (x.1,NameKind.cell)))) &&
 decide b.Nodup && (Vg a.names).all (λy=>(Ko a.names J.nm).lookup y == ↑.cell)
def Gm.blk(J:Gm)(a:Scope)(b:ky):Gm:={ J with N:=b,nm:=Ko a.names J.nm,ce:=(Vg a.names).filter λy=>a.names.lookup y == ↑.cell,ow:=[],ox:={ J.ox with df:=false,nr:=true } }
def Sx:Expr->Bool
 |.Set ..=>false|ϊ=>true
def GV:Expr->Bool
 |.ListComp ..=>true|.SetComp ..=>true|.DictComp ..=>true|ϊ=>false
def fV:Expr->Bool
 |.Attribute ..=>true|ϊ=>false
def gtN(J:Gm):Expr->Bool
 |.Name x ϊ=>J.ox.gt.contains x|ϊ=>false
def HS:Expr->Bool
 |.Call ϊ a ϋ ό=>!a.isEmpty|ϊ=>true
def W8(h:HS o=true):attributeBase o f env (eval o env)=eval o env:=by
 cases o with
 |Call g a b c=>
  cases a with
  |nil=>cases h|cons e a=>cases g<;>rfl
 |_=>rfl
def zgd(h:HS o=true)(a:((backTo pos<|starEach es env).all λx=>!x.1)=true)(d:es.length<30)(c:(ap.endLine == pos.line)=true):∃pl ,eval (.Call (.Attribute o f ap) es [] pos) env=(do
   let ov <- eval o env
   standAt ap.atName
   let (f,first) <- holding [ov] (getMethod ov f pl)
   callWith pos f first (backTo pos<|starEach es env) (backToKw pos<|keywordEach [] env)):=by
 refine{do let b <- importBound o env;pure (b.getD true),?_}
 have e:methodCallForm (es.length+([]:List Keyword).length) (backTo pos<|starEach es env) (backToKw pos<|keywordEach [] env)=true:=by
  unfold methodCallForm;rw[a];show(true && true && decide (es.length+0+0<30))=true;rw[Ì<|by lia];rfl
 rw[arm_eval_Call,W8 h];unfold methodCall calleeOf methodCallPos;rw[e,c];rfl
structure GxOk(G:Gx)(lv:Nat)(P:Program)(w:World)(K:q9)(mg:Str->Option Value)(base:Heap)(ca:Str->Value):Prop where
 co:∀x t,G.co.lookup x=↑t->∃u v,mg x=↑u/\Ak v u/\∀F:Hp,Rp K F F t v R0
 cl:∀c∈G.cl,Cls K c.2.1/\∀f∈c.2.2,B7 K c.2.1 f
 mt:∀c∈G.mt,c.2.2.2.lv<=lv/\Nonempty (MetX P w K mg base c.2.1 c.1 c.2.2.2.lv c.2.2.2.ps<|Bp K ca c.2.2.2.g)
 nw:∀x F ds,G.nw.lookup x=↑(F,ds)->F.lv+1<=lv/\∃(C:Addr) (D:NewX P w K mg base x C F.lv F.ps<|Kc K ca C F.g),∀k dts,ds.lookup k=↑dts->∃dvs us,Cn K D.fd F.ps us/\Al dvs us/\∀H:Hp,Am K H dts dvs
 sf:∀C fs,G.sf=↑(C,fs)->Cls K C/\∀f∈fs,B7 K C f
 xs:∀W cs,G.xs.lookup W=↑cs->∃T:ECls K mg W,∀c C,cs.lookup c=↑C->ca c=.ref C/\PySem.W.subIn K (.ref C) (.ref T.C)=↑true
 sb:∀D tb,G.sb.lookup D=↑tb->∃A:Addr,mg D=↑(.ref A)/\∀C b,tb.lookup C=↑b->ExcK K C/\PySem.W.kitOne K (.ref C) (.ref A)=↑b
 sv:∀D tb,G.sv.lookup D=↑tb->mg D=none/\∃t,bootBuiltins D=↑(.type t)/\∀C b,tb.lookup C=↑b->ExcK K C/\PySem.W.kitOne K (.ref C) (.type t)=↑b
 ci:∀x tb,G.ci.lookup x=↑tb->∃D:Addr,mg x=↑(.ref D)/\(∀C b,tb.lookup C=↑b->ICls K C/\PySem.W.kitOne K (.ref C) (.ref D)=↑b)/\(Md.all λa=>PySem.W.kitOne K (.type a) (.ref D) == ↑false)=true
 x2:∀W1 W2 cs,(W1,W2,cs)∈G.x2->∃(T1:ECls K mg W1) (T2:ECls K mg W2),∀c C,cs.lookup c=↑C->ca c=.ref C/\PySem.W.subIn K (.ref C) (.ref T1.C)=↑false/\PySem.W.subIn K (.ref C) (.ref T2.C)=↑true
 wd:∀x F,G.wd.lookup x=↑F->F.lv<=lv/\∃p,F.ps=[p]/\Nonempty (DefS P w K mg base F.lv x p<|Bp K ca F.g)
 ti:∀C∈G.ti,TiOk K C
 dn:∀x y,G.dn.lookup x=↑y->y.1.lv<=lv/\∃(D:DefX P w K mg base y.1.lv x y.1.ps<|Bp K ca y.1.g) (dvs:qE),DefsX K D.fd y.1.ps dvs/\∀H:Hp,Am K H y.2 dvs
 rn:True
structure CxOk(J:Gm)(X:Cx)(E:L2.St->XK)(ca:Str->Value):Prop where
 N:X.N=J.N
 nd:J.N.Nodup
 nm:X.env.scope.names=J.nm
 kd:X.env.scope.kind=.function
 calm:X.calm=true
 room:Room J.lv X.A
 ce:∀x∈J.ce,X.fn x=true/\J.nm.lookup x=↑.cell
 bl:∀b∈J.bl,X.mg b=none
 ps:C1 X E
 po:J.ox.nr=false->PassesOwn (model X.prog X.w) X.A X.env X.xe
 md:J.ox.nr=false->Ws X E
 mn:True
 fs:∀f F,J.fns.lookup f=↑F->F.lv<=J.lv/\Nonempty (DefX X.prog X.w X.K X.mg X.base F.lv f F.ps<|Bp X.K ca F.g)
 ex:∀c∈J.ex,∃T:ECls X.K X.mg c,ca c=.ref T.C/\EI X.K T.C=↑none
 ms:∀f F,J.mus.lookup f=↑F->F.lv<=J.lv/\Nonempty (DefX X.prog X.w X.K X.mg X.base F.lv f F.ps<|Gg X.K ca F.g)
 gx:GxOk J.ox J.lv X.prog X.w X.K X.mg X.base ca
 tr:J.ox.df=true->X.stack=X.env::X.outer/\X.env.frame=↑X.env.locals
 fr:JC X
def Jh(h:EX N x=↑i):N[i]?=↑x:=by
 unfold EX at h;let(a,b,_):=ď.mp h;rw[Á a];exact congrArg some<|eq_of_beq b
def Di(h:DU x=true):(x == "__debug__")=false/\(x == "__classdict__")=false/\x≠"__name__":=by
 unfold DU at h;grind
def X9(h:QU sc.names x=true):DN sc x:=by
 unfold QU at h;erw[ĕ,Ł]at h;rcases h with (h|h)|h;exact .inl h;exact .inr<|.inl h
 exact .inr<|.inr h
def DA(h:Er e=true):starEach (e::es) env=(false,eval e env)::starEach es env:=by
 cases e<;>first|rfl|cases h
def Ge:∀{es} {env} {pos},(∀e∈es,Er e=true)->(backTo pos<|starEach es env).any (·.1)=false
 |[],env,pos,ϊ=>rfl|e::es,env,pos,h=>by
  rw[DA<|h e (Ï ..)];have b:=Ge (env:=env) (pos:=pos) λx a=>h x<|Í _ a
  show(false || (backTo pos<|starEach es env).any (·.1))=false;grind
section
variable {J:Gm}{X:Cx}{E:L2.St->XK}{ca:Str->Value}
set_option tactic.hygienic true in
def CxOk.var(C:CxOk J X E ca){pos:Pos}(h:J.var x=↑i):X.N[i]?=↑x/\DN X.env.scope x/\(x == "__debug__")=false/\(x == "__classdict__")=false:=by
 unfold Gm.var at h;split at h;rename_i a;rw[Æ]at a;let(b,c,d):=Di a.1;exact{by rw[C.N];exact Jh h,X9 (by rw[C.nm];exact a.2),b,c}
 cases h
def CxOk.gl(C:CxOk J X E ca)(h:C7 J.nm x=true):Gl X x:=by
 show X.env.scope.names.lookup x=↑.globalImplicit;rw[C.nm];exact eq_of_beq h
def CxOk.loc(C:CxOk J X E ca)(h:J.loc x=true)(a:EX J.N x=↑i):X.N[i]?=↑x/\G9 X.env.scope x/\(X.fn x=true\/X.env.scope.names.lookup x=↑.local):=by
 unfold Gm.loc at h;erw[Æ,ĕ,Ł]at h;refine{by rw[C.N];exact Jh a,?_};rcases h.2 with h|h;exact{.inl (by rw[C.nm];exact h),.inr (by rw[C.nm];exact h)};let(c1,c2):=C.ce x<|ð.mp h;exact{.inr (by rw[C.nm];exact c2),.inl c1}
def CxOk.nodup(C:CxOk J X E ca):X.N.Nodup:=by rw[C.N];exact C.nd
def eQ(C:CxOk J X E ca)(b:J.loc x=true)(c:EX J.N x=↑i):PG X (.Name x pos)<|El X.K<|AD i:=by
 let(g1,g2,a):=C.loc b c;exact g_nm C.nodup g1 g2 a
set_option tactic.hygienic true in
def kK:∀{ys} {caps},Li N ys=↑caps->ys.length=caps.length/\∀(k j:Nat),caps[k]?=↑j->∃y,ys[k]?=↑y/\N[j]?=↑y
 |[],caps,h=>by cases h;exact{rfl,λk j e=>by simp at e}|y::r,caps,h=>by
  unfold Li at h;split at h;rename_i i c;split at h;rename_i l d;cases h;let(a,b):=kK d;refine{by simp[a],λk j e=>?_}
  cases k with
  |zero=>simp at e;subst e;exact{y,rfl,Jh c}|succ k=>exact b k j<|by simpa using e
  cases h;cases h
def zgz(h:y∈Ew nm):(y,NameKind.free)∈nm:=by
 unfold Ew at h;grind
def kU(C:CxOk J X E ca)(h:Ll J scope (Ek tg++Ew scope.names)=true)(l:Li J.N (Ew scope.names)=↑caps):BlkOk X scope (Ek tg++Ew scope.names) (Ek tg).length caps:=by
 unfold Ll at h;erw[Æ]at h;let((((f,g),i),o),p):=h;let(l1,n):=kK l
 have free:∀y∈scope.names,y.2=.free->scope.names.lookup y.1=↑.free/\(J.nm.lookup y.1=↑.cell\/J.nm.lookup y.1=↑.free)/\(y.1,NameKind.cell)∉scope.names:=λy a b=>by
  have q:=Ò.mp i y a;erw[b,Ą,Ŵ,ķ,Æ,Ł,ĕ,ŷ]at q;refine{q.1.1,q.1.2,λz=>?_};have:=ð.mpr z;rw[this]at q;exact Bool.noConfusion q.2
 refine{eq_of_beq f,λy a m=>?_,by simp[l1],λk j e=>?_,λy a b=>?_};have q:=Ò.mp g y a;erw[m,Ą,Ŵ,ķ,Ł]at q;exact q;let(y,c,d):=n k j e;have fm:=zgz<|ĳ c;let(f1,_,f3):=free _ fm rfl;refine{y,by rw[C.N];exact d,?_,f1,f3}
 rw[ą<|by lia];simpa using c;let(f1,f2,_):=free y a b;refine{f1,?_};rw[C.nm];exact f2
def zi3(hk:env.scope.kind=.function):(relabel scope env).names=Ko scope.names env.scope.names:=by
 unfold relabel Ko;have e:(env.scope.kind == ScopeKind.function)=true:=by rw[hk];rfl
 erw[e,Bool.and_true];rfl
theorem dQ:True:=trivial
def kX(C:CxOk J X E ca){a:Scope}{c:ky}(h:Ll J a c=true)(cl)(A:Addr)(s₀:Shared)(H₀:Hp)(ex:List Addr)(xb)(g:C1 (Du X a cl c A s₀ H₀ ex xb) E'):CxOk (J.blk a c) (Du X a cl c A s₀ H₀ ex xb) E' ca:=by
 unfold Ll at h;erw[Æ]at h;let((((d,j),k),e),f):=h;refine{rfl,í e,?_,?_,C.calm,C.room,λx i=>?_,C.bl,g,λz=>(by cases z),λz=>(by cases z),dQ,C.fs,C.ex,C.ms,{(C.gx.co),C.gx.cl,C.gx.mt,C.gx.nw,C.gx.sf,C.gx.xs,C.gx.sb,C.gx.sv,C.gx.ci,C.gx.x2,C.gx.wd,C.gx.ti,C.gx.dn,C.gx.rn},λz=>(by cases z),C.fr}
 show(relabel a X.env).names=Ko a.names J.nm;rw[zi3 C.kd,C.nm];exact eq_of_beq d;have b:x∈(Vg a.names).filter λy=>a.names.lookup y == ↑.cell:=i;rw[ü]at b;refine{Ì<|eq_of_beq b.2,?_};exact eq_of_beq<|Ò.mp f x b.1
end
def Uz(h:Sx e=true)(x):foldedSetIterable e env x=pure x:=by
 cases e<;>first|rfl|cases h
theorem NG(h:GU k=false):KU k:=λo i=>by
 cases k<;>first|rfl|cases h
def Cq{b:Bool}(h:(!b)=true):b=false:=by cases b<;>first|rfl|cases h
def gd{α:Type}:(b:Bool)->(b=true->Option α)->Option α
 |true,k=>k rfl|false,ϊ=>none
def oe{α β:Type}:(o:Option α)->((a:α)->o=↑a->β)->β->β
 |some a,k,ϊ=>k a rfl|none,ϊ,d=>d
abbrev ob{α β:Type}(o:Option α)(k:(a:α)->o=↑a->Option β):Option β:=oe o k none
structure ER(J:Gm)(e:Expr) where
 m:AG
 ok:∀{X:Cx} {E:L2.St->XK} {ca:Str->Value},CxOk J X E ca->PE X e (tM X.K E ca m)/\(GC e=true->PT X e (BV X.K E ca m))
structure AR(J:Gm)(es:ku) where
 m:BN
 ok:∀{X:Cx} {E:L2.St->XK} {ca:Str->Value},CxOk J X E ca->PA X es (CD X.K E ca m)
 st:∀e∈es,Er e=true
 nl:es=[]->m=AE
structure OR(J:Gm)(es:ku) where
 m:BN
 ok:∀{X:Cx} {E:L2.St->XK} {ca:Str->Value},CxOk J X E ca->PA X es (K8 X.K E ca m)
structure BR(J:Gm)(op:BoolOp)(es:ku) where
 m:AG
 ok:∀{X:Cx} {E:L2.St->XK} {ca:Str->Value} {pos:Pos},CxOk J X E ca->PE X (.BoolOp op es pos) (tM X.K E ca m)/\PW X (.BoolOp op es pos) (BV X.K E ca m)
structure PR(J:Gm)(o:Option Expr) where
 m:Option (AG)
 ok:∀{X:Cx} {E:L2.St->XK} {ca:Str->Value},CxOk J X E ca->PO X o (HI X.K m)
structure LR(J:Gm)(elt tg iter:Expr)(ifs:ku)(scope:Scope) where
 m:AG
 ok:∀{X:Cx} {E:L2.St->XK} {ca:Str->Value},CxOk J X E ca->∃caps mi b mt me,m=Ax (Ek tg).length caps mi b mt me/\BlkOk X scope (Ek tg++Ew scope.names) (Ek tg).length caps/\PI X tg iter (tI X.K E ca mi) /\
   (∀E',AC X scope (Ek tg++Ew scope.names) E' λτ=>PG τ tg (El X.K b)/\IB τ ifs (BV X.K E' ca mt)/\PE τ elt (tM X.K E' ca me))/\∀x,foldedSetIterable iter X.env x=pure x
structure IR(J:Gm)(tg e:Expr) where
 m:BN
 ok:∀{X:Cx} {E:L2.St->XK} {ca:Str->Value},CxOk J X E ca->PI X tg e (tI X.K E ca m)
 ns:Sx e=true
structure GR(J:Gm)(tg:Expr) where
 m:T->AM->Option AM
 ok:∀{X:Cx} {E:L2.St->XK} {ca:Str->Value},CxOk J X E ca->PG X tg (El X.K m)
structure GsR(J:Gm)(es:ku) where
 m:qF->AM->Option AM
 ok:∀{X:Cx} {E:L2.St->XK} {ca:Str->Value},CxOk J X E ca->E4 X es (IM X.K m)/\(assignEach es X.env).length=es.length/\(assignEach es X.env).findIdx? (·.1)=none
structure SR(J:Gm)(s:Stmt) where
 m:AH
 ok:∀{X:Cx} {E:L2.St->XK} {ca:Str->Value},CxOk J X E ca->PS X s (tS X.K E ca J.mu m)
structure QR(J:Gm)(ss:kx) where
 m:AH
 ok:∀{X:Cx} {E:L2.St->XK} {ca:Str->Value},CxOk J X E ca->Bf X ss (tS X.K E ca J.mu m)
structure Dc where
 e:(J:Gm)->(e:Expr)->Option (ER J e)
 a:(J:Gm)->(es:ku)->Option (AR J es)
 o:(J:Gm)->(es:ku)->Option (OR J es)
 b:(J:Gm)->(op:BoolOp)->(es:ku)->Option (BR J op es)
 s:(J:Gm)->(s:Stmt)->Option (SR J s)
 q:(J:Gm)->(ss:kx)->Option (QR J ss)
theorem ER.t(r:ER J e)(h:GC e=true)(C:CxOk J X E ca):PT X e<|BV X.K E ca r.m:=(r.ok C).2 h
def Mf:Expr->Prop
 |.UnaryOp ..=>False|.BoolOp ..=>False|.IfExp ..=>False|.Compare ..=>False|ϊ=>True
def Xk(h:Mf e)(whole):isTrue e env whole=(do let v <- whole;standAt e.pos;holding [v] (truthy v)):=by
 cases e<;>first|rfl|exact False.elim h
def vl{J:Gm}{e:Expr}(m:AG)(h:∀{X:Cx} {E:L2.St->XK} {ca:Str->Value},CxOk J X E ca->PE X e (tM X.K E ca m))(t:Mf e:=by trivial):Option<|ER J e:=↑{m,λC=>{h C,λϊ=>Sj (h C)<|Xk t}}
structure OG(op:Operator) where
 g:T->T->qB
 ok:∀{X:Cx},As X (binaryOp op)<|Bt X.K g
def opF:(op:Operator)->Option (OG op)
 |.Add=>↑{(B5),zlf}|.Sub=>↑{(Fc),zl9}|.Mult=>↑{(CF),zlb}|.Mod=>↑{(BO),zlc}|.FloorDiv=>↑{(CY),zih}|.Pow=>↑{(Ff),zla}|.BitOr=>↑{(Lk),zle}|.BitAnd=>↑{(Lm),zii}|ϊ=>none
structure CG(op:CmpOp) where
 g:T->T->qB
 ok:∀{J:Gm} {X:Cx} {E:L2.St->XK} {ca:Str->Value},CxOk J X E ca->As X (compareOp op) (Bt X.K g)
def kH:(op:CmpOp)->Option (CG op)
 |.Eq=>↑{BM,λC=>zp4 C.room.units}|.NotEq=>↑{DV,λC=>zp1 C.room.units}|.Lt=>↑{C0 λi j=>decide (i<j),λϊ=>NN op_lt}|.LtE=>↑{C0 λi j=>decide (i<=j),λϊ=>NN Z0}|.Gt=>↑{C0 λi j=>decide (j<i),λϊ=>NN op_gt}|.GtE=>↑{C0 λi j=>decide (j<=i),λϊ=>NN op_ge}|.Is=>↑{BB false,λϊ=>zp2}|.IsNot=>↑{BB true,λϊ=>zg8}|.In=>↑{EJ,λC=>zp3 C.room.units}|.NotIn=>↑{GD,λC=>zg7 C.room.units}
def kI:(op:CmpOp)->Option (CG op)
 |.LtE=>↑{GQ,λϊ=>zld}|op=>kH op
def eCst(J:Gm)(c:Const)(k:Nat)(pos:Pos):Option<|ER J<|.Constant c k pos:=match c with
 |.int i=>vl (mC<|.int i) λϊ=>Kp Ξ λϊ ϊ=>.int i|.bool b=>vl (mC<|.bl b) λϊ=>Kp pe_bl λϊ ϊ=>.bl b|.none=>vl (mC .non) λϊ=>Kp ZM λϊ ϊ=>.non|.str x=>vl (mC<|.str x) λϊ=>Kp Ο λϊ ϊ=>.str x|ϊ=>none
theorem CxOk.v(C:CxOk J X E ca)(h:J.var x=↑i):PE X (.Name x pos)<|tM X.K E ca<|AA i:=
 let ⟨h1,h2,h3,h4⟩:=C.var (pos:=pos) h
 Yi h1 h2 h3 h4
def eNam(J:Gm)(x:Str)(pos:Pos):Option<|ER J<|.Name x pos:=oe (J.var x) (λi b=>vl (AA i) λC=>C.v b) (gd (DU x && C7 J.nm x) λa=>ob (J.ox.co.lookup x) λt c=>vl (mC t) λC=>by
 rw[Æ]at a;obtain⟨u,v,d,e,f⟩:=C.gx.co x t c;exact r_con (C.gl a.2) d e (Di a.1).1 f)
def V5{J:Gm}{e:Expr}(t:Mf e)(a:Option<|ER J e)(b:Option<|ER J e):Option<|ER J e:=a.bind λa=>match b with
 |some b=>vl (Aw a.m b.m) (λC=>Sk (a.ok C).1 (b.ok C).1) t|none=>↑a
def O7{J:Gm}{o:Expr}{f:Str}{pos:Pos}(r:ER J o)(b:HS o=true):(L:List<|Str×Addr×ky)->(∀c∈L,c∈J.ox.cl)->Option (ER J<|.Attribute o f pos)
 |[],ϊ=>none|c::L,a=>oe (c.2.2.findIdx? (· == f)) (λj d=>V5 trivial (vl (AU c.2.1 c.2.2 j r.m) λC=>by
   obtain⟨e,g⟩:=C.gx.cl _<|a _ (Ï ..)
   have i:f∈c.2.2:=by
    obtain⟨k,l,_⟩:=ď.mp d;rw[<- eq_of_beq l];exact ç k
   exact r_fld e (g f i) d (r.ok C).1 (W8 b)) (O7 r b L λc h=>a c<|Í _ h))<|O7 r b L λc h=>a c<|Í _ h
def eFlo(J:Gm)(x:Str)(b:Pos)(f:Str)(pos:Pos):Option<|ER J<|.Attribute (.Name x b) f pos:=ob J.ox.sf λc e=>ob (J.var x) λi d=>gd (i == 0) λϊ=>ob (c.2.findIdx? (· == f)) λj a=>vl (LI c.1 c.2 j i) λC=>by
 obtain⟨m,n,o,p⟩:=C.var (pos:=b) d;obtain⟨g,h⟩:=C.gx.sf c.1 c.2 e;obtain⟨k,l,_⟩:=ď.mp a;exact zo2 g (h f (by rw[<- eq_of_beq l];exact ç k)) a m n o p
def zlk(r:ER J o)(a:AR J es)(s:HS o=true)(p:(ap.endLine == pos.line)=true)(j:es.length<30)(m:(f,g)∈J.ox.mt)(l:g.2.1.contains f=false){X:Cx}   (C:CxOk J X E ca) :
  PE X (.Call (.Attribute o f ap) es [] pos) (tM X.K E ca<|BU g.1 g.2.1 g.2.2.g r.m a.m):=by
 obtain⟨k,⟨D⟩⟩:=C.gx.mt _ m;have y:=(r.ok C).1;have w:=a.ok C;have i:=a.st;have d:=a.nl;generalize a.m=ms at w d
 clear a
 let(V,A):=zgd (f:=f) (ap:=ap) (pos:=pos) (es:=es) (env:=X.env) s (by
  have:=Ge (env:=X.env) (pos:=pos) i;rw[Ò];intro z U;rw[List.any_eq_false]at this
  simpa using this z U) j p
 cases es with
 |cons e es=>exact znz D l C.room C.ps y w k (DA<|i e (Ï ..)) (Ge λx T=>i x<|Í e T) A|nil=>
  refine PE.weak (pmx0 D C.room C.ps y k A) λO H Q h=>?_;let(F,Y,R,S,q):=Xx l h;refine{F,Y,R,S,?_};cases m:r.m Y with
  |none=>rw[m]at q;exact q|some r=>
   rw[m]at q;cases r with
   |x c=>exact q|v t b=>intro G I x B L g1;let(a,K,n,M,N,P,u):=q G I x B L g1;refine{a,K,n,M,N,P,?_};rw[d rfl]at u;exact IJ u
def V4{J:Gm}{o:Expr}{f:Str}{ap pos:Pos}{es:ku}(r:ER J o)(a:AR J es)(e:HS o=true)(d:(ap.endLine == pos.line)=true)(b:es.length<30):(L:List<|Str×Addr×ky×Fn)->(∀c∈L,c∈J.ox.mt)->Option (ER J<|.Call (.Attribute o f ap) es [] pos)
 |[],ϊ=>none|c::L,i=>if h:c.1=f/\c.2.2.1.contains f=false then V5 trivial (vl (BU c.2.1 c.2.2.1 c.2.2.2.g r.m a.m) λC=>zlk r a e d b (g:=c.2) (h.1▸i c (Ï ..)) h.2 C) (V4 r a e d b L λc h=>i c<|Í _ h) else V4 r a e d b L λc h=>i c<|Í _ h
def eAtt(D:Dc)(J:Gm)(o:Expr)(f:Str)(ap:Pos)(es:ku)(d:List Keyword)(c:Pos):Option<|ER J<|.Call (.Attribute o f ap) es d c:=match d with
 |[]=>gd (HS o && (ap.endLine == c.line) && decide (es.length<30)) λb=>(D.e J o).bind λr=>(D.a J es).bind λa=>
  have b:(HS o=true/\(ap.endLine == c.line)=true)/\es.length<30:=by
   rw[Æ,Æ,ó]at b;exact b
  if e:f="index" then (match es,a with
   |[k],a=>(D.e J k).bind λmk=>vl (LH r.m mk.m) λC=>by
    subst e;exact zkg (r.ok C).1 (mk.ok C).1 (W8 b.1.1) (DA (es:=[])<|a.st k (Ï ..)) b.1.2
   |ϊ,ϋ=>none) else
  V4 r a b.1.1 b.1.2 b.2 J.ox.mt λϊ h=>h
 |ϊ=>none
def cmpB(a:CmpOp)(b:Expr):Option<|CG a:=
 kH a
def eCmp(D:Dc)(J:Gm)(a:Expr)(ops:List CmpOp)(bs:ku)(pos:Pos):Option<|ER J<|.Compare a ops bs pos:=match ops,bs with
 |[h],[b]=>gd (!(behindInMarks h b)) λd=>(cmpB h b).bind λg=>(D.e J a).bind λe=>(D.e J b).bind λf=>↑{Bm (g2 g.g)<|AB e.m<|AB f.m AE,λC=>
  have d:=Cq d
  {r_cmp (g.ok C) (e.ok C).1 (f.ok C).1 d,λϊ=>znw (g.ok C) (e.ok C).1 (f.ok C).1 d}}
 |[h,i],[b,c]=>gd (!(lastMarks [h,i] [b,c])) λd=>(kI h).bind λg=>(kI i).bind λj=>(D.e J a).bind λe=>(D.e J b).bind λf=>(D.e J c).bind λk=>↑{Gp g.g j.g e.m f.m k.m,λC=>
  have d:=Cq d
  {r_chn (g.ok C) (j.ok C) (e.ok C).1 (f.ok C).1 (k.ok C).1 d,λϊ=>znx (g.ok C) (j.ok C) (e.ok C).1 (f.ok C).1 (k.ok C).1 d}}
 |ϊ,ϋ=>none
def eUn(D:Dc)(J:Gm)(c:UnaryOp)(a:Expr)(pos:Pos):Option<|ER J<|.UnaryOp c a pos:=match c with
 |.USub=>(D.e J a).bind λr=>↑{Bm (g1 EV)<|AB r.m AE,λC=>
  have b:=r_un (pos:=pos) zju (r.ok C).1
  {b,λϊ=>Sj b λϊ=>rfl}}
 |.Not=>gd (GC a) λh=>(D.e J a).bind λr=>↑{BQ r.m,λC=>{r_not (r.ok C).1,λϊ=>znv<|r.t h C}}|ϊ=>none
def dP(D:Dc)(J:Gm):(o:Option Expr)->Option (PR J o)
 |none=>↑{none,λϊ=>r_po0}|some e=>(D.e J e).bind λr=>↑{↑r.m,λC=>Yk (r.ok C).1}
def eIx(D:Dc)(J:Gm)(a k:Expr)(pos:Pos):Option<|ER J<|.Subscript a k pos:=gd (!(GU k)) λc=>(D.e J a).bind λr=>(D.e J k).bind λb=>
 if fV a || gtN J a then vl (Cs r.m b.m) λC=>r_gt (by have:=C.room.units;lia) (r.ok C).1 (b.ok C).1 (NG<|Cq c) else
 vl (AW r.m b.m) λC=>r_ix (r.ok C).1 (b.ok C).1 (NG<|Cq c)
def eSub(D:Dc)(J:Gm)(a k:Expr)(pos:Pos):Option<|ER J<|.Subscript a k pos:=match k with
 |.Slice d c st p=>(match st with
  |none=>(D.e J a).bind λr=>(dP D J d).bind λrl=>(dP D J c).bind λb=>if J.ox.tx then vl (Aw (Dn r.m rl.m b.m)<|EG r.m rl.m b.m) λC=>Sk (Yj (r.ok C).1 (rl.ok C) (b.ok C)) (zi5 (r.ok C).1 (rl.ok C) (b.ok C)) else vl (Dn r.m rl.m b.m) λC=>Yj (r.ok C).1 (rl.ok C) (b.ok C)
  |some st=>(match d,c with
   |none,none=>(D.e J a).bind λr=>(D.e J st).bind λrs=>vl (LG r.m rs.m) λC=>r_rv (r.ok C).1 (Yk (rs.ok C).1)|ϊ,ϋ=>none)
  )
 |k=>eIx D J a k pos
def IP(h:Er e=true):starEach [e] env=[(false,eval e env)]:=DA h
section
variable {J:Gm}{f:Str}{p:Pos}{e:Expr}{es:ku}{pos:Pos}{X:Cx}{E:L2.St->XK}{ca:Str->Value}
theorem bF(a:AR J<|e::es)(b:DU f=true)(h:C7 J.nm f=true)(c:J.bl.contains f=true)(C:CxOk J X E ca){id}(d:CT X (.builtin id)<|Dh X.K g)(i:bootBuiltins f=↑(.builtin id)):PE X (.Call (.Name f p) (e::es) [] pos)<|tM X.K E ca<|Bm g a.m:=
 zo4 d (C.gl h) (C.bl f<|ð.mp c) i (a.ok C) (Di b).2.2 (Di b).1 (DA<|a.st e (Ï ..)) (Ge λx j=>a.st x<|Í e j)
theorem bTy(a:AR J<|e::es)(b:DU f=true)(h:C7 J.nm f=true)(c:J.bl.contains f=true)(C:CxOk J X E ca){id}(d:CT X (.type id)<|Dh X.K g)(i:bootBuiltins f=↑(.type id)):PE X (.Call (.Name f p) (e::es) [] pos)<|tM X.K E ca<|Bm g a.m:=
 Yr d (C.gl h) (C.bl f<|ð.mp c) i (a.ok C) (Di b).2.2 (Di b).1 (DA<|a.st e (Ï ..)) (Ge λx j=>a.st x<|Í e j)
def O8(a:AR J<|e::es)(g:DU f=true)(d:C7 J.nm f=true)(c:J.bl.contains f=true):Option<|ER J<|.Call (.Name f p) (e::es) [] pos:=
 if b:f="len" then vl (Bm (g1 Bd) a.m) λC=>by subst b;exact bF a g d c C zhl PySem.boot_len else
 if b:f="list" then vl (Bm (g1 Dt) a.m) λC=>by subst b;exact bTy a g d c C kO Ň else
 if b:f="abs" then vl (Bm (g1 Jy) a.m) λC=>by subst b;exact bF a g d c C zhp PyProof.Rows.boot_abs else
 if b:f="min" then vl (Bm (g2 LB) a.m) λC=>by subst b;exact bF a g d c C (zhj C.calm) PyProof.Rows.boot_min else
 if b:f="max" then vl (Bm L6 a.m) λC=>by subst b;exact bF a g d c C (zjm C.calm) PyProof.Rows.boot_max else
 if b:f="all" then vl (Bm (g1 Dw) a.m) λC=>by subst b;exact bF a g d c C (zho C.calm) PyProof.Rows.boot_all else
 if b:f="any" then vl (Bm (g1 Hx) a.m) λC=>by subst b;exact bF a g d c C (zhn C.calm) PyProof.Rows.boot_any else
 none
end
structure TyR(c:Str) where
 t:String
 ok:bootBuiltins c=↑(.type t)
def tyF(c:Str):Option<|TyR c:=
 if h:c="int" then ↑{"int",by subst h;exact PyProof.Rows.boot_int} else if h:c="bool" then ↑{"bool",by subst h;exact PyProof.Rows.boot_bool} else if h:c="str" then ↑{"str",by subst h;exact PyProof.Rows.boot_str} else
 if h:c="list" then ↑{"list",by subst h;exact Ň} else if h:c="tuple" then ↑{"tuple",by subst h;exact PyProof.Rows.boot_tuple} else none
def eIs(D:Dc)(J:Gm)(p:Pos)(e:Expr)(es:ku)(pos:Pos)(d:C7 J.nm "isinstance"=true)(b:J.bl.contains "isinstance"=true):Option<|ER J<|.Call (.Name "isinstance" p) (e::es) [] pos:=match es with
 |[.Name c k]=>gd (C7 J.nm c && DU c && Er e) λa=>(D.e J e).bind λr=>
  have a:(C7 J.nm c=true/\DU c=true)/\Er e=true:=by
   rw[Æ,Æ]at a;exact a
  if g:J.bl.contains c=true then (tyF c).bind λt=>vl (Bm (g1<|Cv t.t)<|AB r.m AE) λC=>
   r_isT t.ok (C.gl d) (C.bl _<|ð.mp b) (C.gl a.1.1) (C.bl _<|ð.mp g) (Di a.1.2).2.2 (Di a.1.2).1 (r.ok C).1 (DA a.2)
  else ob (J.ox.ci.lookup c) λf h=>vl (Bm (g1<|LX f)<|AB r.m AE) λC=>by
   obtain⟨_,i,j⟩:=C.gx.ci c f h;exact r_isC j (C.gl d) (C.bl _<|ð.mp b) (C.gl a.1.1) i (Di a.1.2).1 (r.ok C).1 (DA a.2)
 |ϊ=>none
def eSet(D:Dc)(J:Gm)(p:Pos)(e:Expr)(pos:Pos)(d:C7 J.nm "len"=true)(c:J.bl.contains "len"=true):Option<|ER J<|.Call (.Name "len" p) [e] [] pos:=match e with
 |.Call (.Name x f) [a] [] g=>if h:x="set" then gd (C7 J.nm "set" && J.bl.contains "set" && Er a) λb=>(D.e J a).bind λr=>vl (Bm (g1 K6)<|AB r.m AE) λC=>by
   rw[Æ,Æ]at b;subst h;exact r_unq C.calm (C.gl d) (C.bl _<|ð.mp c) (C.gl b.1.1) (C.bl _<|ð.mp b.1.2) (r.ok C).1 (IP b.2)
  else none
 |ϊ=>none
def eKys(D:Dc)(J:Gm)(p:Pos)(e:Expr)(pos:Pos)(f:DU "list"=true)(d:C7 J.nm "list"=true)(g:J.bl.contains "list"=true):Option<|ER J<|.Call (.Name "list" p) [e] [] pos:=if h:fV e=true then (D.e J e).bind λr=>vl (Aw (Bm (g1 Dt)<|AB r.m AE)<|He r.m) λC=>by
  have c:Er e=true:=by cases e<;>first|rfl|cases h
  have a:=λenv=>IP (env:=env) c;have b:=ð.mp g;exact Sk (Yr kO (C.gl d) (C.bl _ b) Ň (Yq (r.ok C).1 Yl (a _)) (Di f).2.2 (Di f).1 (a _) rfl)<|r_kys C.calm (C.gl d) (C.bl _ b) (r.ok C).1 (a _)
 else none
def jX(J:Gm)(f:Str)(p:Pos)(e:Expr)(es:ku)(pos:Pos)(a:AR J<|e::es)(g:DU f=true)(c:C7 J.nm f=true):Option<|ER J<|.Call (.Name f p) (e::es) [] pos:=
 ob (J.fns.lookup f) λF b=>vl (AJ F.g a.m) λC=>by
  obtain⟨d,⟨D⟩⟩:=C.fs f F b;exact zo3 D C.room C.ps (a.ok C) d (C.gl c) (Di g).1 (DA<|a.st e (Ï ..)) (Ge λx h=>a.st x<|Í e h)
def eFn(J:Gm)(f:Str)(p:Pos)(e:Expr)(es:ku)(pos:Pos)(a:AR J<|e::es)(c:DU f=true)(b:C7 J.nm f=true):Option<|ER J<|.Call (.Name f p) (e::es) [] pos:=
 oe (J.ox.nw.lookup f) (λF m=>ob (F.2.lookup (e::es).length) λd hd=>vl (Hc F.1.g d a.m) λC=>by
   obtain⟨h,q,D,l⟩:=C.gx.nw f F.1 F.2 m;obtain⟨g,r,j,k,o⟩:=l _ _ hd;exact r_new D j k o C.room C.ps (a.ok C) h (C.gl b) (Di c).1 (DA<|a.st e (Ï ..)) (Ge λx i=>a.st x<|Í e i)) <|
 oe (J.ox.dn.lookup f) (λy n=>if es.length+1+y.2.length=y.1.ps.length then vl (AJ (gD y.2 y.1.g) a.m) λC=>by
   obtain⟨h,D,g,j,k⟩:=C.gx.dn f y n;exact zki D j k C.room C.ps (a.ok C) h (C.gl b) (Di c).1 (DA<|a.st e (Ï ..)) (Ge λx i=>a.st x<|Í e i)
  else jX J f p e es pos a c b) <|
 jX J f p e es pos a c b
def eCal(D:Dc)(J:Gm)(f:Str)(p:Pos)(es:ku)(g:List Keyword)(pos:Pos):Option<|ER J<|.Call (.Name f p) es g pos:=match es,g with
 |e::es,[]=>gd (DU f && C7 J.nm f) λb=>
  have b:DU f=true/\C7 J.nm f=true:=by
   rw[Æ]at b;exact b
  if c:J.bl.contains f=true then
   (if d : f = "isinstance" then (match f, d, b, c with
    |_,rfl,b,c=>eIs D J p e es pos b.2 c) else
   match es with
   |[]=>
    (if d : f = "len" then (match f, d, b, c with
     |_,rfl,b,c=>(eSet D J p e pos b.2 c).orElse λϊ=>(D.a J [e]).bind λa=>O8 a b.1 b.2 c) else
    if d:f="list" then (match f,d,b,c with
     |_,rfl,b,c=>
      (eKys D J p e pos b.1 b.2 c).orElse λϊ=>(D.a J [e]).bind λa=>O8 a b.1 b.2 c) else
    (D.a J [e]).bind λa=>O8 a b.1 b.2 c)
   |ϊ=>(D.a J _).bind λa=>O8 a b.1 b.2 c)
  else (D.a J<|e::es).bind λa=>eFn J f p e es pos a b.1 b.2
 |ϊ,ϋ=>none
def j7(J:Gm):(es:ku)->Option (GsR J es)
 |[]=>↑{BA,λϊ=>{(g_nil),rfl,rfl}}|e::es=>(match e with
  |.Name x p=>gd (J.loc x) λb=>ob (EX J.N x) λi a=>(j7 J es).bind λr=>↑{AQ (AD i) r.m,λ{X} {E} {ca} C=>by
   obtain⟨c,d,f⟩:=r.ok C;refine{zqd (eQ C b a) c rfl,?_,?_};show(assignEach es X.env).length+1=es.length+1;rw[d];show List.findIdx? (·.1) ((false,assign (.Name x p) X.env)::assignEach es X.env)=none;rw[ų,f]
   rfl}
  |ϊ=>none)
def dG(J:Gm):(tg:Expr)->Option (GR J tg)
 |.Name x ϊ=>gd (J.loc x) λc=>ob (EX J.N x) λi b=>↑{AD i,λC=>eQ C c b}|.Tuple a ϊ ϋ=>(j7 J a).bind λr=>↑{Ay a.length r.m,λC=>g_tup C.calm (r.ok C).1 (r.ok C).2.1 (r.ok C).2.2}|ϊ=>none
def iV(D:Dc)(J:Gm)(a e:Expr):Option<|IR J a e:=gd (Sx e) λh=>(D.e J e).bind λr=>if J.ox.tx then ↑{Au r.m,λC=>zo1 (r.ok C).1,h} else ↑{Jl r.m,λC=>Yn (r.ok C).1,h}
def FY(C:CxOk J X E ca)(h:(C7 J.nm f && J.bl.contains f)=true):Gl X f/\X.mg f=none:=by
 rw[Æ]at h;exact{C.gl h.1,C.bl f<|ð.mp h.2}
def iRg(D:Dc)(J:Gm)(b a:Expr)(p c:Pos):Option<|IR J b<|.Call (.Name "range" p) [a] [] c:=gd (C7 J.nm "range" && J.bl.contains "range") λh=>(D.a J [a]).bind λr=>↑{Cw r.m,λC=>zi7 (FY C h).1 (FY C h).2 (r.ok C) (DA<|r.st a (Ï ..)),rfl}
def iEn(D:Dc)(J:Gm)(b a:Expr)(p c:Pos):Option<|IR J b<|.Call (.Name "enumerate" p) [a] [] c:=match b with
 |.Tuple ..=>gd (C7 J.nm "enumerate" && J.bl.contains "enumerate") λh=>(D.a J [a]).bind λr=>if J.ox.tx then ↑{f6 r.m,λC=>r_enX (FY C h).1 (FY C h).2 (r.ok C) (DA<|r.st a (Ï ..)),rfl} else
  ↑{C6 r.m,λC=>Yo (FY C h).1 (FY C h).2 (r.ok C) (DA<|r.st a (Ï ..)),rfl}
 |ϊ=>none
def iRv(D:Dc)(J:Gm)(b a:Expr)(p c:Pos):Option<|IR J b<|.Call (.Name "reversed" p) [a] [] c:=gd (C7 J.nm "reversed" && J.bl.contains "reversed") λh=>(D.a J [a]).bind λr=>↑{Gu r.m,λC=>r_rvl (FY C h).1 (FY C h).2 (r.ok C) (DA<|r.st a (Ï ..)),rfl}
def iR2(D:Dc)(J:Gm)(e a b:Expr)(p c:Pos):Option<|IR J e<|.Call (.Name "range" p) [a,b] [] c:=gd (C7 J.nm "range" && J.bl.contains "range") λh=>(D.a J [a,b]).bind λr=>↑{Ie r.m,λC=>
 have d:=λenv=>IP (env:=env) (r.st b<|Í _ (Ï ..))
 zi6 (FY C h).1 (FY C h).2 (r.ok C) (by rw[DA<|r.st a (Ï ..),d]) (d _),rfl}
def iZp(D:Dc)(J:Gm)(e a b:Expr)(p c:Pos):Option<|IR J e<|.Call (.Name "zip" p) [a,b] [] c:=match e with
 |.Tuple ..=>gd (C7 J.nm "zip" && J.bl.contains "zip") λh=>(D.a J [a,b]).bind λr=>↑{Gs r.m,λC=>
   have d:=λenv=>IP (env:=env) (r.st b<|Í _ (Ï ..))
   r_zip (FY C h).1 (FY C h).2 (r.ok C) (by rw[DA<|r.st a (Ï ..),d]) (d _),rfl}
 |ϊ=>none
def dI(D:Dc)(J:Gm)(d e:Expr):Option<|IR J d e:=match e with
 |.Call (.Name f p) g i c=>(match g,i with
  |[a],[]=>if h:f="range" then (match f,h with|_,rfl=>iRg D J d a p c) else
   if h:f="enumerate" then (match f,h with|_,rfl=>iEn D J d a p c) else
   if h:f="reversed" then (match f,h with|_,rfl=>iRv D J d a p c) else
   iV D J d _
  |[a,b],[]=>
   if h:f="range" then (match f,h with|_,rfl=>iR2 D J d a b p c) else
   if h:f="zip" then (match f,h with|_,rfl=>iZp D J d a b p c) else
   iV D J d _
  |ϊ,ϋ=>iV D J d _)
 |e=>iV D J d e
def dC(D:Dc)(J:Gm)(k d e:Expr)(l:ku)(a:Scope):Option<|LR J k d e l a:=
 gd (Ll J a<|Ek d++Ew a.names) λm=>ob (Li J.N<|Ew a.names) λb p=>(dI D J d e).bind λf=>(dG (J.blk a<|Ek d++Ew a.names) d).bind λj=>(D.e (J.blk a<|Ek d++Ew a.names) k).bind λi=>match l with
  |[]=>↑{Ax (Ek d).length b f.m j.m (mC<|.bl true) i.m,λ{X} {E} {ca} C=>{b,f.m,j.m,_,i.m,rfl,kU C m p,f.ok C,λh cl A s₀ H₀ ex o n=>
    have g:=kX C m cl A s₀ H₀ ex o (E':=h) n
    {j.ok g,λr s O H Q I q=>zkn r s O H Q I<|Q2 (K:=X.K) (E:=h) (ca:=ca) q,(i.ok g).1},Uz f.ns}}
  |[c]=>gd (GC c) λhk=>(D.e (J.blk a<|Ek d++Ew a.names) c).bind λrt=>↑{Ax (Ek d).length b f.m j.m rt.m i.m,λ{X} {E} {ca} C=>{b,f.m,j.m,rt.m,i.m,rfl,kU C m p,f.ok C,λh cl A s₀ H₀ ex o n=>
    have g:=kX C m cl A s₀ H₀ ex o (E':=h) n
    {j.ok g,zkm<|rt.t hk g,(i.ok g).1},Uz f.ns}}
  |ϊ=>none
def eLC(D:Dc)(J:Gm)(d:Expr)(c:List Comprehension)(a:Scope)(pos:Pos):Option<|ER J<|.ListComp d c a pos:=match c with
 |[{l,e,f,0}]=>(dC D J d l e f a).bind λr=>vl r.m λC=>by
  obtain⟨g,m,b,mt,me,h,B,j,i,k⟩:=r.ok C;rw[h];exact r_lcV B (cq:=λX=>X.calm=true) (λϊ ϊ ϊ ϊ ϊ ϊ ϊ ϊ ϊ=>C.calm) (ZJ j) C.ps C.fr i k
 |ϊ=>none
def eIf(D:Dc)(J:Gm)(c a b:Expr)(pos:Pos):Option<|ER J<|.IfExp c a b pos:=gd (GC c) λh=>(D.e J c).bind λf=>(D.e J a).bind λd=>(D.e J b).bind λe=>↑{EH f.m d.m e.m,λC=>{r_ife (f.t h C) (d.ok C).1 (e.ok C).1,λz=>by cases z}}
def dEs(D:Dc)(J:Gm):(e:Expr)->Option (ER J e)
 |.Constant c k pos=>eCst J c k pos|.Name x pos=>eNam J x pos|.Attribute (.Name x s) f pos=>(D.e J<|.Name x s).bind λr=>V5 trivial (O7 r rfl J.ox.cl λϊ h=>h) (eFlo J x s f pos)|.Attribute o f pos=>gd (HS o) λh=>(D.e J o).bind λr=>O7 r h J.ox.cl λϊ h=>h|.Call f i q c=>(match f with
  |.Attribute o f v=>eAtt D J o f v i q c|.Name f p=>eCal D J f p i q c|ϊ=>none)
 |.Compare a n bs pos=>eCmp D J a n bs pos|.BinOp a l b pos=>(opF l).bind λg=>(D.e J a).bind λt=>(D.e J b).bind λu=>vl (Bm (g2 g.g)<|AB t.m<|AB u.m AE) λC=>r_bin g.ok (t.ok C).1 (u.ok C).1|.UnaryOp l a pos=>eUn D J l a pos|.BoolOp l w pos=>(D.b J l w).bind λr=>↑{r.m,λC=>{(r.ok C).1,λϊ=>(r.ok C).2.pt}}|.IfExp c a b pos=>eIf D J c a b pos|.List i pos=>(D.o J i).bind λr=>vl (BE r.m) λC=>r_lst (r.ok C)|.Tuple i k pos=>(D.a J i).bind λr=>vl (Bw r.m) λC=>r_tup (r.ok C)|.Subscript a k pos=>eSub D J a k pos|.ListComp m j d pos=>eLC D J m j d pos|.Dict [] [] pos=>vl Hf λϊ=>Yp|ϊ=>none
def dAs(D:Dc)(J:Gm):(es:ku)->Option (AR J es)
 |[]=>↑{AE,λϊ=>Yl,λϊ h=>(by cases h),λϊ=>rfl}|e::es=>gd (Er e) λh=>(D.e J e).bind λr=>(D.a J es).bind λa=>↑{AB r.m a.m,λC=>Yq (r.ok C).1 (a.ok C) (DA h),λx b=>(Ñ.mp b).elim (λz=>z▸h) (a.st x),λz=>by cases z}
def dOs(D:Dc)(J:Gm):(es:ku)->Option (OR J es)
 |[]=>↑{AE,λϊ=>zny}|e::es=>gd (Er e) λh=>(D.e J e).bind λr=>(D.o J es).bind λa=>↑{Ah r.m a.m,λC=>zkh (r.ok C).1 (a.ok C) (DA h)}
def dBs(D:Dc)(J:Gm)(d:BoolOp):(es:ku)->Option (BR J d es)
 |[]=>none|[a]=>gd (GC a) λh=>(D.e J a).bind λr=>↑{r.m,λC=>{r_one (r.ok C).1,by
   cases d with
   |And=>exact zke (r.t h C)|Or=>exact zkd<|r.t h C}}
 |a::b::es=>gd (GC a) λh=>(D.e J a).bind λr=>(D.b J d<|b::es).bind λc=>match d,c with
  |.And,c=>↑{Cc r.m c.m,λC=>{r_and (r.ok C).1 (c.ok C).1,znu (r.t h C) (c.ok C).2}}|.Or,c=>↑{CA r.m c.m,λC=>{r_or (r.ok C).1 (c.ok C).1,r_wor (r.t h C) (c.ok C).2}}
def pkB:ky:=["len","isinstance","all","any","abs","min","max","int"]
def isLC:Expr->Bool
 |.ListComp ..=>true|ϊ=>false
def Br:Nat->ky->Expr->ky
 |0,ϊ,ϋ=>[]|n+1,pk,e=>
  let g:=λ(x:Expr)=>match x with
   |.Name ϊ ϋ=>[]|x=>Br n pk x
  match e with
  |.Name x ϊ=>[x]|.BinOp a ϊ b ϋ=>Br n pk a++Br n pk b|.UnaryOp ϊ a ϋ=>Br n pk a|.BoolOp ϊ o ϋ=>o.flatMap (Br n pk)|.Compare a ϊ bs ϋ=>g a++bs.flatMap g|.IfExp c a b ϊ=>Br n pk c++Br n pk a++Br n pk b|.Call (.Name f ϊ) d [] ϋ=>if pkB.contains f || pk.contains f then d.flatMap g else d.flatMap (Br n pk)
  |.Call (.Attribute ϊ ϋ ό) d [] ύ=>d.flatMap λa=>if isLC a then Br n pk a else []
  |.Subscript a k ϊ=>(match k with
   |.Slice m l ϊ ϋ=>Br n pk a++(match m with|some e=>Br n pk e|none=>[])++(match l with|some e=>Br n pk e|none=>[])
   |ϊ=>g a++Br n pk k)
  |.List j ϊ=>j.flatMap (Br n pk)|.Tuple j ϊ ϋ=>j.flatMap (Br n pk)|.ListComp _ [{_,i,_,_}] h _=>Br n pk i++Ew h.names|ϊ=>[]
def Xc(pk:ky):Stmt->ky
 |.Expr (.Call (.Attribute (.Name ϊ ϋ) ό ύ) [e] [] ώ) Ϗ=>Br 40 pk e|.Expr e ϊ=>Br 40 pk e|.Return (↑(.Name ϊ ϋ)) ό=>[]|.Return ↑e ϊ=>Br 40 pk e|.Assign [.Subscript (.Subscript ϊ k ϋ) j ό] e ύ=>Br 40 pk k++Br 40 pk j++Br 40 pk e|.Assign [.Subscript ϊ k ϋ] e ό=>Br 40 pk k++Br 40 pk e|.Assign [ϊ] e ϋ=>Br 40 pk e|.If c ϊ ϋ ό=>Br 40 pk c|.For ϊ it ϋ ό ύ=>Br 40 pk it|.While c ϊ ϋ ό=>Br 40 pk c|ϊ=>[]
def fT:Stmt->Bool
 |.If ..=>true|ϊ=>false
def isAsg:Stmt->Bool
 |.Assign [.Name ..] ..=>true|.Expr (.Call (.Attribute (.Name ..) f ϊ) [ϋ] [] ό) ύ=>f == "extend"|ϊ=>false
def mvN:Stmt->Option Str
 |.Assign [.Name ..] (.List [ϊ,ϋ,.Name y ό] ύ) ώ=>↑y|ϊ=>none
def frzs(J:Gm)(s:Stmt):qA:=((if fT s then J.ox.gt++Xc J.pk s else Xc J.pk s).filter λx=>J.ow.contains x && !((isAsg s || fT s) && (J.mv.contains x || (J.ox.fo.contains x && mvN s == ↑x)))).eraseDups.filterMap (EX J.N)
def subN:Expr->ky
 |.Call ϊ a ϋ ό=>a.filterMap fun
  |.Subscript (.Name x ϊ) ϋ ό=>↑x|ϊ=>none
 |ϊ=>[]
def Ja(J:Gm)(e:Expr):qA:=((Br 40 J.pk e++subN e).filter λx=>J.ow.contains x && J.mv.contains x).eraseDups.filterMap (EX J.N)
def Hi(l:qA)(m:AG):AG:=l.foldr Dp m
def NA{X:Cx}{E:L2.St->XK}{ca:Str->Value}{m:AG}{e:Expr}(a:PE X e<|tM X.K E ca m):∀l,PE X e<|tM X.K E ca<|Hi l m
 |[]=>a|i::r=>zo0<|NA a r
def YW{X:Cx}{E:L2.St->XK}{ca:Str->Value}{m:AG}{st:Stmt}{j:Nat}(a:PS X st<|HJ (tM X.K E ca m)<|Gy j):∀l,PS X st<|HJ (tM X.K E ca<|Hi l m)<|Gy j
 |[]=>a|i::r=>znf<|YW a r
def Ym{X:Cx}{E:L2.St->XK}{ca:Str->Value}{m:AG}{e:Expr}(a:PT X e<|BV X.K E ca m):∀l,PT X e<|BV X.K E ca<|Hi l m
 |[]=>a|i::r=>zkf<|Ym a r
def Uw(J:Gm)(l:qA)(m:AH):AH:=l.foldr (λi m=>AF (HP i) m) m
def Mj(J:Gm)(x:Str)(px:Pos):Expr->Bool
 |.ListComp ϊ ϋ a p=>J.nm.lookup x == ↑.local && px.line == p.line && !(a.names.any λ(n,k)=>n == x && (k == .local || k == .cell))|ϊ=>false
def YF(J:Gm)(x:Str):Bool:=J.nm.lookup x == ↑.cell
def JW(J:Gm)(x:Str)(i:Nat)(m:AG):AH:=if J.ow.contains x then Cb i m else A3 m (AD i)
def C4(c:Str)(ms:BN):AH:=λY=>match ms Y with
 |some (.v a ϊ)=>if a.length<=BI then ↑(.xc c Y) else none
 |some (.x c)=>↑(.xc c Y)|none=>none
section
variable {X:Cx}{E:L2.St->XK}{ca:Str->Value}{J:Gm}{mu:Bool}
def RZ{rest}(h:Bf X rest<|tS X.K E ca mu w):∀l ,Bf X rest<|tS X.K E ca mu<|Uw J l w
 |[]=>h|i::r=>s_frz<|RZ h r
def Ml(h:GV e=false):swapsWith e t l env=pure false:=by
 cases e<;>first|rfl|cases h
def zdz{env:Env}(h:env.scope.kind=.function):env.blockKind=.function:=by
 unfold Env.blockKind;rw[h];rfl
def zhz(C:CxOk J X E ca){p px:Pos}{x:Str}{l:Nat}(h:Mj J x px (.ListComp elt gens scope p)=true):swapsWith (.ListComp elt gens scope p) (↑(.Name x px)) l X.env=pure true:=by
 have e:swapsWith (.ListComp elt gens scope p) (↑(.Name x px)) l X.env=pure (X.env.blockKind == .function && X.env.kindOf x == ↑.local && px.line == p.line && !(scope.names.any λ(n,k)=>n == x && (k == .local || k == .cell))):=rfl;rw[e];unfold Mj at h
 erw[Æ]at h;have k:X.env.kindOf x=↑.local:=by
  show X.env.scope.names.lookup x=↑.local;rw[C.nm];exact eq_of_beq h.1.1
 rw[zdz C.kd,k,h.1.2,h.2];rfl
def zjz(C:CxOk J X E ca){px}(h:YF J x=true):swapsWith e (↑(.Name x px)) l X.env=pure false:=by
 have k:X.env.kindOf x=↑.cell:=by
  show X.env.scope.names.lookup x=↑.cell;rw[C.nm];exact eq_of_beq h
 have c:(↑NameKind.cell == ↑NameKind.local)=false:=rfl;cases e<;>first|rfl|(unfold swapsWith;erw[k,c,Bool.and_false,ĵ])
def Ke(h:GV e=false):swapsWithSole [t] e l env=pure false:=Ml h
def Ka(h:GU k=false)(v):assign (.Subscript o k pos) env v=(do
   let ov <- holding [v]<|eval o env;let iv <- holding [v,ov] (eval k env)
   standAt pos
   holding [v,ov,iv] (setItem ov iv v)
   release [v,ov,iv] []):=by
 cases k<;>first|rfl|cases h
def s_rse(C:CxOk J X E ca)(g:J.ox.nr=false)(i:Fz c=none)(s:c∈J.ex)(t:C7 J.nm c=true)(u:DU c=true)(o:PA X (e::es)<|CD X.K E ca ms)(m:∀x∈e::es,Er x=true) :
  PS X (.Raise (↑(.Call (.Name c p) (e::es) [] cpos)) none pos) (tS X.K E ca mu<|C4 c ms):=by
 let(T,n,f):=C.ex c s;let(w,z,A):=Di u;refine PS.weak (zib T f C.calm (C.md g) o (C.gl t) w (DA<|m e (Ï ..))<|Ge m) λD O H h=>?_
 let(F,Y,R,S,q):=h;refine{F,Y,R,S,?_};unfold C4 at q;cases l:ms Y with
 |none=>erw[l]at q<;>symm|some r=>
  erw[l]at q;cases r with
  |x c=>exact λa d e=>q a d O R e.stp0 (S.ext e)|v y b=>
   intro a d xs k rs;by_cases j:y.length<=BI;erw[j,Å]at q;refine{by rw[<- rs.1,<- GP];exact j,?_};have:=(q a d O R k.stp0<|S.ext k).plain i;rw[n]at this;exact this;erw[j,Ã]at q<;>symm
end
def k9{px pos}(f:J.loc x=true)(d:EX J.N x=↑i)(C:CxOk J X E ca)(b:PE X e<|tM X.K E ca m)(c:∀l,swapsWith e (↑(.Name x px)) l X.env=pure false) :
  PS X (.Assign [.Name x px] e pos) (tS X.K E ca mu<|JW J x i m):=by
 let(g1,g2,a):=C.loc f d;unfold JW;split;exact zne C.nodup g1 g2 b (c _) a;exact YQ C.nodup g1 g2 b (c _) a
def aLC(D:Dc)(J:Gm)(x:Str)(i:Nat)(px pos:Pos)(t:EX J.N x=↑i):(e:Expr)->Option (SR J<|.Assign [.Name x px] e pos)
 |.ListComp f j a p=>gd (Mj J x px<|.ListComp f j a p) λl=>(match j,l with
  |[{n,d,k,0}],l=>(dC D J f n d k a).bind λr=>↑{
   JW J x i (Hi (Ja J<|.ListComp f [{n,d,k,0}] a p) r.m)
   ,λ{X} {E} {ca} C=>by
   have v:X.env.scope.names.lookup x=↑.local:=by
    unfold Mj at l;erw[Æ]at l;rw[C.nm];exact eq_of_beq l.1.1
   have q:X.N[i]?=↑x:=by rw[C.N];exact Jh t
   obtain⟨o,w,b,mt,me,h,B,m,s,u⟩:=r.ok C;rw[h];have c:=r_lcS (pos2:=pos) B C.calm m C.ps C.fr s u C.nodup q v<|zhz C l;have c:=YW c<|Ja J<|.ListComp f [{n,d,k,0}] a p;unfold JW;split
   exact PS.weak c λD O H h=>Xr h
   exact PS.weak c λD O H h=>QZ (g:=Gy i) (λϊ ϊ ϊ ϊ z=>gM z) h}
  |ϊ,ϋ=>none)
 |ϊ=>none
def aNm(D:Dc)(J:Gm)(x:Str)(px:Pos)(e:Expr)(pos:Pos):Option<|SR J<|.Assign [.Name x px] e pos:=gd (J.loc x) λb=>ob (EX J.N x) λi a=>
 if c:GV e=false then (D.e J e).bind λr=>↑{JW J x i<|Hi (Ja J e) r.m,λC=>k9 b a C (NA (r.ok C).1 _) λϊ=>Ml c}
 else if d:YF J x=true then (D.e J e).bind λr=>↑{JW J x i<|Hi (Ja J e) r.m,λC=>k9 b a C (NA (r.ok C).1 _) λϊ=>zjz C d}
 else aLC D J x i px pos a e
def aTup(D:Dc)(J:Gm)(ts:ku)(b:Nat)(pt:Pos)(e:Expr)(pos:Pos):Option<|SR J<|.Assign [.Tuple ts b pt] e pos:=gd (!(zq3 e || GV e)) λd=>(dG J<|.Tuple ts b pt).bind λc=>(D.e J e).bind λr=>↑{A3 r.m c.m,λC=>by
 have a:=Cq d;rw[õ]at a;refine znb (r.ok C).1 (c.ok C) (Ke a.2) ?_ rfl;have f:=a.1;cases e<;>first|rfl|cases f}
def aTp(D:Dc)(J:Gm)(ts:ku)(a:Nat)(pt:Pos)(e:Expr)(pos:Pos):Option<|SR J<|.Assign [.Tuple ts a pt] e pos:=
 aTup D J ts a pt e pos
def soleX:swapsWithSole [.Subscript a k p] e l env=pure false:=by
 cases e<;>rfl
def aDps(D:Dc)(J:Gm)(x:Str)(a:Pos)(j:Expr)(f:Pos)(e:Expr)(pos:Pos):Option<|SR J<|.Assign [.Subscript (.Name x a) j f] e pos:=gd (!(GU j)) λc=>ob (J.var x) λi d=>(D.e J j).bind λb=>(D.e J e).bind λr=>↑{JU i b.m r.m,λC=>by
 obtain⟨g,h,k,l⟩:=C.var (pos:=a) d;refine s_dps (by have:=C.room.units;lia) g h k l (r.ok C).1 (b.ok C).1 soleX ?_ (Ka<|Cq c)
 cases e<;>rfl}
def aSto(D:Dc)(J:Gm)(x:Str)(b:Pos)(j:Expr)(g:Pos)(e:Expr)(pos:Pos):Option<|SR J<|.Assign [.Subscript (.Name x b) j g] e pos:=gd (!(GU j || GV e)) λd=>ob (J.var x) λi f=>(D.e J j).bind λc=>(D.e J e).bind λr=>↑{Ki i c.m r.m,λC=>by
 have a:=Cq d;rw[õ]at a;obtain⟨h,k,l,m⟩:=C.var (pos:=b) f;refine s_sto h k l m (r.ok C).1 (c.ok C).1 (Ke a.2) ?_ (Ka a.1);cases e<;>rfl}
def aSt2(D:Dc)(J:Gm)(x:Str)(c:Pos)(b:Expr)(h:Pos)(j:Expr)(k:Pos)(e:Expr)(pos:Pos):Option<|SR J<|.Assign [.Subscript (.Subscript (.Name x c) b h) j k] e pos:=gd (!(GU b || GU j || GV e)) λf=>ob (J.var x) λi g=>(D.e J b).bind λr0=>(D.e J j).bind λd=>(D.e J e).bind λr=>↑{Gi i r0.m d.m r.m,λC=>by
 have a:=Cq f;rw[õ,õ]at a;obtain⟨l,m,n,o⟩:=C.var (pos:=c) g;refine zna l m n o (r.ok C).1 (r0.ok C).1 (d.ok C).1 (NG a.1.1) (Ke a.2) ?_ (Ka a.1.2);cases e<;>rfl}
def Jg{fs:ky}(h:fs.findIdx? (· == f)=↑j):f∈fs/\fs[j]?=↑f:=by
 let(a,b,_):=ď.mp h;have e:fs[j]?=↑f:=by rw[Á a];exact congrArg some<|eq_of_beq b
 exact{ĳ e,e}
def aDpf(D:Dc)(J:Gm)(x f:Str)(d p:Pos)(j:Expr)(q:Pos)(e:Expr)(pos:Pos):Option<|SR J<|.Assign [.Subscript (.Attribute (.Name x d) f p) j q] e pos:=gd (!(GU j || GV e)) λh=>ob J.ox.sf λc l=>ob (J.var x) λi k=>ob (c.2.findIdx? (· == f)) λm b=>(D.e J j).bind λg=>(D.e J e).bind λr=>↑{JV c.1 c.2 m i g.m r.m,λC=>by
 have a:=Cq h;rw[õ]at a;obtain⟨s,t,u,v⟩:=C.var (pos:=d) k;obtain⟨n,o⟩:=C.gx.sf c.1 c.2 l;refine s_dpf (by have:=C.room.units;lia) n (o f (Jg b).1) b s t u v (r.ok C).1 (g.ok C).1 (Ke a.2) ?_ (Ka a.1)
 cases e<;>rfl}
def V1(h:J.ox.sf=↑c)(g:J.var x=↑i)(hj:c.2.findIdx? (· == f)=↑jj)(b:(!((c.2.take jj).contains f || !(decide (jj<900))))=true)(C:CxOk J X E ca)(d:PE X e<|tM X.K E ca m) :
  PS X (.Assign [.Attribute (.Name x p1) f p2] e pos) (tS X.K E ca J.mu<|CN c.1 c.2 jj i m):=by
 have a:=Cq b;rw[õ,Bool.not_eq_false',ó]at a;let(c1,c2):=a;let(l,n,o,p):=C.var (pos:=p1) g;let(j,k):=C.gx.sf c.1 c.2 h;exact znh j (k f (Jg hj).1) (Jg hj).2 c1 c2 l n o p d (by cases e<;>rfl)
def zqk(h:J.ox.sf=↑c)(g:J.var x=↑i)(hj:c.2.findIdx? (· == f)=↑jj)(b:(!((c.2.take jj).contains f || !(decide (jj<900))))=true)(C:CxOk J X E ca)(d:PE X e<|tM X.K E ca m) :
  PS X (.Assign [.Attribute (.Name x p1) f p2] e pos) (tS X.K E ca J.mu<|JS c.1 c.2 jj i m):=by
 have a:=Cq b;rw[õ,Bool.not_eq_false',ó]at a;let(c1,c2):=a;let(l,n,o,p):=C.var (pos:=p1) g;let(j,k):=C.gx.sf c.1 c.2 h;exact zng j (k f (Jg hj).1) (Jg hj).2 c1 c2 l n o p d (by cases e<;>rfl)
def aLsf(D:Dc)(J:Gm)(x f:Str)(d p:Pos)(j:Expr)(q:Pos)(e:Expr)(pos:Pos):Option<|SR J<|.Assign [.Subscript (.Attribute (.Name x d) f p) j q] e pos:=gd (!(GU j || GV e)) λh=>ob J.ox.sf λc l=>ob (J.var x) λi k=>ob (c.2.findIdx? (· == f)) λm b=>(D.e J j).bind λg=>(D.e J e).bind λr=>↑{Kj c.1 c.2 m i g.m r.m,λC=>by
 have a:=Cq h;rw[õ]at a;obtain⟨s,t,u,v⟩:=C.var (pos:=d) k;obtain⟨n,o⟩:=C.gx.sf c.1 c.2 l;refine s_lsf n (o f (Jg b).1) b s t u v (r.ok C).1 (g.ok C).1 (Ke a.2) ?_ (Ka a.1);cases e<;>rfl}
def aFl(D:Dc)(J:Gm)(x f:Str)(q s:Pos)(e:Expr)(pos:Pos):Option<|SR J<|.Assign [.Attribute (.Name x q) f s] e pos:=ob J.ox.sf λc j=>ob (J.var x) λi d=>ob (c.2.findIdx? (· == f)) λb h=>gd (!((c.2.take b).contains f || !(decide (b<900)))) λa=>match e,a with
 |.Dict [] [] p,a=>↑{CN c.1 c.2 b i Hf,λC=>V1 j d h a C Yp}|.Call (.Attribute o g k) m n l,a=>(D.e J<|.Call (.Attribute o g k) m n l).bind λr=>↑{Km (CN c.1 c.2 b i r.m)<|JS c.1 c.2 b i r.m,λC=>s_alt (V1 j d h a C (r.ok C).1)<|zqk j d h a C (r.ok C).1}|e,a=>(D.e J e).bind λr=>↑{CN c.1 c.2 b i r.m,λC=>V1 j d h a C (r.ok C).1}
def aSub(D:Dc)(J:Gm)(a j:Expr)(d:Pos)(e:Expr)(pos:Pos):Option<|SR J<|.Assign [.Subscript a j d] e pos:=match a with
 |.Name x c=>
  if J.dc.contains x then aDps D J x c j d e pos else
  aSto D J x c j d e pos
 |.Subscript (.Name x c) h g=>aSt2 D J x c h g j d e pos|.Attribute (.Name x c) f g=>match j with
  |.BinOp a i b k=>aLsf D J x f c g (.BinOp a i b k) d e pos|j=>aDpf D J x f c g j d e pos
 |ϊ=>none
def dAsg(D:Dc)(J:Gm)(ts:ku)(e:Expr)(pos:Pos):Option<|SR J<|.Assign ts e pos:=match ts with
 |[t]=>(match t with
  |.Name x px=>aNm D J x px e pos|.Tuple ts b pt=>aTp D J ts b pt e pos|.Subscript a j g=>aSub D J a j g e pos|.Attribute o f d=>(match o with
   |.Name x c=>aFl D J x f c d e pos|ϊ=>none)
  |ϊ=>none)
 |ϊ=>none
def XU(D:Dc)(J:Gm)(e:Expr)(pos:Pos):Option<|SR J<|.Expr e pos:=gd (!(GV e)) λa=>(D.e J e).bind λr=>↑{IQ r.m,λC=>s_exp (r.ok C).1 (Ml<|Cq a)}
def xApp(D:Dc)(J:Gm)(x:Str)(p:Pos)(f:Str)(b:Pos)(a:Expr)(c pos:Pos):Option<|SR J<|.Expr (.Call (.Attribute (.Name x p) f b) [a] [] c) pos:=gd (Er a) λk=>gd (b.endLine == c.line) λl=>ob (J.var x) λi m=>(D.e J a).bind λr=>
 if d:f="append" then ↑{DJ i r.m,λC=>by
  subst d;obtain⟨e,g,h,j⟩:=C.var (pos:=p) m;exact s_app e g h j (r.ok C).1 (IP k) l} else
 if d:f="extend" then ↑{JT i<|Hi (Ja J a) r.m,λC=>by
  subst d;obtain⟨e,g,h,j⟩:=C.var (pos:=p) m;exact s_ext e g h j (NA (r.ok C).1 _) (IP k) l} else
 XU D J _ pos
def xDap(D:Dc)(J:Gm)(x:Str)(p:Pos)(k:Expr)(m:Pos)(f:Str)(b:Pos)(a:Expr)(c pos:Pos):Option<|SR J<|.Expr (.Call (.Attribute (.Subscript (.Name x p) k m) f b) [a] [] c) pos:=gd (Er a) λe=>gd (b.endLine == c.line) λg=>gd (!(GU k)) λh=>ob (J.var x) λi l=>(D.e J k).bind λd=>(D.e J a).bind λr=>
 if j:f="append" then ↑{Kk i d.m r.m,λC=>by
  subst j;obtain⟨n,o,q,s⟩:=C.var (pos:=p) l;exact s_dap (by have:=C.room.units;lia) n o q s (d.ok C).1 (NG<|Cq h) (r.ok C).1 (IP e) g} else none
def dX(D:Dc)(J:Gm)(e:Expr)(pos:Pos):Option<|SR J<|.Expr e pos:=
 match e with
 |.Call (.Attribute (.Name x p) f b) [a] [] c=>xApp D J x p f b a c pos|.Call (.Attribute (.Subscript (.Name x p) k d) f b) [a] [] c=>xDap D J x p k d f b a c pos|e=>XU D J e pos
def xRet(D:Dc)(J:Gm)(o:Option Expr)(pos:Pos):Option<|SR J<|.Return o pos:=
 gd (!J.mu) λa=>match o with
 |none=>↑{S7,λC=>by rw[Cq a];exact znc}|some e=>(D.e J e).bind λr=>↑{AN r.m,λC=>by rw[Cq a];exact YT (r.ok C).1}
def xRse(D:Dc)(J:Gm)(a b:Option Expr)(pos:Pos):Option<|SR J<|.Raise a b pos:=match a,b with
 |some (.Call (.Name c p) (e::d) [] k),none=>gd (!(J.ox.nr)) λg=>gd ((Fz c).isNone) λf=>gd (J.ex.contains c) λh=>gd (C7 J.nm c) λi=>gd (DU c) λj=>(D.a J<|e::d).bind λr=>↑{C4 c r.m,λC=>s_rse C (Cq g) (Option.isNone_iff_eq_none.mp f) (ð.mp h) i j (r.ok C) r.st}|ϊ,ϋ=>none
def xFor(D:Dc)(J:Gm)(tg it:Expr)(body a:kx)(pos:Pos):Option<|SR J<|.For tg it body a pos:=
 match a with
 |[]=>gd (!(J.ox.nr)) λh=>(dI D J tg it).bind λb=>(dG J tg).bind λc=>(D.q J body).bind λr=>↑{Bc b.m c.m r.m,λC=>s_for (C.po<|Cq h) C.calm (b.ok C) (c.ok C) (r.ok C)<|Uz b.ns}|ϊ=>none
def xWh(D:Dc)(J:Gm)(c:Expr)(body a:kx)(pos:Pos):Option<|SR J<|.While c body a pos:=match a with
 |[]=>gd (!(J.ox.nr)) λh=>gd (GC c) λhk=>(D.e J c).bind λb=>(D.q J body).bind λr=>↑{Em b.m r.m,λC=>s_wh (C.po<|Cq h) (b.t hk C)<|r.ok C}|ϊ=>none
def xIf(D:Dc)(J:Gm)(c:Expr)(a b:kx)(pos:Pos):Option<|SR J<|.If c a b pos:=
 gd (GC c) λh=>(D.e J c).bind λf=>(D.q J a).bind λd=>(D.q J b).bind λe=>↑{A4 (Hi (Ja J c) f.m) d.m e.m,λC=>s_if (Ym (f.t h C) _) (d.ok C)<|e.ok C}
structure CxS(J:Gm)(X:Cx)(ca:Str->Value):Prop where
 N:X.N=J.N
 nd:J.N.Nodup
 nm:X.env.scope.names=J.nm
 rm:Room J.lv (Z5 X.A)
 bl:∀b∈J.bl,X.mg b=none
 gx:GxOk J.ox J.lv X.prog X.w X.K X.mg X.base ca
set_option tactic.hygienic true in
def CxS.var(C:CxS J X ca)(h:J.var x=↑i):X.N[i]?=↑x/\DN X.env.scope x/\(x == "__debug__")=false/\(x == "__classdict__")=false:=by
 unfold Gm.var at h;split at h;rename_i a;rw[Æ]at a;let(b,c,d):=Di a.1;exact{by rw[C.N];exact Jh h,X9 (by rw[C.nm];exact a.2),b,c}
 cases h
structure XR(J:Gm)(e:Expr) where
 m:AG
 ok:∀{X:Cx} {E:L2.St->XK} {ca:Str->Value},CxS J X ca->PE X e (tM X.K E ca m)/\(GC e=true->PT X e (BV X.K E ca m))
structure XQ(J:Gm)(ss:kx) where
 m:AH
 ok:∀{X:Cx} {E:L2.St->XK} {ca:Str->Value},CxS J X ca->Bf X ss (tS X.K E ca false m)
def xv{J:Gm}{e:Expr}(m:AG)(h:∀{X:Cx} {E:L2.St->XK} {ca:Str->Value},CxS J X ca->PE X e (tM X.K E ca m))(t:Mf e:=by trivial):Option<|XR J e:=↑{m,λC=>{h C,λϊ=>Sj (h C)<|Xk t}}
def xE(J:Gm):Nat->(e:Expr)->Option (XR J e)
 |0,ϊ=>none|n+1,e=>match e with
  |.Name x p=>ob (J.var x) λi g=>xv (AA i) λC=>by
   obtain⟨a,b,d,f⟩:=C.var g;exact Yi a b d f
  |.Constant c k p=>(match c with
   |.none=>xv (mC .non) λϊ=>Kp ZM λϊ ϊ=>.non|ϊ=>none)
  |ϊ=>none
def xS(J:Gm):Nat->(ss:kx)->Option (XQ J ss)
 |0,ϊ=>none|n+1,ss=>match ss with
  |[]=>↑{Ab,λϊ=>YV}|s::r=>(match s with
   |.Return ↑e p=>(match r with
    |[]=>(xE J 50 e).bind λq=>↑{AN q.m,λC=>Qp<|YT (q.ok C).1}|ϊ=>none)
   |.Assign [.Name x q] e p=>gd (J.loc x) λg=>gd (J.nm.lookup x == ↑.local) λc=>gd (!(GV e)) λd=>ob (EX J.N x) λi f=>(xE J 50 e).bind λb=>(xS J n r).bind λrs=>↑{AF (A3 b.m<|AD i) rs.m,λ{X} {E} {ca} C=>by
    have a:X.env.scope.names.lookup x=↑.local:=by rw[C.nm];exact eq_of_beq c
    exact Rb (YQ (by rw[C.N];exact C.nd) (by rw[C.N];exact Jh f) (.inl a) (b.ok C).1 (Ml<|Cq d) (.inr a))<|rs.ok C}
   |ϊ=>none)
theorem zqr{J:Gm}{X:Cx}(C:CxOk J X E ca)(a:C1 (F8 X pz xe) E'):CxOk { J with ox:={ J.ox with nr:=true}} (F8 X pz xe) E' ca:=
 {C.N,C.nd,C.nm,C.kd,C.calm,C.room,C.ce,C.bl,a,λz=>(by cases z),λz=>(by cases z),dQ,C.fs,C.ex,C.ms,{(C.gx.co),C.gx.cl,C.gx.mt,C.gx.nw,C.gx.sf,C.gx.xs,C.gx.sb,C.gx.sv,C.gx.ci,C.gx.x2,C.gx.wd,C.gx.ti,C.gx.dn,C.gx.rn},C.tr,C.fr}
def xTr0(D:Dc)(J:Gm)(body:kx)(W:Str)(o:Pos)(f:Stmt)(b:kx)(c pos:Pos):Option<|SR J<|.Try body [.ExceptHandler (↑(.Name W o)) none (f::b) c] [] [] pos:=gd (J.ox.df && !(J.ox.nr) && !(J.mu) && C7 J.nm W && DU W) λi=>ob (J.ox.xs.lookup W) λcs l=>(D.q { J with ox:={ J.ox with nr:=true } } body).bind λu=>(xS J 50<|f::b).bind λh=>↑{HN cs u.m h.m,λ{X} {E} {ca} C=>by
 erw[Æ,ŷ]at i;obtain⟨⟨⟨⟨c1,c2⟩,c3⟩,j⟩,k⟩:=i;obtain⟨T,m⟩:=C.gx.xs W cs l;obtain⟨p,q⟩:=C.tr c1;have g:∀(d:L2.St->XK) e xe,C1 (F8 X e xe) d->Bf (F8 X e xe) body (tS X.K d ca J.mu u.m):=λd e xe n=>u.ok<|zqr C n
 generalize u.m=um at g ⊢;rw[c3]at g ⊢;exact zn9 T m p q g (λa=>h.ok {C.N,C.nd,C.nm,{(rfl),C.room.dp,C.room.un},C.bl,C.gx}) (C.gl j) (Di k).1}
def xTry(D:Dc)(J:Gm)(body:kx)(d:List ExceptHandler)(b BZ:kx)(pos:Pos):Option<|SR J<|.Try body d b BZ pos:=match d,b,BZ with
 |[.ExceptHandler (↑(.Name W f)) none (e::a) c],[],[]=>xTr0 D J body W f e a c pos|ϊ,ϋ,ό=>none
def xAug(D:Dc)(J:Gm)(t:Expr)(a:Operator)(e:Expr)(pos:Pos):Option<|SR J<|.AugAssign t a e pos:=match t,a with
 |.Name x px,.Add=>gd (J.loc x && !(J.ow.contains x)) λh=>ob (EX J.N x) λi c=>(D.e J e).bind λr=>↑{Kl i r.m,λC=>by
   obtain⟨g1,g2,b⟩:=C.loc (ğ.mp h).1 c;exact s_aug C.nodup g1 g2 (r.ok C).1 b}
 |ϊ,ϋ=>none
def dSt(D:Dc)(J:Gm):(s:Stmt)->Option (SR J s)
 |.Pass ϊ=>↑{Ab,λϊ=>znd}|.Break ϊ=>↑{Y3,λϊ=>zk9}|.Continue ϊ=>↑{Mv,λϊ=>zf5}|.Return o pos=>xRet D J o pos|.Expr e pos=>dX D J e pos|.Assign j e pos=>dAsg D J j e pos|.AugAssign t h e pos=>xAug D J t h e pos|.If c a b pos=>xIf D J c a b pos|.For i it d f pos=>xFor D J i it d f pos|.While c d f pos=>xWh D J c d f pos|.Raise a b pos=>xRse D J a b pos|.Try d g f BZ pos=>xTry D J d g f BZ pos|ϊ=>none
def dSq(D:Dc)(J:Gm):(ss:kx)->Option (QR J ss)
 |[]=>↑{Ab,λϊ=>YV}|[s]=>(match D.s J s with
  |some r=>↑{Uw J (frzs J s) r.m,λC=>RZ (Qp<|r.ok C) _}|none=>if J.ox.no then ↑{Mu,λϊ=>Qp YU} else none)
 |s::a::r=>(D.q J<|a::r).bind λrs=>match D.s J s with
  |some q=>↑{Uw J (frzs J s)<|AF q.m rs.m,λC=>RZ (Rb (q.ok C)<|rs.ok C) _}|none=>if J.ox.no then ↑{AF Mu rs.m,λC=>Rb YU<|rs.ok C} else none
def Io:Nat->Dc
 |0=>{λϊ ϊ=>none,λϊ ϊ=>none,λϊ ϊ=>none,λϊ ϊ ϊ=>none,λϊ ϊ=>none,λϊ ϊ=>none}|n+1=>{dEs<|Io n,dAs<|Io n,dOs<|Io n,dBs<|Io n,dSt<|Io n,dSq<|Io n}
def Oc(n:Nat)(J:Gm)(ss:kx):Option<|AH:=((Io n).q J ss).map QR.m
structure GoodS(ca:Str->Value)(n:Nat):Prop where
 ss:∀{J:Gm} {X:Cx} {E:L2.St->XK} {st:kx} {m:AH},CxOk J X E ca->Oc n J st=↑m->Bf X st (tS X.K E ca J.mu m)
theorem gH(ca)(n):GoodS ca n:={λC h=>by
 let(r,_,rfl):=Ú.mp h;exact r.ok C}
end Pu
end
namespace Pu
open PySem PySem.Spec PyProof.Rows L2 Zw Zx
theorem dN:True:=trivial
def Kn(n:Nat)(u:AH)(ts:qF):Option Ru:=match u (ts.map some++List.replicate (n - ts.length) none) with
 |some (.rt t)=>↑(.ok t)|some (.nx ϊ)=>↑(.ok .non)|some (.xc c ϊ)=>↑(.exc c)|ϊ=>none
def AZ(k n:Nat)(u:AH)(ts:qF):Option Ru:=if ts.length=k then Kn n u ts else none
theorem Q6(c:∀i a,¬ R i a)(s:Stp F H (tot R) F' H' σ'):Ext F H F' H' σ' where
 hh:=λb u e=>s.kp b u (λ⟨i,z⟩=>c i b z) e
 ff:=s.ff
 fh:=s.fh
 nb:=λb z=>(s.nw b z).elim (λ⟨i,w⟩=>absurd w<|c i b) id
 nf:=λb u e=>(s.nf b u e).elim .inl λz=>z.elim (λ⟨i,w⟩=>absurd w<|c i b) .inr
def zi0{K}(fh:Ag F H)(r:Am K F ts vs):StR K F H (start N vs) (ts.map some++List.replicate (N.length - ts.length) none)<|λϊ=>R0:=by
 have g:=r.1;refine{fh,by simp[L2.start,g],λi t e=>?_,λϊ ϊ z=>z.elim,λϊ ϊ ϊ ϊ z=>z.elim};unfold L2.start;by_cases f:i<ts.length;rw[ô (by simpa using f),Î]at e;let(j,b,c):=Ú.mp e;cases c;have a:i<vs.length:=by lia
 refine{vs[i],?_,(r.2 i t vs[i] b<|Á a).any};rw[ô (by simpa using a),Î,Á a];rfl;rw[ą (by simp;lia)]at e;let(h,d):=É.mp e;simp at d
def znk{K}{N ps:ky}(h:Bp K ca (AZ ps.length N.length u) vs H Q E):tS K (λϊ=>E) ca false u { nx:=λϊ H'=>Q .non H',rt:=Q} (start N vs) H:=by
 let(i,e,fh,r,q):=h;refine{i,_,_,zi0 fh r,?_};unfold AZ at q;by_cases f:e.length=ps.length;erw[f,Å]at q;unfold Kn at q;cases g:u (e.map some++List.replicate (N.length - e.length) none) with
 |none=>erw[g]at q<;>symm|some o=>
  erw[g]at q;cases o with
  |nx Y=>exact λa b j k d l=>q a b .non R0 ((Q6 (λϊ ϊ z=>z) d).mono λϊ z=>z.elim) .non|rt t=>exact λa b x B d m=>q a b x B (Q6 (λϊ ϊ z=>z) d) m|bk Y=>symm|ct Y=>symm|xc c Y=>exact λa b j k d l=>q a b<|(Q6 (λϊ ϊ z=>z) d).mono λϊ z=>z.elim
 erw[f,Ã]at q<;>symm
def g9{K}{st:Stmt}{f:Addr}{J:Gm}(F:FunD K x qual st f fd)(S:FnScope N ps<|DY st)
  (d:J.N=N) (t:J.nm=(DY st).names) (j:∀x∈J.ce,J.nm.lookup x=↑.cell) (a:J.lv=k) (i:∀b∈J.bl,mg b=none)
  (l:∀f F,J.fns.lookup f=↑F->F.lv<=k/\Nonempty (DefX P w K mg base F.lv f F.ps<|Bp K ca F.g)) (hex:∀c∈J.ex,∃T:ECls K mg c,ca c=.ref T.C/\EI K T.C=↑none)
  (o:∀f F,J.mus.lookup f=↑F->F.lv<=k/\Nonempty (DefX P w K mg base F.lv f F.ps<|Gg K ca F.g)) (p:J.mu=false) (m:GxOk J.ox k P w K mg base ca) (B:Oc n J (Ht st)=↑u):FnOk P w K mg base (Dg P w) (k+1) f fd ps<|Bp K ca<|AZ ps.length N.length u:=by
 refine Z4 F S (λL H Q E h=>?_) λg A outer s H L Q E z h=>?_;let(M,I,_,r,q):=h;unfold AZ at q;by_cases v:I.length=ps.length;rw[<- r.1,v];grind
 have C:CxOk J (G0 (Dg P w) P w K mg base N qual (DY st) f g A outer s H E) (λϊ=>E) ca:=by
  refine{d.symm,by rw[d];exact S.nd,t.symm,S.kind,rfl,by rw[a];exact z,λy D=>{rfl,j y D},i,ZR,λϊ=>PassesOwn.leaving,λϊ=>d7,dN,λf F e=>by rw[a];exact l f F e,hex,λf F e=>by rw[a];exact o f F e,by rw[a];exact m,λϊ=>{(rfl),rfl},{_,_,rfl,rfl}}
 have G:=(gH ca n).ss C B;rw[p]at G;refine{_,G,?_};exact znk h
def zg0{K}(fh:Ag F H)(r0:Rp K F H t0 x0 A)(r:Am K F ts vs):StR K F H (start N<|x0::vs) ((t0::ts).map some++List.replicate (N.length - (t0::ts).length) none) (λi=>if i=0 then A else R0):=by
 have o:=r.1;refine{fh,by simp[L2.start,o],λi t e=>?_,λi a z=>?_,λi j a c g h=>?_};unfold L2.start;by_cases b:i<(t0::ts).length;rw[ô (by simpa using b),Î]at e;let(q,f,k):=Ú.mp e;cases k;cases i with
 |zero=>cases f;exact{x0,by simp,r0}|succ i=>
  have m:i<ts.length:=by simpa using b
  have d:i<vs.length:=by lia
  refine{vs[i],?_,(r.2 i t vs[i] (by simpa using f)<|Á d).any};rw[ô (by simpa using d),Î,ł,Á d];rfl
 rw[ą (by simp at b ⊢;lia)]at e;let(p,l):=É.mp e;simp at l;by_cases b:i=0;subst b;exact{(t0),rfl};erw[b,Ã]at z;exact z.elim;by_cases b:i=0;have n:¬ j=0:=λz=>c<|b.trans z.symm
 erw[n,Ã]at h;exact h;erw[b,Ã]at g;exact g
def zjv:tot (λi=>if i=0 then A else R0)=A:=funext λa=>propext {λ⟨i,z⟩=>by
 by_cases b:i=0;grind
 erw[b]at z;exact z.elim,λz=>{0,by simpa using z}}
def Az{α:Type}{P:α->Prop}:∀x∈([]:List α),P x:=λϊ h=>by cases h
def A2{α:Type}{P:α->Prop}{a:α}{l:List α}(h:P a)(r:∀x∈l,P x):∀x∈a::l,P x:=λx b=>by
 obtain rfl|b:=Ñ.mp b
 exact h;exact r x b
def JI{P:ki->Prop}(h:P []):∀us:ki,us.length=0->P us:=λus e=>by
 cases us with
 |nil=>exact h|cons a r=>cases e
def Co{P:ki->Prop}{k:Nat}(h:∀a us,us.length=k->P (a::us)):∀us:ki,us.length=k+1->P us:=λus e=>by
 cases us with
 |nil=>cases e|cons a r=>exact h a r<|ï e
def Bs{P:ki->Prop}(h:∀a,P [a]):∀us:ki,us.length=1->P us:=Co λa=>JI<|h a
def Bn{P:ki->Prop}(h:∀a b,P [a,b]):∀us:ki,us.length=2->P us:=Co λa=>Co λb=>JI<|h a b
def DP{P:ki->Prop}(h:∀a b c,P [a,b,c]):∀us:ki,us.length=3->P us:=Co λa=>Co λb=>Co λc=>JI<|h a b c
def IH{P:ki->Prop}(h:∀a b c d,P [a,b,c,d]):∀us:ki,us.length=4->P us:=Co λa=>Co λb=>Co λc=>Co λd=>JI<|h a b c d
def Xd{P:ki->Prop}(h:∀a b c d e,P [a,b,c,d,e]):∀us:ki,us.length=5->P us:=Co λa=>Co λb=>Co λc=>Co λd=>Co λe=>JI<|h a b c d e
def us6{P:ki->Prop}(h:∀a b c d e f,P [a,b,c,d,e,f]):∀us:ki,us.length=6->P us:=Co λa=>Co λb=>Co λc=>Co λd=>Co λe=>Co λf=>JI<|h a b c d e f
section
variable {P:Program}{w:World}{K:q9}{mg:Str->Option Value}{base:Heap}{ca:Str->Value}{k:Nat}
def A7:∀f F,([]:List<|Str×Fn).lookup f=↑F->F.lv<=k/\Nonempty (DefX P w K mg base F.lv f F.ps<|Bp K ca F.g):=λϊ ϊ h=>by cases h
def zj8{x:Str}{a:Fn}{l:List<|Str×Fn}(hk:a.lv<=k)(D:DefX P w K mg base a.lv x a.ps<|Bp K ca a.g)(r:∀f F,l.lookup f=↑F->F.lv<=k/\Nonempty (DefX P w K mg base F.lv f F.ps<|Bp K ca F.g)) :
  ∀f F,((x,a)::l).lookup f=↑F->F.lv<=k/\Nonempty (DefX P w K mg base F.lv f F.ps<|Bp K ca F.g):=λf F h=>by
 rw[æ]at h;cases b:f == x with
 |true=>rw[b]at h;cases h;rw[eq_of_beq b];exact{hk,{(D)}}|false=>rw[b]at h;exact r f F h
def TH:∀f F,([]:List<|Str×Fn).lookup f=↑F->F.lv<=k/\Nonempty (DefX P w K mg base F.lv f F.ps<|Gg K ca F.g):=λϊ ϊ h=>by cases h
def Mp(K:q9):Sp:=λc H Q ϊ=>∃(a:Addr) (ns:kz),c=[.ref a]/\HE K H a (ns.map V.int)/\ns.length<=63/\∀b,Q (.bl true) b
def HE.of{K:q9}{H:Hp}{a:Addr}{xs:qE}(b:Pn H)(h:Ai K H a xs):HE K H a xs:=by
 rcases h with (h|h)|h;rcases b a with z|⟨o,c,z⟩<;>rw[h]at z<;>cases z;exact .inl h;exact .inr h
def B3(ns:kz):T:=.nd false .rl<|ns.map T.int
def Y6{F:Hp}:∀ns:kz,Am K F (ns.map T.int)<|ns.map V.int
 |[]=>.nil|n::r=>.cons (H:=F) (.int n)<|Y6 r
def zpr{R:qF->Option Ru}{f:Addr}{fd:FuncData}(F:FnOk P w K mg base (Dg P w) k f fd ["_law_script"]<|Bp K ca R)(h:∀ns:kz,ns.length<=63->R [B3 ns]=↑(.ok<|.bl true)):FnOk P w K mg base MU k f fd ["_law_script"]<|Mp K:=by
 refine{λt H Q E d=>?_,λA outer s H b p t Q E n j l o d=>?_};let(a,ns,rfl,_):=d;rfl;let(a,ns,rfl,m,c,q):=d;refine Ě (F.run A outer s H b p _ Q E0 n j l o {H,[B3 ns],.refl _,.cons (H:=H) (Am.of_node (k:=.rl) m<|Y6 ns) .nil,?_}) λr x g=>?_;rw[h ns c];intro u i z C e r;rw[r.bl_inv];exact q i;cases r with
 |error v=>let(_,_,_,_,_,_,_,_,_,_,_,_,z):=g;exact z.elim
 |ok fl=>cases fl<;>exact g
end
def Fw(C:Addr)(fs:ky)(k n:Nat)(u:AH)(p:Addr)(ts:qF):Option Ru:=if ts.length+1=k then (match u ((T.oob p C fs []::ts).map some++List.replicate (n - (ts.length+1)) none) with
 |some (.nx Y)=>(match ES Y 0 C fs with
  |some (q,l)=>if q=p then ↑(.ok<|.obj (.ins C fs)<|BP l) else none
  |none=>none)
 |some (.xc c ϊ)=>↑(.exc c)|ϊ=>none) else none
open Classical in
def E7(C:Addr)(fs:ky)(k n:Nat)(u:AH)(ts:qF):Option Ru:=if h:∃r,∀p,Fw C fs k n u p ts=↑r then ↑h.choose else none
def Mx{C:Addr}{fs:ky}{k n:Nat}{u:AH}{ts:qF}{r:Ru}(h:∀p,Fw C fs k n u p ts=↑r):E7 C fs k n u ts=↑r:=by
 have a:∃r,∀p,Fw C fs k n u p ts=↑r:={(r),h};unfold E7;rw[dif_pos a];have e:=(a.choose_spec 0).symm.trans (h 0);exact e
set_option tactic.hygienic true in
def Y4{C:Addr}{fs:ky}{k n:Nat}{u:AH}{ts:qF}{r:Ru}(h:E7 C fs k n u ts=↑r)(p:Addr):Fw C fs k n u p ts=↑r:=by
 unfold E7 at h;split at h;rename_i a;cases h;exact a.choose_spec p;cases h
def zqi{P:Program}{w:World}{K:q9}{mg:Str->Option Value}{base:Heap}{ca:Str->Value}{x v:Str}{st:Stmt}{f:Addr}{fd:FuncData}{N ps:ky}{k n:Nat}{J:Gm}{u:AH}{C:Addr}{fs:ky}(F:FunD K x v st f fd)(S:FnScope N ps<|DY st)
  (U:J.N=N) (hnm:J.nm=(DY st).names) (hce:∀x∈J.ce,J.nm.lookup x=↑.cell) (g:J.lv=k) (hbl:∀b∈J.bl,mg b=none)
  (hfs:∀f F,J.fns.lookup f=↑F->F.lv<=k/\Nonempty (DefX P w K mg base F.lv f F.ps<|Bp K ca F.g)) (hex:∀c∈J.ex,∃T:ECls K mg c,ca c=.ref T.C/\EI K T.C=↑none)
  (hms:∀f F,J.mus.lookup f=↑F->F.lv<=k/\Nonempty (DefX P w K mg base F.lv f F.ps<|Gg K ca F.g)) (hmu:J.mu=false) (hgx:GxOk J.ox k P w K mg base ca) (hu:Oc n J (Ht st)=↑u):FnOk P w K mg base (Dg P w) (k+1) f fd ps<|Kc K ca C<|E7 C fs ps.length N.length u:=by
 refine Z4 F S (λvs H Q E h=>?_) λZ A outer s H vs Q E hr h=>?_;let(X,p,dx,m,vs',_,rfl,_,_,r,q):=h;cases I:E7 C fs ps.length N.length u m with
 |none=>rw[I]at q;symm|some rr=>
  have d:=Y4 I 0;unfold Fw at d;by_cases R:m.length+1=ps.length;rw[ñ,<- r.1,R];rw[if_neg R]at d;cases d
 have CC:CxOk J (G0 (Dg P w) P w K mg base N v (DY st) f Z A outer s H E) (λϊ=>E) ca:=by
  refine{U.symm,by rw[U];exact S.nd,hnm.symm,S.kind,rfl,by rw[g];exact hr,λy hy=>{rfl,hce y hy},hbl,ZR,λϊ=>PassesOwn.leaving,λϊ=>d7,dN,λf F e=>by rw[g];exact hfs f F e,hex,λf F e=>by rw[g];exact hms f F e,by rw[g];exact hgx,λϊ=>{(rfl),rfl},{_,_,rfl,rfl}}
 have G:=(gH ca n).ss CC hu;rw[hmu]at G;refine{_,G,?_};let(X,p,dx,m,vs',fh,rfl,fp,hp,r,q):=h;have r0:Rp K X H (.oob p C fs []) (.ref p) (λa=>a=p\/∃j:Nat,R0 a):=.oob (xs:=[]) (λϊ=>R0) fp (by rw[List.zip_nil_right];exact hp) rfl (λi t x h=>by simp at h) (λϊ ϊ ϊ ϊ z=>z.elim) (λϊ z=>z)<|λϊ ϊ z=>z.elim
 have hA:(λa=>a=p\/∃j:Nat,R0 a)=λa=>a=p:=funext λa=>propext {λz=>z.elim id λ⟨_,w⟩=>w.elim,λz=>.inl z};refine{X,_,_,zg0 fh r0 r,?_};unfold pS;rw[zjv,hA];cases I:E7 C fs ps.length N.length u m with
 |none=>rw[I]at q;symm|some rr=>
  rw[I]at q;have d:=Y4 I p;unfold Fw at d
  by_cases R:m.length+1=ps.length;rw[if_pos R]at d;have el:(T.oob p C fs []::m).length=m.length+1:=rfl;rw[el];cases ho:u ((T.oob p C fs []::m).map some++List.replicate (N.length - (m.length+1)) none) with
  |none=>rw[ho]at d;cases d|some o=>
   rw[ho]at d;cases o with
   |nx Y=>
    simp only at d;intro V D O1 W L M;cases B:ES Y 0 C fs with
    |none=>rw[B]at d;cases d|some ql=>
     let(q0,l):=ql;rw[B]at d;simp only at d;by_cases hq:q0=p;rw[if_pos hq]at d;subst hq;cases d;have O:=J2 B;have S2:=M.frz O;let(y,ey,ry):=M.rep 0 _ O;let(dx2,xs2,Rr,rfl,hA2,fp2,hp2,ro,dp):=ry.oob_inv;have n1:∀a,W 0 a->V a=none:=λa z=>(M.dom z).1
     have r2:=ry.share (H':=D) (F7 (H:=D) n1) λa u z q=>by rw[Ee z];exact q
     simp only at q;refine q (frz V D<|W 0) D {L.ff.trans<|F7 n1,Jp M.fh,L.kp,λb z=>z.elim,λb u e=>?_} r2;by_cases hb:W 0 b;exact(L.nw b {0,hb}).elim (λz=>.inr<|.inl z) λz=>.inr<|.inr z
     rw[F6 hb]at e;exact L.nf b u e;rw[if_neg hq]at d;cases d
   |rt t=>cases d|bk Y=>cases d|ct Y=>cases d|xc c Y=>cases d;simp only at q;exact λV D O1 W L M=>q V D<|L.mono λϊ z=>z.elim
  rw[if_neg R]at d;cases d
def DC{κ α:Type} [BEq κ]{P:κ->α->Prop}:∀y b,([]:List<|κ×α).lookup y=↑b->P y b:=λϊ ϊ h=>by cases h
def Ds{κ α:Type} [BEq κ] [LawfulBEq κ]{P:κ->α->Prop}{x:κ}{a:α}{l:List<|κ×α}(h:P x a)(r:∀y b,l.lookup y=↑b->P y b):∀y b,((x,a)::l).lookup y=↑b->P y b:=λy b e=>by
 rw[æ]at e;cases c:y == x with
 |true=>rw[c]at e;cases e;rw[eq_of_beq c];exact h|false=>rw[c]at e;exact r y b e
def Sb{K:q9}{F:Hp}:∀ys:ky,Am K F (ys.map T.str)<|ys.map V.str
 |[]=>.nil|y::r=>.cons (H:=F) (.str y)<|Sb r
def NV{P:Str->Fn->List (Nat×qF)->Prop}:∀x F ds,([]:List<|Str×Fn×List (Nat×qF)).lookup x=↑(F,ds)->P x F ds:=λϊ ϊ ϊ h=>by cases h
def NW{P:Str->Fn->List (Nat×qF)->Prop}{l:List<|Str×Fn×List (Nat×qF)}{b:Str}{c:Fn}{d:List<|Nat×qF}(h:P b c d)(r:∀x F ds,l.lookup x=↑(F,ds)->P x F ds):∀x F ds,((b,c,d)::l).lookup x=↑(F,ds)->P x F ds:=λx F ds e=>by
 rw[æ]at e;cases a:x == b with
 |true=>rw[a]at e;cases e;rw[eq_of_beq a];exact h|false=>rw[a]at e;exact r x F ds e
def jW(K:q9)(C:Addr):=(Ld K C,W.subIn K (.ref C)<|.ref C,(W.clsIn K C).isSome,W.typeIn K<|.ref C,W.findIn K (.ref C) "__getattribute__",W.findIn K (.ref C) "__getattr__",W.findIn K (.ref C) "__class__",W.mroIn K C<|.type "object",W.mroIn K C<|.type "BaseException")
def Lf{K:q9}{mg:Str->Option Value}{x:Str}(g:W.specialIn K (.builtin "object.__class__") "__get__"=↑(↑(.builtin "getset_descriptor.__get__"))/\W.takesIn K (.builtin "object.__class__")=↑true)(C:Addr)(m:mg x=↑(.ref C))(h:jW K C=(true,↑true,true,↑(.type "type"),↑(↑(.builtin "BaseException.__getattribute__")),↑none,↑(↑(.builtin "object.__class__")),↑true,↑true)):ECls K mg x:={C,m,by
 unfold jW at h;erw[Prod.mk.injEq,Ń]at h;obtain⟨a,b,c,d,e,f,i,j,k⟩:=h;exact{(a),b,c,d,e,f,i,j,k,g.1,g.2}}
def xs_of{K:q9}{mg:Str->Option Value}{W:Str}{ca:Str->Value}{cs:List<|Str×Addr}(T:ECls K mg W)(h:(cs.all λe=>(match ca e.1 with|.ref a=>a == e.2|ϊ=>false) && PySem.W.subIn K (.ref e.2) (.ref T.C) == ↑true)=true):∃T:ECls K mg W,∀c C,cs.lookup c=↑C->ca c=.ref C/\PySem.W.subIn K (.ref C) (.ref T.C)=↑true:={T,λc C b=>by
 have h:=Ò.mp h _<|ĉ b;rw[Æ]at h;refine{?_,eq_of_beq h.2};have h:=h.1;cases e:ca c with
 |ref a=>erw[e]at h;rw[eq_of_beq h]|_=>erw[e]at h;cases h}
theorem A6{G:Gx}{lv:Nat}{P:Program}{w:World}{K:q9}{mg:Str->Option Value}{base:Heap}{ca:Str->Value}
  (co:∀x t,G.co.lookup x=↑t->∃u v,mg x=↑u/\Ak v u/\∀F:Hp,Rp K F F t v R0:=by exact DC)
  (cl:∀c∈G.cl,Cls K c.2.1/\∀f∈c.2.2,B7 K c.2.1 f:=by exact Az)
  (mt:∀c∈G.mt,c.2.2.2.lv<=lv/\Nonempty (MetX P w K mg base c.2.1 c.1 c.2.2.2.lv c.2.2.2.ps<|Bp K ca c.2.2.2.g):=by exact Az)
  (nw:∀x F ds,G.nw.lookup x=↑(F,ds)->F.lv+1<=lv/\∃(C:Addr) (D:NewX P w K mg base x C F.lv F.ps<|Kc K ca C F.g),∀k dts,ds.lookup k=↑dts->∃dvs us,Cn K D.fd F.ps us/\Al dvs us/\∀H:Hp,Am K H dts dvs:=by exact NV)
  (sf:∀C fs,G.sf=↑(C,fs)->Cls K C/\∀f∈fs,B7 K C f:=by exact(λϊ ϊ h=>by cases h))
  (xs:∀W cs,G.xs.lookup W=↑cs->∃T:ECls K mg W,∀c C,cs.lookup c=↑C->ca c=.ref C/\PySem.W.subIn K (.ref C) (.ref T.C)=↑true:=by exact DC)
  (sb:∀D tb,G.sb.lookup D=↑tb->∃A:Addr,mg D=↑(.ref A)/\∀C b,tb.lookup C=↑b->ExcK K C/\PySem.W.kitOne K (.ref C) (.ref A)=↑b:=by exact DC)
  (sv:∀D tb,G.sv.lookup D=↑tb->mg D=none/\∃t,bootBuiltins D=↑(.type t)/\∀C b,tb.lookup C=↑b->ExcK K C/\PySem.W.kitOne K (.ref C) (.type t)=↑b:=by exact DC)
  (ci:∀x tb,G.ci.lookup x=↑tb->∃D:Addr,mg x=↑(.ref D)/\(∀C b,tb.lookup C=↑b->ICls K C/\PySem.W.kitOne K (.ref C) (.ref D)=↑b)/\(Md.all λa=>PySem.W.kitOne K (.type a) (.ref D) == ↑false)=true:=by exact DC)
  (x2:∀W1 W2 cs,(W1,W2,cs)∈G.x2->∃(T1:ECls K mg W1) (T2:ECls K mg W2),∀c C,cs.lookup c=↑C->ca c=.ref C/\PySem.W.subIn K (.ref C) (.ref T1.C)=↑false/\PySem.W.subIn K (.ref C) (.ref T2.C)=↑true:=by exact(λϊ ϊ ϊ h=>by cases h))
  (wd:∀x F,G.wd.lookup x=↑F->F.lv<=lv/\∃p,F.ps=[p]/\Nonempty (DefS P w K mg base F.lv x p<|Bp K ca F.g):=by exact DC)
  (ti:∀C∈G.ti,TiOk K C:=by exact Az)
  (dn:∀x y,G.dn.lookup x=↑y->y.1.lv<=lv/\∃(D:DefX P w K mg base y.1.lv x y.1.ps<|Bp K ca y.1.g) (dvs:qE),DefsX K D.fd y.1.ps dvs/\∀H:Hp,Am K H y.2 dvs:=by exact DC)
  (rn:True:=trivial)
  : GxOk G lv P w K mg base ca:={(co),cl,mt,nw,sf,xs,sb,sv,ci,x2,wd,ti,dn,rn}
theorem scM{N ps:ky}{a:Scope}(h:(a.kind=.function/\a.isCoroutine=false/\a.isGenerator=false)/\N.Nodup/\N.take ps.length=ps/\(∀x∈ps,a.names.lookup x=↑.local\/a.names.lookup x=↑.cell)/\∀y∈a.names,y.2≠.free):FnScope N ps a:={(h.1.1),h.1.2.1,h.1.2.2,h.2.1,h.2.2.1,h.2.2.2.1,h.2.2.2.2}
class Qx (P:outParam Program) (w:outParam World) (K:outParam q9) (mg:outParam<|Str->Option Value) (base:outParam Heap) (ca:outParam<|Str->Value):Prop where
  c:∀(x:Str) (u:Value),W.nsIn K mainGlobals x=↑↑u->mg x=↑u
  n:∀x:Str,W.nsIn K mainGlobals x=↑none->mg x=none
structure Ck(J:Gm)(f:Fn)(st:Stmt)(u:AH):Prop where
 s:FnScope J.N f.ps<|DY st:=by exact scM (by decide +kernel)
 k:Oc 200 J (Ht st)=↑u:=by ext
 n:J.nm=(DY st).names:=by rfl
def AV{P:Program}{w:World}{K:q9}{mg:Str->Option Value}{base:Heap}{ca:Str->Value}{k:Nat}{x:Str}{a:Fn}{l:List<|Str×Fn}(D:DefX P w K mg base a.lv x a.ps<|Bp K ca a.g)(r:∀f F,l.lookup f=↑F->F.lv<=k/\Nonempty (DefX P w K mg base F.lv f F.ps<|Bp K ca F.g))(hk:a.lv<=k:=by decide) :
  ∀f F,((x,a)::l).lookup f=↑F->F.lv<=k/\Nonempty (DefX P w K mg base F.lv f F.ps<|Bp K ca F.g):=zj8 hk D r
abbrev gF(x a:Str)(s:Stmt)(d:Value)(m:Str)(t c:Nat)(y:Value):FuncData:=W.fnOf x a (Oa s) (Ht s) (DY s) d .none .none (.str m t) none (.ref c) y
def fO(a b:Str)(s:Stmt)(d:Value)(m:Str)(t c:Nat)(y:Value):Obj:={(.type "function"),none,(.func<|gF a b s d m t c y),Array.mk []}
def gO(a:Str)(s:Stmt)(m:Str)(t c:Nat):Obj:=fO a a s .none m t c .none
def c7(K:q9)(b:Str):Bool:=match W.nsIn K mainGlobals b with
 |some none=>true|ϊ=>false
def HR(K:q9)(x:Str)(a:Addr):Bool:=match W.nsIn K mainGlobals x with
 |some (↑(.ref b))=>b == a|ϊ=>false
def Jt(K:q9)(b:Str)(a c:Nat)(J:Gm)(f:Fn):Bool:=W.codeIn K (.ref c) b && W.keepIn K (.ref a) && J.bl.all (c7 K) && J.ce.all (λx=>J.nm.lookup x == ↑.cell) && !J.mu && (J.lv+1 == f.lv)
structure Chk(K:q9)(mg:Str->Option Value)(qual:Str)(a c:Nat)(J:Gm)(f:Fn):Prop where
 c:W.codeIn K (.ref c) qual=true
 k:W.keepIn K (.ref a)=true
 b:∀b∈J.bl,mg b=none
 e:∀x∈J.ce,J.nm.lookup x=↑.cell
 m:J.mu=false
 l:J.lv+1=f.lv
def zqw{P:Program}{w:World}{K:q9}{mg:Str->Option Value}{base:Heap}{ca:Str->Value} [q:Qx P w K mg base ca]{d:Str}{a c:Nat}{J:Gm}{f:Fn}(h:Jt K d a c J f=true):Chk K mg d a c J f:=by
 unfold Jt at h;erw[Æ,Ò]at h;let(((((e,g),i),j),k),l):=h;refine{e,g,λb m=>q.n b ?_,λx n=>eq_of_beq<|j x n,Cq k,eq_of_beq l}
 have:=i b m;unfold c7 at this;split at this;assumption;cases this
set_option tactic.hygienic true in
def Yb{P:Program}{w:World}{K:q9}{mg:Str->Option Value}{base:Heap}{ca:Str->Value} [q:Qx P w K mg base ca]{x:Str}{a:Addr}(h:HR K x a=true):mg x=↑(.ref a):=by
 unfold HR at h;split at h;rename_i b e;rw[<- eq_of_beq h];exact q.c _ _ e;cases h
structure AY(P:Program)(w:World)(K:q9)(mg:Str->Option Value)(base:Heap)(ca:Str->Value)(x qual:Str)(st:Stmt)(d:Value)(mo:Str)(t c:Nat)(y:Value)(J:Gm)(f:Fn)(V:Params->Obj)(a:Addr):Prop where
 fs:∀g F,J.fns.lookup g=↑F->F.lv<=J.lv/\Nonempty (DefX P w K mg base F.lv g F.ps<|Bp K ca F.g)
 gx:GxOk J.ox J.lv P w K mg base ca
 ex:∀c∈J.ex,∃T:ECls K mg c,ca c=.ref T.C/\EI K T.C=↑none
 ms:∀g F,J.mus.lookup g=↑F->F.lv<=J.lv/\Nonempty (DefX P w K mg base F.lv g F.ps<|Gg K ca F.g)
 h:Chk K mg qual a c J f
 F:FunD K x qual st a<|gF x qual st d mo t c y
section
variable {P:Program}{w:World}{K:q9}{mg:Str->Option Value}{base:Heap}{ca:Str->Value} [q:Qx P w K mg base ca]{x mo qual:Str}{st:Stmt}{t c:Nat}{d y:Value}{J:Gm}{f:Fn}{u:AH}{V:Params->Obj}{a C:Addr}{fs:ky}
theorem Wb(b:∀g F,J.fns.lookup g=↑F->F.lv<=J.lv/\Nonempty (DefX P w K mg base F.lv g F.ps<|Bp K ca F.g))(e:GxOk J.ox J.lv P w K mg base ca)(hex:∀c∈J.ex,∃T:ECls K mg c,ca c=.ref T.C/\EI K T.C=↑none)(i:∀g F,J.mus.lookup g=↑F->F.lv<=J.lv/\Nonempty (DefX P w K mg base F.lv g F.ps<|Gg K ca F.g))
  (j:V w.params=fO x qual st d mo t c y) (l:K.lookup a=↑(V w.params)) (h:Jt K qual a c J f=true):AY P w K mg base ca x qual st d mo t c y J f V a:=
 have h:=zqw h
 {b,e,hex,i,h,zm3 (l.trans<|congrArg some j) h.c h.k}
def Aq(e:∀g F,J.fns.lookup g=↑F->F.lv<=J.lv/\Nonempty (DefX P w K mg base F.lv g F.ps<|Bp K ca F.g))(i:GxOk J.ox J.lv P w K mg base ca)(hex:∀c∈J.ex,∃T:ECls K mg c,ca c=.ref T.C/\EI K T.C=↑none:=by exact Az)(j:∀g F,J.mus.lookup g=↑F->F.lv<=J.lv/\Nonempty (DefX P w K mg base F.lv g F.ps<|Gg K ca F.g):=by exact TH)
  (n:V w.params=fO x x st d mo t c y:=by exact rfl) (l:K.lookup a=↑(V w.params):=by ext) (h:Jt K x a c J f=true:=by ext) (m:HR K x a=true:=by ext) (k:f.g=AZ f.ps.length J.N.length u:=by rfl)
  (b:Cn K (gF x x st d mo t c y) f.ps []):AY P w K mg base ca x x st d mo t c y J f V a/\HR K x a=true/\f.g=AZ f.ps.length J.N.length u/\Cn K (gF x x st d mo t c y) f.ps []:={Wb e i hex j n l h,m,k,b}
def D0(e:∀g F,J.fns.lookup g=↑F->F.lv<=J.lv/\Nonempty (DefX P w K mg base F.lv g F.ps<|Bp K ca F.g))(i:GxOk J.ox J.lv P w K mg base ca)(hex:∀c∈J.ex,∃T:ECls K mg c,ca c=.ref T.C/\EI K T.C=↑none:=by exact Az)(j:∀g F,J.mus.lookup g=↑F->F.lv<=J.lv/\Nonempty (DefX P w K mg base F.lv g F.ps<|Gg K ca F.g):=by exact TH)
  (m:V w.params=fO x qual st d mo t c y:=by exact rfl) (l:K.lookup a=↑(V w.params):=by ext) (h:Jt K qual a c J f=true:=by ext) (me:Meth K C x a:=by exact{by ext,by ext,by ext}) (k:f.g=AZ f.ps.length J.N.length u:=by rfl)
  (b:Cn K (gF x qual st d mo t c y) f.ps []):AY P w K mg base ca x qual st d mo t c y J f V a/\Meth K C x a/\f.g=AZ f.ps.length J.N.length u/\Cn K (gF x qual st d mo t c y) f.ps []:={Wb e i hex j m l h,me,k,b}
def Ou{z:Str}(b:∀g F,J.fns.lookup g=↑F->F.lv<=J.lv/\Nonempty (DefX P w K mg base F.lv g F.ps<|Bp K ca F.g))(e:GxOk J.ox J.lv P w K mg base ca)(hex:∀c∈J.ex,∃T:ECls K mg c,ca c=.ref T.C/\EI K T.C=↑none:=by exact Az)(i:∀g F,J.mus.lookup g=↑F->F.lv<=J.lv/\Nonempty (DefX P w K mg base F.lv g F.ps<|Gg K ca F.g):=by exact TH)
  (k:V w.params=fO x qual st d mo t c y:=by exact rfl) (l:K.lookup a=↑(V w.params):=by ext) (h:Jt K qual a c J f=true:=by ext) (m:HR K z C=true:=by ext) (ma:Mk K C a:=by exact{by ext,by ext,by ext,by ext}) (j:f.g=E7 C fs f.ps.length J.N.length u:=by rfl):AY P w K mg base ca x qual st d mo t c y J f V a/\HR K z C=true/\Mk K C a/\f.g=E7 C fs f.ps.length J.N.length u:={Wb b e hex i k l h,m,ma,j}
def Ap(V:Params->Obj)(a:Addr)(S:Ck J f st u)(A:AY P w K mg base ca x x st d mo t c y J f V a/\HR K x a=true/\f.g=AZ f.ps.length J.N.length u/\Cn K (gF x x st d mo t c y) f.ps []):DefX P w K mg base f.lv x f.ps<|Bp K ca f.g:=
 {a,_,by rw[A.2.2.1,<- A.1.h.l];exact g9 A.1.F S.s rfl S.n A.1.h.e rfl A.1.h.b A.1.fs A.1.ex A.1.ms A.1.h.m A.1.gx S.k,Yb A.2.1,A.1.h.k,A.2.2.2}
def DX(V:Params->Obj)(a:Addr)(S:Ck J f st u)(cl:Cls K C)(A:AY P w K mg base ca x qual st d mo t c y J f V a/\Meth K C x a/\f.g=AZ f.ps.length J.N.length u/\Cn K (gF x qual st d mo t c y) f.ps []):MetX P w K mg base C x f.lv f.ps<|Bp K ca f.g:=
 {a,_,cl,A.2.1,by rw[A.2.2.1,<- A.1.h.l];exact g9 A.1.F S.s rfl S.n A.1.h.e rfl A.1.h.b A.1.fs A.1.ex A.1.ms A.1.h.m A.1.gx S.k,A.2.2.2}
def O9(z:Str)(C:Addr)(fs:ky)(V:Params->Obj)(a:Addr)(S:Ck J f st u)(A:AY P w K mg base ca x qual st d mo t c y J f V a/\HR K z C=true/\Mk K C a/\f.g=E7 C fs f.ps.length J.N.length u):NewX P w K mg base z C f.lv f.ps<|Kc K ca C f.g:=
 {a,gF x qual st d mo t c y,Yb A.2.1,A.2.2.1,by rw[A.2.2.2,<- A.1.h.l];exact zqi A.1.F S.s rfl S.n A.1.h.e rfl A.1.h.b A.1.fs A.1.ex A.1.ms A.1.h.m A.1.gx S.k}
end
def at0:Ar (x::l) 0=↑x:=by
 have:Ar (x::l) 0=↑x:=G2 rfl;exact this
def Hw:Ar (x::y::l) 1=↑y:=by
 have:Ar (x::y::l) 1=↑y:=G2 rfl;exact this
def at2:Ar (x::y::z::l) 2=↑z:=by
 have:Ar (x::y::z::l) 2=↑z:=G2 rfl;exact this
abbrev fr(a b:Int):T:=.tup [.int a,.int b]
section
variable {b:T->AM->Option AM}{body:AH}{mc:AG}
def Ey(I:Nat->AM->Prop)(j:I 0 Y)(p:∀i t Y,ts[i]?=↑t->I i Y->∃τ1,b t Y=↑τ1/\∃τ2,body τ1=↑(.nx τ2)/\I (i+1) τ2):∃Y',BK b body ts Y=↑(.nx Y')/\I ts.length Y':=by
 have e:∀(l:qF) (k:Nat) (Y:AM),ts.drop k=l->k<=ts.length->I k Y->∃Y',BK b body l Y=↑(.nx Y')/\I ts.length Y':=by
  intro l
  induction l with
  |nil=>
   intro k Y hd hk c
   have:k=ts.length:=by
    have:=congrArg List.length hd;simp at this;lia
   subst this;exact{(Y),rfl,c}
  |cons t l q=>
   intro k Y hd hk c
   have a:k<ts.length:=by
    have:=congrArg List.length hd;simp at this;lia
   rw[ı a]at hd;injection hd with m n;let(τ1,f,τ2,g,d):=p k t Y (by rw[Á a,m]) c;let(Y',h,o):=q (k+1) τ2 n a d;exact{Y',by unfold BK;erw[f,g];exact h,o}
 exact e ts 0 Y rfl (ò _) j
def zh0(I:Nat->AM->Prop)(d:T->Prop)(n:I 0 Y)(r:∀i t Y,ts[i]?=↑t->I i Y->∃τ1,b t Y=↑τ1/\((∃τ2,(body τ1=↑(.nx τ2)\/body τ1=↑(.ct τ2))/\I (i+1) τ2)\/∃v,body τ1=↑(.rt v)/\d v)) :
  (∃Y',BK b body ts Y=↑(.nx Y')/\I ts.length Y')\/∃v,BK b body ts Y=↑(.rt v)/\d v:=by
 have m:∀(l:qF) (k:Nat) (Y:AM),ts.drop k=l->k<=ts.length->I k Y->(∃Y',BK b body l Y=↑(.nx Y')/\I ts.length Y')\/∃v,BK b body l Y=↑(.rt v)/\d v:=by
  intro l
  induction l with
  |nil=>
   intro k Y hd hk h
   have:k=ts.length:=by
    have:=congrArg List.length hd;simp at this;lia
   subst this;exact .inl {(Y),rfl,h}
  |cons t l u=>
   intro k Y hd hk h
   have c:k<ts.length:=by
    have:=congrArg List.length hd;simp at this;lia
   rw[ı c]at hd;injection hd with o p;let(τ1,e,q):=r k t Y (by rw[Á c,o]) h;rcases q with ⟨τ2,a,j⟩|⟨v,a,s⟩;rcases u (k+1) τ2 p c j with ⟨Y',f,g⟩|⟨v,f,g⟩;refine .inl {Y',?_,g};unfold BK;rcases a with a|a<;>erw[e,a]<;>exact f;refine .inr {v,?_,g};unfold BK;rcases a with a|a<;>erw[e,a]<;>exact f;exact .inr {v,by unfold BK;erw[e,a],s}
 exact m ts 0 Y rfl (ò _) n
def zka(I:AM->Prop)(μ:AM->Nat)(i:I Y)(k:∀Y,I Y->(∃bb,mc Y=↑(.v (.bl true) bb)/\∃τ2,body Y=↑(.nx τ2)/\I τ2/\μ τ2<μ Y)\/∃bb,mc Y=↑(.v (.bl false) bb)) :
  ∃Y',Em mc body Y=↑(.nx Y')/\I Y'/\∃bb,mc Y'=↑(.v (.bl false) bb):=by
 have c:∀(n:Nat) (Y:AM),μ Y<n->I Y->∃Y',Cz mc body n Y=↑(.nx Y')/\I Y'/\∃bb,mc Y'=↑(.v (.bl false) bb):=by
  intro n
  induction n with
  |zero=>intro Y h;exact absurd h (Nat.not_lt_zero _)|succ n l=>
   intro Y o d;rcases k Y d with ⟨bb,a,τ2,f,b,m⟩|⟨bb,a⟩;let(Y',g,j):=l τ2 (by lia) b;exact{Y',by unfold Cz;erw[a,f];exact g,j};exact{Y,by unfold Cz;erw[a],d,bb,a}
 let(Y',e,h):=c (μ Y+1) Y (ċ _) i;exact{Y',Y2 e,h}
def Nv(I:Nat->AM->Prop)(f )(j:I 0 Y)(o:∀i t Y,ts[i]?=↑t->I i Y->∃τ1,b t Y=↑τ1/\me τ1=↑(.v (f i) false)/\I (i+1) τ1) :
  CW b (mC<|.bl true) me ts Y=↑((List.range ts.length).map f):=by
 have d:∀(l ) (k ) (Y ),ts.drop k=l->k<=ts.length->I k Y->CW b (mC<|.bl true) me l Y=↑((List.range' k l.length).map f):=by
  intro l
  induction l with
  |nil=>intro k Y _ _ _;rfl|cons t l p=>
   intro k Y hd hk n
   have a:k<ts.length:=by
    grind
   rw[ı a]at hd;injection hd with q m;let(τ1,e,g,c):=o k t Y (by grind) n;have h:=p (k+1) τ1 m a c;unfold CW;erw[e,mC,g,h];rfl
 have:=d ts 0 Y rfl (ò _) j;rw[this,<- List.range_eq_range']
end
def J5{i j:Int}(h:Fe j=true):Bq i j=true:=by unfold Bq;grind
def HZ{i j:Int}(h:Fe i=true):Bq i j=true:=by unfold Bq;grind
def zli(a:DK i=true)(b:DK j=true):Bq i j=true:=by unfold Bq;grind
def DR(a:-(2 ^ 64)<i)(b:i<2 ^ 64):Fe i=true:=@decide_eq_true _ (Classical.propDecidable _) {(a),b}
def EO(a:-(10 ^ 70)<i)(b:i<10 ^ 70):DK i=true:=@decide_eq_true _ (Classical.propDecidable _) {(a),b}
def fm{i j:Int}(h:0<j):i.fmod j=i % j:=Int.fmod_eq_emod_of_nonneg i<|by lia
def fd{i j:Int}(h:0<j):i.fdiv j=i / j:=Int.fdiv_eq_ediv_of_nonneg i<|by lia
def DW{i j:Int}:BM (.int i) (.int j)=↑(.bl<|i == j):=by
 rfl
def HX{i j:Int}:DV (.int i) (.int j)=↑(.bl<|!(i == j)):=by
 rfl
mutual
noncomputable def EC:PyData->Bool
 |.bool ϊ=>false|.dict ϊ=>false|.list xs=>HY xs|.tuple xs=>HY xs|ϊ=>true
noncomputable def HY:List PyData->Bool
 |[]=>true|x::xs=>EC x && HY xs
end
mutual
theorem jT:∀d d':PyData,EC d=true->EC d'=true->(PyData.eqv d d'=true ↔ d=d')
 |.none,d',ϊ,a=>by cases d'<;>simp[PyData.eqv,EC]at a ⊢|.int i,d',ϊ,a=>by cases d'<;>simp[PyData.eqv,EC]at a ⊢|.str x,d',ϊ,a=>by cases d'<;>simp[PyData.eqv,EC]at a ⊢|.bool ϊ,ϋ,h,ό=>by simp[EC]at h|.dict ϊ,ϋ,h,ό=>by simp[EC]at h|.list xs,d',h,a=>by
  cases d' with
  |list b=>
   have:=V2 xs b (by simpa[EC] using h)<|by simpa[EC] using a
   erw[PyData.eqv];rw[this];simp
  |_=>simp[PyData.eqv,EC]at a ⊢
 |.tuple xs,d',h,a=>by
  cases d' with
  |tuple b=>
   have:=V2 xs b (by simpa[EC] using h)<|by simpa[EC] using a
   erw[PyData.eqv];rw[this];simp
  |_=>simp[PyData.eqv,EC]at a ⊢
theorem V2:∀xs ys:List PyData,HY xs=true->HY ys=true->(PyData.eqvAll xs ys=true ↔ xs=ys)
 |[],[],ϊ,ϋ=>by simp[PyData.eqvAll]|[],ϊ::ϋ,ό,ύ=>by simp[PyData.eqvAll]|ϊ::ϋ,[],ό,ύ=>by simp[PyData.eqvAll]|x::xs,y::ys,a,b=>by
  erw[HY,Æ]at a b;have c:=jT x y a.1 b.1;have d:=V2 xs ys a.2 b.2;erw[PyData.eqvAll,Æ,c,d,List.cons.injEq]
end
structure Fit(t:T)(n:Nat):Prop where
 fit:Ef t=true
 nb:EC t.data=true
 dep:t.data.depth<=n
def jN:∀{l} {n},(∀t∈l,Fit t n)->(En l=true/\PyData.canLayAll0 (Bi l)=true)/\HY (Bi l)=true/\PyData.depthAll (Bi l)<=n
 |[],n,ϊ=>{{(rfl),rfl},rfl,ò _}|t::r,n,h=>by
  let(a,c,f):=h t (Ï ..);let((b,g1),g2,e):=jN λx d=>h x<|Í _ d
  unfold Ef at a;rw[Æ]at a;refine{{by rw[En,a.1,b];rfl,by rw[Bi,PyData.canLayAll0,a.2,g1];rfl},by rw[Bi,HY,c,g2];rfl,?_};rw[Bi,PyData.depthAll];lia
def Fit.nd(h:∀t∈l,Fit t n):Fit (.nd o k l)<|n+1:=by
 let(g1,g2,a):=jN h;cases k<;>exact{by simpa[Ef,T.data,T.pln,PyData.canLay0] using g1,by simpa[T.data,EC] using g2,by simpa[T.data,PyData.depth] using a}
open Classical in
def zqo{t u:T}{n m:Nat}(h:Fit t n)(a:Fit u m)(b:n<=60):BM t u=↑(.bl<|decide (t.data=u.data))/\DV t u=↑(.bl<|!decide (t.data=u.data)):=by
 have ok:Im t u=true:=by
  unfold Im;rw[h.fit,a.fit,Ì (by have:=h.dep;lia)];rfl
 have e:Le t u=decide (t.data=u.data):=by
  unfold Le;rw[Bool.eq_iff_iff,jT _ _ h.nb a.nb];simp
 unfold BM DV;rw[if_pos ok,if_pos ok,e];exact{(rfl),rfl}
def JP:∀ns:kz,BP (ns.map T.int)=ns.map T.int
 |[]=>rfl|n::r=>by rw[Ö,BP,JP r];rfl
def Kf:∀ns:kz,AX (ns.map T.int)=true
 |[]=>rfl|n::r=>by rw[Ö,AX,Kf r];rfl
def YJ(ns):(B3 ns).share=B3 ns:=by unfold B3;rw[T.share,JP]
def YK(ns):(B3 ns).sh=true:=by unfold B3;rw[T.sh,Kf];rfl
def Iq{x:α}(a:0<=k)(h:l[k.toNat]?=↑x):Ar l k=↑x:=by
 have:Ar l ((k.toNat:Nat):Int)=↑x:=G2 h;rwa[Int.toNat_of_nonneg a]at this
def zm9(f:α->β)(l)(lo hi):C9 (l.map f) lo hi=(C9 l lo hi).map f:=by
 unfold C9;simp
def zma(l:List α)(lo hi):(C9 l lo hi).length<=l.length:=by
 unfold C9;rw[û,List.length_drop];exact Õ (Nat.min_le_right ..) (Nat.sub_le ..)
end Pu
namespace Zm
end Zm
namespace Db
open PySem
def Sz(a b):((a &&& b) % 2=1) ↔ (a % 2=1/\b % 2=1):=Nat.and_mod_two_eq_one
def Kw(a:Nat):(a:Int) % 2=1 ↔ a % 2=1:=by lia
def Kv(a:Nat):(Int.negSucc a) % 2=1 ↔ ¬ a % 2=1:=by lia
def Z8(a c:Nat):((a:Int) - c) % 2=1 ↔ ¬ (a % 2=1 ↔ c % 2=1):=by lia
def zjp(x y):Builtin.bitAnd x y % 2=1 ↔ (x % 2=1/\y % 2=1):=by
 have d:∀a:Nat,Builtin.bitNot (Int.negSucc a)=(a:Int):=λa=>by
  unfold Builtin.bitNot;lia
 cases x with
 |ofNat a=>
  cases y with
  |ofNat b=>show((a &&& b:Nat):Int) % 2=1 ↔ ((a:Int) % 2=1/\(b:Int) % 2=1);rw[Kw,Kw,Kw,Sz]|negSucc b=>show((a:Int) - ((a &&& (Builtin.bitNot<|Int.negSucc b).toNat:Nat):Int)) % 2=1 ↔ ((a:Int) % 2=1/\(Int.negSucc b) % 2=1);rw[d,Ĉ,Z8,Kw,Kv,Sz];exact{λh=>{Classical.byContradiction λz=>h {λq=>absurd q z,λq=>q.1},λz=>h {λq=>{(q),z},λq=>q.1}},λh z=>h.2 (z.mp h.1).2}
 |negSucc a=>
  cases y with
  |ofNat b=>show((b:Int) - ((b &&& (Builtin.bitNot<|Int.negSucc a).toNat:Nat):Int)) % 2=1 ↔ ((Int.negSucc a) % 2=1/\(b:Int) % 2=1);rw[d,Ĉ,Z8,Kw,Kv,Sz];exact{λh=>{λz=>h {λq=>{(q),z},λq=>q.1},Classical.byContradiction λz=>h {λq=>absurd q z,λq=>q.1}},λh z=>h.1 (z.mp h.2).2}|negSucc b=>
   show(Builtin.bitNot (((Builtin.bitNot<|Int.negSucc a).toNat ||| (Builtin.bitNot<|Int.negSucc b).toNat:Nat):Int)) % 2=1 ↔ _
   have nb:∀c:Nat,Builtin.bitNot (c:Int)=Int.negSucc c:=λc=>by
    unfold Builtin.bitNot;lia
   rw[d,d,Ĉ,Ĉ,nb,Kv,Kv,Kv,Nat.or_mod_two_eq_one];exact not_or
def zjo(x):Builtin.bitAnd x 1=x % 2:=by
 cases x with
 |ofNat a=>
  show((a &&& 1:Nat):Int)=(a:Int) % 2;rw[Nat.and_one_is_mod];rfl
 |negSucc a=>
  show((1:Nat):Int) - (((1:Nat) &&& (Builtin.bitNot<|Int.negSucc a).toNat:Nat):Int)=_;rw[show Builtin.bitNot (Int.negSucc a)=a by unfold Builtin.bitNot;lia,Ĉ,Nat.and_comm,Nat.and_one_is_mod];lia
def bor_one(x y):Builtin.bitAnd (Builtin.bitOr x y) 1=max (x % 2) (y % 2):=by
 rw[zjo];have h:=zjp (Builtin.bitNot x)<|Builtin.bitNot y;unfold Builtin.bitOr;change Builtin.bitAnd (Builtin.bitNot x) (Builtin.bitNot y)=c
 have nb:∀z:Int,Builtin.bitNot z % 2=1 - z % 2:=λz=>by
  unfold Builtin.bitNot;lia
 rw[nb,nb]at h;rw[nb];rcases Ĺ x with e|e<;>rcases Ĺ y with f|f<;>rw[e,f]at h ⊢<;>rcases Ĺ c with g|g<;>rw[g]at h ⊢<;>revert h<;>decide
def bs(a b:Int):Int:=2 * (a / 2+b / 2)+min (a % 2) (b % 2)
def bs_eq(a b:Int):a+b - max (a % 2) (b % 2)=bs a b:=by unfold bs;lia
def zqx(a:Int):bs a 1=a:=by unfold bs;lia
def Z3(a:Int):bs 1 a=a:=by unfold bs;lia
def zmf(a b:Int):bs a b=bs b a:=by unfold bs;lia
def dS(a b:Int):min (a % 2) (b % 2)=0\/min (a % 2) (b % 2)=1:=by
 rcases Ĺ a with e|e<;>rcases Ĺ b with f|f<;>rw[e,f]<;>decide
def W5(a b:Int):bs a b / 2=a / 2+b / 2:=by
 have h:=dS a b;unfold bs;change a / 2+b / 2=k;change min (a % 2) (b % 2)=m;lia
def kS(a b:Int):bs a b % 2=min (a % 2) (b % 2):=by
 have h:=dS a b;unfold bs;change a / 2+b / 2=k;change min (a % 2) (b % 2)=m;lia
def zjn(a b c):bs (bs a b) c=bs a (bs b c):=by
 show 2 * (bs a b / 2+c / 2)+min (bs a b % 2) (c % 2)=2 * (a / 2+bs b c / 2)+min (a % 2) (bs b c % 2);rw[W5,W5,kS,kS,Int.add_assoc,Int.min_assoc]
def zme(h:a<=a')(c:b<=b'):bs a b<=bs a' b':=by unfold bs;lia
abbrev B:=kj
def le:B->B->Prop
 |ϊ,none=>True|none,↑ϊ=>False|some a,↑b=>a<=b
def add:B->B->B
 |some a,↑b=>↑(bs a b)|ϊ,ϋ=>none
def mn:B->B->B
 |none,b=>b|some a,none=>↑a|some a,↑b=>↑(min a b)
def le_refl(a:B):le a a:=by cases a<;>simp[le]
def le_trans(h:le a b)(d:le b c):le a c:=by
 cases a<;>cases b<;>cases c<;>simp_all [le];lia
def le_anti(h:le a b)(c:le b a):a=b:=by
 cases a<;>cases b<;>simp_all [le];lia
def add_mono(h:le a b)(e:le c d):le (add a c)<|add b d:=by
 cases a<;>cases b<;>cases c<;>cases d<;>simp_all [le,add];exact zme h e
def add_comm(a b:B):add a b=add b a:=by
 cases a<;>cases b<;>simp[add,zmf]
def add_assoc(a b c):add (add a b) c=add a (add b c):=by
 cases a<;>cases b<;>cases c<;>simp[add,zjn]
def Lp(a:B):add a ↑1=a:=by cases a<;>simp[add,zqx]
def IW(a:B):add ↑1 a=a:=by cases a<;>simp[add,Z3]
def GL(a b:B):le (mn a b) a:=by
 cases a<;>cases b<;>simp[le,mn];lia
def Ia(a b:B):le (mn a b) b:=by
 cases a<;>cases b<;>simp[le,mn];lia
def Jb(h:le a b)(d:le a c):le a<|mn b c:=by
 cases a<;>cases b<;>cases c<;>simp_all [le,mn];lia
def mn_of_le{a b:B}(h:le a b):mn a b=a:=le_anti (GL a b)<|Jb (le_refl a) h
def J6(a b):mn a b=a\/mn a b=b:=by
 cases a<;>cases b<;>simp[mn];lia
abbrev Z:=Nat->Nat->B
def free(i j:Nat):B:=if i=0\/i=j then ↑1 else none
def z0(f:Z):Z:=λi j=>mn (f i j)<|free i j
def stp(f:Z)(k:Nat):Z:=λi j=>mn (f i j)<|add (f i k)<|f k j
def fw(f:Z):Nat->Z
 |0=>z0 f|k+1=>stp (fw f k) k
def Brk(n:Nat)(f:Z):Prop:=∃i,i<n/\¬ le ↑1 (f i i)
def Sound(n:Nat)(f:Z):Prop:=∀k,k<n->¬ Brk n (fw f k)
def diag_le(f)(i):∀k,le (fw f k i i) ↑1
 |0=>by
  have h:=Ia (f i i)<|free i i;have e:free i i=↑1:=if_pos<|.inr rfl;rw[e]at h;show le (mn (f i i)<|free i i) _
  grind
 |k+1=>le_trans (GL _ _)<|diag_le f i k
def Ij(f)(i j):∀k,le (fw f k i j)<|f i j
 |0=>GL _ _|k+1=>le_trans (GL _ _)<|Ij f i j k
def gP(f)(i j):∀k,le (fw f k i j)<|z0 f i j
 |0=>le_refl _|k+1=>le_trans (GL _ _)<|gP f i j k
def V7(h:¬ Brk n (fw f k))(b:i<n):fw f k i i=↑1:=by
 refine le_anti (diag_le f i k) ?_;cases Classical.em (le ↑1<|fw f k i i) with
 |inl a=>exact a|inr a=>exact(h {(i),b,a}).elim
def tri(h:Sound n f):∀k,k<=n->∀i j l,l<k->i<n->j<n->le (fw f k i j) (add (fw f k i l)<|fw f k l j)
 |0,ϊ,ϋ,ό,l,s,ύ,ώ=>by lia|k+1,hk,i,j,l,s,p,q=>by
  have o:=V7 (h k<|by lia)<|show k<n by lia
  have inv:=tri h k<|by lia
  show le (stp (fw f k) k i j)<|add (stp (fw f k) k i l)<|stp (fw f k) k l j;generalize t:fw f k=g at *
  by_cases e:l=k;subst e;have c:stp g l i l=g i l:=by unfold stp;rw[o,Lp];exact mn_of_le<|le_refl _
  have d:stp g l l j=g l j:=by unfold stp;rw[o,IW];exact mn_of_le<|le_refl _
  rw[c,d];exact Ia _ _;have lk:l<k:=by lia
  have r:le (stp g k i j)<|g i j:=GL _ _;have m:le (stp g k i j)<|add (g i k)<|g k j:=Ia _ _
  rcases J6 (g i l) (add (g i k)<|g k l) with c|c<;>rcases J6 (g l j) (add (g l k)<|g k j) with d|d;have:stp g k i l=g i l:=c;have a:stp g k l j=g l j:=d;rw[this,a];exact le_trans r<|inv i j l lk p q
  have b:stp g k i l=g i l:=c;have a:stp g k l j=add (g l k) (g k j):=d;rw[b,a,<- add_assoc];exact le_trans m<|add_mono (inv i k l lk p<|by lia)<|le_refl _
  have b:stp g k i l=add (g i k) (g k l):=c;have a:stp g k l j=g l j:=d;rw[b,a,add_assoc];exact le_trans m<|add_mono (le_refl _)<|inv k j l lk (by lia) q
  have b:stp g k i l=add (g i k) (g k l):=c;have a:stp g k l j=add (g l k) (g k j):=d;rw[b,a,add_assoc,<- add_assoc<|g k l];refine le_trans m<|add_mono (le_refl _) ?_;have:=add_mono (inv k k l lk (by lia)<|by lia)<|le_refl<|g k j
  rw[o,IW]at this;exact this
structure Nar(n:Nat)(f:Z):Prop where
 diag:∀i,i<n->f i i=↑1
 row:∀j,j<n->le (f 0 j) ↑1
 tri:∀i j l,i<n->j<n->l<n->le (f i j) (add (f i l)<|f l j)
def nar(h:Sound n f):Nar n<|fw f n:=by
 have t:=tri h n<|Ä n;refine{λi a=>?_,λj b=>?_,λi j l a b d=>t i j l d a b}
 refine le_anti (diag_le f i n) ?_;cases n with
 |zero=>lia|succ m=>
  have c:=V7 (h m<|by lia)<|show m<m+1 by lia
  have g:=V7 (h m<|by lia) a;refine Jb (by rw[g];exact le_refl _) ?_;by_cases e:i=m;subst e;rw[c];exact le_refl _;have:=Db.tri h m (by lia) m m i (by lia) (by lia)<|by lia
  rw[c,add_comm]at this;exact this
 refine le_trans (gP f 0 j n) ?_;have:=Ia (f 0 j)<|free 0 j;exact this
def nar_fw(h:Nar n f):∀k,k<=n->∀i j,i<n->j<n->fw f k i j=f i j
 |0,ϊ,i,j,a,b=>by
  refine mn_of_le ?_;unfold free;by_cases e:i=0\/i=j;rw[if_pos e];rcases e with rfl|rfl;exact h.row j b;rw[h.diag i a];exact le_refl _;rw[if_neg e];cases f i j<;>simp[le]
 |k+1,hk,i,j,a,b=>by
  have c:=nar_fw h k<|by lia
  show mn (fw f k i j) (add (fw f k i k)<|fw f k k j)=_;rw[c i j a b,c i k a (by lia),c k j (by lia) b];exact mn_of_le<|h.tri i j k a b<|by lia
def nar_sound(h:Nar n f):Sound n f:=by
 intro k hk ⟨i,a,b⟩;rw[nar_fw h k (by lia) i i a a,h.diag i a]at b;exact b<|le_refl _
def sat(D:Int):B->Int->Prop
 |none,ϊ=>True|some c,d=>d<=c / 2 * D - 1+c % 2
set_option tactic.hygienic true in
def zk7(h:sat D a d)(g:sat D b e):sat D (add a b)<|d+e:=by
 cases a<;>cases b<;>erw[sat,add]at *;rename_i a b;have c:bs a b / 2=a / 2+b / 2:=by unfold bs;lia
 have f:bs a b % 2=min (a % 2) (b % 2):=by unfold bs;lia
 rw[c,f,Int.add_mul];lia
set_option tactic.hygienic true in
def sat_le(c:0<D)(h:sat D a d)(e:le a b):sat D b d:=by
 cases a<;>cases b<;>erw[sat,le]at *;rename_i a b;rcases Ļ (a / 2) (b / 2) with q|q;have:(a / 2+1) * D<=b / 2 * D:=į (by lia)<|by lia
 grind;grind
def YO(h:sat D a d)(c:sat D b d):sat D (mn a b) d:=by
 rcases J6 a b with e|e<;>rw[e]<;>assumption
def Lie(n:Nat)(D:Int)(X:Nat->Int)(f:Z):Prop:=∀i j,i<n->j<n->sat D (f i j) (X i - X j)
def eV(d:X 0=0)(e:∀i,i<n->0<=X i)(h:Lie n D X f):∀k,k<=n->Lie n D X (fw f k)
 |0,ϊ,i,j,a,b=>by
  refine YO (h i j a b) ?_;unfold free;split;erw[sat];grind;trivial
 |k+1,hk,i,j,a,b=>by
  have c:=eV d e h k<|by lia
  refine YO (c i j a b) ?_;have:=zk7 (c i k a<|by lia)<|c k j (by lia) b
  grind
def lie_sound(m:0<D)(b:X 0=0)(d:∀i,i<n->0<=X i)(h:Lie n D X f):Sound n f:=by
 intro k hk ⟨i,a,g⟩;have q:=eV b d h k (by lia) i i a a
 refine g ?_;cases e:fw f k i i with
 |none=>trivial|some c=>
  rw[e]at q;erw[sat,le]at *;rcases Ļ (c / 2) 0 with j|j;have:c / 2 * D<=-1 * D:=į (by lia)<|by lia
  lia;rcases Ļ 0 (c / 2) with l|l;lia;grind
def sat_scale(d:0<b)(a:0<D)(h:X * b=t * D)(c):sat b c t ↔ sat D c X:=by
 cases c with
 |none=>exact Iff.rfl|some c=>
  erw[sat];have f:c % 2=0\/c % 2=1:=by lia
  have g:∀m ,t<=m * b ↔ X<=m * D:=by
   intro m;constructor;intro q;have:=į q<|ĩ a;rw[<- h,é,ā b D,<- é]at this;exact Int.le_of_mul_le_mul_right this d
   intro q;have:=į q<|ĩ d;rw[h,é,ā D b,<- é]at this;exact Int.le_of_mul_le_mul_right this a
  have i:∀m ,t<m * b ↔ X<m * D:=by
   intro m;constructor;intro q;have:=Int.mul_lt_mul_of_pos_right q a;rw[<- h,é,ā b D,<- é]at this;exact Int.lt_of_mul_lt_mul_right this<|ĩ d
   intro q;have:=Int.mul_lt_mul_of_pos_right q d;rw[h,é,ā D b,<- é]at this;exact Int.lt_of_mul_lt_mul_right this<|ĩ a
  rcases f with e|e;have:=i<|c / 2
  lia;have:=g<|c / 2
  lia
def satB(D:Int)(c:B)(d:Int):Bool:=match c with
 |none=>true|some c=>decide (d<=c / 2 * D - 1+c % 2)
def satB_iff:satB D c d=true ↔ sat D c d:=by
 cases c<;>simp[satB,sat]
def Sy(h:Nar n f)(a:i<n):le ↑1<|f i 0:=by
 have b:=h.tri i i 0 a a<|by lia
 rw[h.diag i a]at b;have c:=add_mono (le_refl<|f i 0)<|h.row i a;rw[Lp]at c;exact le_trans b c
def zm(M:Nat->B):Nat->B
 |0=>↑0|i+1=>M i
def fldB(c:B)(d b:B):B:=match c with
 |none=>none|some c=>match d with
  |some m=>if m<c / 2 then none else (match b with
   |some a=>if c / 2 < -a then ↑(2 * -a) else ↑c
   |none=>↑c)
  |none=>(match b with
   |some a=>if c / 2 < -a then ↑(2 * -a) else ↑c
   |none=>↑c)
def fld(f:Z)(M:Nat->B):Z:=λi j=>if i=j then f i j else fldB (f i j) (M i) (M j)
def zm4(c mi mj):le c<|fldB c mi mj:=by
 unfold fldB;cases c with
 |none=>trivial|some c=>
  cases mi<;>cases mj<;>simp only;exact le_refl _;split;erw[le];lia;exact le_refl _;split;trivial;exact le_refl _;split;trivial;split;erw[le];lia;exact le_refl _
def fld_le(f)(M)(i j):le (f i j)<|fld f M i j:=by
 unfold fld;split;exact le_refl _;exact zm4 _ _ _
end Db
namespace Db
end Db
namespace Dv
open Db
def ins(f:Z)(a b:Nat)(e:B):Z:=λi j=>mn (f i j)<|add (f i a)<|add e<|f b j
def ins_nar{n:Nat}{f:Z}(h:Nar n f){a b:Nat}{e:B}(m:a<n)(o:b<n)(r:le ↑1<|add (f b a) e):Nar n<|ins f a b e:=by
 have one:∀x y z:B,le ↑1 z->le (add x y) (add (add x z) y):=λx y z s=>by
  have:=add_mono (add_mono (le_refl x) s)<|le_refl y
  rwa[Lp]at this
 refine{λi c=>?_,λj d=>le_trans (GL _ _)<|h.row j d,λi j l c d g=>?_};show mn (f i i) _=_;rw[h.diag i c];refine mn_of_le ?_;have t:=h.tri b a i o m c;refine le_trans r ?_;have k:=add_mono t<|le_refl e;refine le_trans k ?_;rw[add_comm e,<- add_assoc,add_comm<|f b i];exact le_refl _
 have m1:le (ins f a b e i j)<|f i j:=GL _ _;have m2:le (ins f a b e i j)<|add (f i a)<|add e<|f b j:=Ia _ _;have u:ins f a b e i l=f i l\/ins f a b e i l=add (f i a) (add e<|f b l):=J6 _ _;have v:ins f a b e l j=f l j\/ins f a b e l j=add (f l a) (add e<|f b j):=J6 _ _
 rcases u with p|p<;>rcases v with q|q<;>rw[p,q];exact le_trans m1<|h.tri i j l c d g
 refine le_trans m2 ?_;rw[<- add_assoc<|f i l];exact add_mono (h.tri i a l c m g)<|le_refl _
 refine le_trans m2 ?_;rw[add_assoc,add_assoc];exact add_mono (le_refl _)<|add_mono (le_refl _)<|h.tri b j l o d g
 refine le_trans m2 ?_;rw[add_assoc,add_assoc];refine add_mono (le_refl _) ?_;have t:=h.tri b a l o m g;have w:le ↑1<|add (add (f b l)<|f l a) e:=le_trans r<|add_mono t<|le_refl e;have k:=add_mono (le_refl e)<|add_mono w<|le_refl<|f b j;rw[IW]at k;refine le_trans k ?_;rw[add_assoc,add_assoc];exact le_refl _
def Pr(f:Z)(p:Nat->Int)(i j:Nat):Prop:=∃c,f i j=↑c/\c % 2=0/\p i - p j=c / 2
open Classical in
def Fy(n:Nat)(f:Z)(p:Nat->Int)(j:Nat):Nat:=(List.range n).countP λi=>decide (Pr f p i j)
def MT(n:Nat)(f:Z)(p:Nat->Int):Prop:=∀i j c,i<n->j<n->f i j=↑c->p i - p j<=c / 2
def Xm{n:Nat}{f:Z}(h:Nar n f){p:Nat->Int}(m:MT n f p){i k j:Nat}(b:i<n)(hk:k<n)(hj:j<n){c d:Int}(e:f i k=↑c)(l:f k j=↑d)(r:p i - p k=c / 2)(s:p k - p j=d / 2) :
  ∃g,f i j=↑g/\p i - p j=g / 2/\g % 2<=c % 2/\g % 2<=d % 2:=by
 have t:=h.tri i j k b hj hk;rw[e,l]at t;cases a:f i j with
 |none=>rw[a]at t;exact t.elim|some g=>rw[a]at t;have q:=m i j g b hj a;have o:g<=bs c d:=t;unfold bs at o;exact{g,rfl,by lia,by lia,by lia}
def kC{α:Type}{l:List α}{p q:α->Bool}(h:∀x∈l,p x=true->q x=true):l.countP p<=l.countP q:=List.countP_mono_left h
def Va{α:Type}:∀{l:List α} {p q:α->Bool} {a:α},a∈l->(∀x∈l,p x=true->q x=true)->p a=false->q a=true->l.countP p<l.countP q
 |[],ϊ,ϋ,ό,h,ύ,ώ,Ϗ=>by cases h|x::l,p,q,a,h,b,d,e=>by
  rw[List.countP_cons,List.countP_cons];have i:=kC (l:=l) (p:=p) (q:=q) λy c=>b y<|Í _ c;rcases Ñ.mp h with rfl|f
  erw[d,e];simp;lia;have:=Va f (λy c=>b y<|Í _ c) d e;cases g:p x with
  |false=>cases q x<;>simp<;>lia|true=>rw[b x (Ï ..) g];simp;lia
def Si{n:Nat}{f:Z}(h:Nar n f){p:Nat->Int}{j:Nat}(hj:j<n):Fy n f p j<n:=by
 have:=Va (l:=List.range n) (a:=j) (p:=λi=>@decide (Pr f p i j) (Classical.propDecidable _)) (q:=λϊ=>true) (ì.mpr hj) (λϊ ϊ ϊ=>rfl) ?_ rfl;rw[List.countP_eq_length.mpr<|λϊ ϊ=>rfl,ĥ]at this;exact this;refine @decide_eq_false _ (Classical.propDecidable _) ?_;rintro⟨c,e,b,d⟩;rw[h.diag j hj]at e;cases e;lia
def zkc{n:Nat}{f:Z}(h:Nar n f){p:Nat->Int}(q:MT n f p){i j:Nat}(o:i<n)(hj:j<n){c:Int}(e:f i j=↑c)(t:p i - p j=c / 2):Fy n f p i<=Fy n f p j:=by
 refine kC λk hk hd=>?_;have a:=@of_decide_eq_true _ (Classical.propDecidable _) hd;refine @decide_eq_true _ (Classical.propDecidable _) ?_;let(d,b,s,m):=a;let(g,l,r,g1,g2):=Xm h q (ì.mp hk) o hj b e m t;exact{g,l,by lia,r}
def zi4{n:Nat}{f:Z}(h:Nar n f){p:Nat->Int}(u:MT n f p){i j:Nat}(m:i<n)(hj:j<n){c:Int}(e:f i j=↑c)(o:c % 2=0)(t:p i - p j=c / 2):Fy n f p i<Fy n f p j:=by
 refine Va (a:=i) (ì.mpr m) (λk hk hd=>?_) ?_ ?_;have l:=@of_decide_eq_true _ (Classical.propDecidable _) hd;refine @decide_eq_true _ (Classical.propDecidable _) ?_;let(d,b,s,q):=l;let(g,r,v,g1,g2):=Xm h u (ì.mp hk) m hj b e q t;exact{g,r,by lia,v}
 refine @decide_eq_false _ (Classical.propDecidable _) ?_;rintro⟨d,b,s,q⟩;rw[h.diag i m]at b;cases b;lia;exact @decide_eq_true _ (Classical.propDecidable _) {(c),e,o,t}
def vals_of{n:Nat}{f:Z}(h:Nar n f){p:Nat->Int}(d:MT n f p){u:Int}(k:(n:Int)<=u):∃q:Nat->Int,(∀i,i<n->0<=q i/\q i<n)/\Lie n u (λi=>p i * u+q i) f:=by
 refine{λi=>(Fy n f p i:Nat),λi a=>{Int.natCast_nonneg _,Int.ofNat_lt.mpr<|Si h (p:=p) a},λi j a b=>?_};cases e:f i j with
 |none=>trivial|some c=>
  erw[sat];have l:=Si h (p:=p) a;have m:=Si h (p:=p) b;have q:=d i j c a b e
  have g:p i * u+(Fy n f p i:Int) - (p j * u+(Fy n f p j:Int))=(p i - p j) * u+((Fy n f p i:Int) - Fy n f p j):=by
   rw[Int.sub_mul];lia
  rw[g];by_cases t:p i - p j=c / 2;rw[t];have r:=zkc h d a b e t
  by_cases o:c % 2=0;have s:=zi4 h d a b e o t;lia;lia;have:(p i - p j+1) * u<=c / 2 * u:=į (by lia)<|by lia
  rw[Int.add_mul,Int.one_mul]at this;lia
def low(f:Z)(j:Nat):Int:=match f 0 j with
 |some c=>-(c / 2)|none=>0
def low_feas{n:Nat}{f:Z}(h:Nar n f)(m:0<n):MT n f (low f)/\low f 0=0:=by
 refine{λi j c k l e=>?_,?_};have t:=h.tri 0 j i m l k;have o:=h.row i k;have p:=h.row j l;unfold low;cases d:f 0 i with
 |none=>rw[d]at o;exact o.elim|some a=>
  cases g:f 0 j with
  |none=>rw[g]at p;exact p.elim|some b=>
   rw[d,g,e]at t;have q:b<=bs a c:=t;unfold bs at q;simp only
   lia
 unfold low;rw[h.diag 0 m];rfl
abbrev Lim:=Nat×Nat×Int
def In(n:Nat)(L:List Lim):Prop:=∀x∈L,x.1<n/\x.2.1<n
section
end
end Dv
namespace Dm
open Db
def wtd(f:Z):Z:=λi j=>if 0<i/\j=0 then none else f i j
def pbk(f:Z)(s:Nat->Nat):Z:=λi j=>f (s i)<|s j
def frd(f:Z)(p:Nat):Z:=λi j=>if i=p/\j≠p then none else f i j
def Fi(a:B):le a none:=by cases a<;>trivial
def wtd_le(f:Z)(i j:Nat):le (f i j)<|wtd f i j:=by
 unfold wtd;split;exact Fi _;exact le_refl _
def frd_le(f:Z)(p i j:Nat):le (f i j)<|frd f p i j:=by
 unfold frd;split;exact Fi _;exact le_refl _
def lJ(a:B):add a none=none:=by cases a<;>rfl
def c4(a:B):add none a=none:=rfl
def wtd_nar{n:Nat}{f:Z}(h:Nar n f):Nar n<|wtd f:=by
 refine{λi a=>?_,λj b=>?_,λi j l a b c=>?_};rw[wtd,if_neg<|by lia];exact h.diag i a;rw[wtd,if_neg<|by lia];exact h.row j b;by_cases e:0<i/\j=0
 have:add (wtd f i l) (wtd f l j)=none:=by
  by_cases d:l=0;rw[show wtd f i l=none by rw[wtd,if_pos {(e.1),d}],c4];rw[show wtd f l j=none by rw[wtd,if_pos {by lia,e.2}],lJ]
 rw[this];exact Fi _;rw[show wtd f i j=f i j by rw[wtd,if_neg e]];exact le_trans (h.tri i j l a b c)<|add_mono (wtd_le f i l)<|wtd_le f l j
theorem pbk_nar{n:Nat}{f:Z}(h:Nar n f){s:Nat->Nat}(a:∀i,i<n->s i<n)(d:s 0=0):Nar n<|pbk f s:=
 {λi b=>h.diag _<|a i b,λj c=>by rw[pbk,d];exact h.row _<|a j c,λi j l b c e=>h.tri _ _ _ (a i b) (a j c)<|a l e}
def frd_nar{n:Nat}{f:Z}(h:Nar n f){p:Nat}(g:0<p):Nar n<|frd f p:=by
 refine{λi a=>?_,λj b=>?_,λi j l a b d=>?_};rw[frd,if_neg<|by lia];exact h.diag i a;rw[frd,if_neg<|by lia];exact h.row j b;by_cases e:i=p/\j≠p
 have:add (frd f p i l) (frd f p l j)=none:=by
  by_cases c:l=p;rw[show frd f p l j=none by rw[frd,if_pos {(c),e.2}],lJ];rw[show frd f p i l=none by rw[frd,if_pos {(e.1),c}],c4]
 rw[this];exact Fi _;rw[show frd f p i j=f i j by rw[frd,if_neg e]];exact le_trans (h.tri i j l a b d)<|add_mono (frd_le f p i l)<|frd_le f p l j
end Dm
namespace Df
open Db Dv
structure St(n:Nat)(f:Z)(u l:Nat->B):Prop where
 nar:Nar n f
 c1:∀i,0<i->i<n->le ↑1 (add (f 0 i)<|u i)
 c2:∀i,0<i->i<n->le ↑1 (add (l i)<|f i 0)
 c3:∀i j,0<i->0<j->i<n->j<n->le ↑1 (add (l i)<|add (f i j)<|u j)
end Df
namespace Dk
open Db Dv
def leB(a b:B):Bool:=match a,b with
 |ϊ,none=>true|none,↑ϊ=>false|some a,↑b=>decide (a<=b)
def leB_iff{a b:B}:leB a b=true ↔ le a b:=by
 cases a<;>cases b<;>simp[leB,le]
def met:List Lim->Z->Option Z
 |[],f=>↑f|x::L,f=>if leB ↑1 (add (f x.2.1 x.1) ↑x.2.2) then met L (ins f x.1 x.2.1 ↑x.2.2) else none
def met_app:∀(L K:List Lim) (f:Z),met (L++K) f=(met L f).bind (met K)
 |[],ϊ,ϋ=>rfl|x::L,K,f=>by
  show(if _ then met (L++K) _ else none)=(if _ then met L _ else none).bind (met K);split;exact met_app L K _;rfl
def Und(n:Nat)(z f:Z):Prop:=∀i j,i<n->j<n->le (z i j) (f i j)
def Keep(z:Z)(L:List Lim):Prop:=∀x∈L,le (z x.1 x.2.1) ↑x.2.2
theorem Xg{n:Nat}{z f:Z}(l:Nar n z)(h:Und n z f){a b:Nat}{c:Int}(e:a<n)(k:b<n)(m:le (z a b) ↑c):Und n z<|ins f a b ↑c:=λi j g d=>by
 refine Jb (h i j g d) ?_;refine le_trans (l.tri i j a g d e)<|add_mono (h i a g e) ?_;exact le_trans (l.tri a j b e d k)<|add_mono m<|h b j k d
def met_ok{n:Nat}:∀(L:List Lim) (f:Z),Nar n f->In n L->(∀h,met L f=↑h->Nar n h/\Und n h f/\Keep h L/\∀z,Nar n z->Und n z f->Keep z L->Und n z h)/\(met L f=none->∀z,Nar n z->Und n z f->Keep z L->False)
 |[],f,g,ϊ=>{λh e=>by
   cases e;exact{g,λϊ ϊ ϊ ϊ=>le_refl _,λx c=>(by cases c),λz ϊ h ϊ=>h},λe=>by cases e}
 |x::L,f,g,s=>by
  have c:=s x (Ï ..);unfold met;cases q:leB ↑1 (add (f x.2.1 x.1) ↑x.2.2) with
  |false=>
   refine{λh e=>(by cases e),λϊ z d m o=>?_};have p:=d.tri x.2.1 x.2.1 x.1 c.2 c.2 c.1;rw[d.diag _ c.2]at p;have r:=le_trans p<|add_mono (m x.2.1 x.1 c.2 c.1)<|o x (Ï ..);rw[<- leB_iff,q]at r;cases r
  |true=>
   erw[Å];have N:=ins_nar g c.1 c.2<|leB_iff.mp q;have U:Und n (ins f x.1 x.2.1 ↑x.2.2) f:=λi j ϊ ϊ=>GL _ _
   have C:le (ins f x.1 x.2.1 ↑x.2.2 x.1 x.2.1) ↑x.2.2:=by
    refine le_trans (Ia _ _) ?_;rw[g.diag _ c.1,g.diag _ c.2,IW,Lp];exact le_refl _
   let(m,o):=met_ok L _ N λy l=>s y<|Í _ l
   have K:∀z,Keep z (x::L)->le (z x.1 x.2.1) ↑x.2.2/\Keep z L:=λz k=>{k x (Ï ..),λy l=>k y<|Í _ l};refine{λh e=>?_,λe z d a b=>o e z d (Xg d a c.1 c.2 (K z b).1) (K z b).2};let(v,n2,w,A):=m h e;refine{v,λi j t u=>le_trans (n2 i j t u)<|U i j t u,λy l=>?_,λz d a b=>A z d (Xg d a c.1 c.2 (K z b).1) (K z b).2};rcases Ñ.mp l with rfl|B;exact le_trans (n2 _ _ c.1 c.2) C;exact w y B
end Dk
namespace De
open Db Dv Dk Dm
def FW(l:List B):B:=l.foldr mn none
def N2{x:B}:∀{l:List B},x∈l->le (FW l) x
 |y::l,h=>by
  rcases Ñ.mp h with rfl|h;exact GL _ _;exact le_trans (Ia _ _)<|N2 h
def e9{a:B}:∀{l:List B},(∀x∈l,le a x)->le a (FW l)
 |[],ϊ=>by cases a<;>trivial|y::l,h=>Jb (h y<|.head _)<|e9 λx b=>h x<|.tail _ b
def TK:∀(l:List B),FW l=none\/FW l∈l
 |[]=>.inl rfl|y::l=>by
  rcases J6 y (FW l) with e|e;exact .inr (by show mn y (FW l)∈_;rw[e];exact .head _);rcases TK l with q|q;exact .inl (by show mn y (FW l)=_;rw[e,q]);exact .inr (by show mn y (FW l)∈_;rw[e];exact .tail _ q)
structure Ups(n:Nat)(L:List Lim):Prop where
 i:In n L
 z:∀b∈L,b.2.1=0/\0<b.1/\0<=b.2.2 / 2
set_option tactic.hygienic true in
def kE{n:Nat}{g:Z}(f:Nar n g){Q:List<|Nat×B}(j:∀b∈Q,b.1<n/\le (g b.1 0) b.2):Nar n (λa b=>if 0<a/\b=0 then FW (Q.map λq=>add (g a q.1) q.2) else g a b):=by
 have p:∀a,a<n->le (g a 0) (FW<|Q.map λq=>add (g a q.1) q.2):=λa d=>e9 λx i=>by
  let(b,c,rfl):=Ê.mp i;let(m,o):=j b c;exact le_trans (f.tri a 0 b.1 d (by lia) m)<|add_mono (le_refl _) o
 refine{λa d=>?_,λb c=>?_,λa b l d c h=>?_};show(if 0<a/\a=0 then _ else g a a)=_;rw[if_neg<|by lia];exact f.diag a d;show le (if 0<0/\b=0 then _ else g 0 b) _;rw[if_neg<|by lia];exact f.row b c;show le (if 0<a/\b=0 then _ else g a b)<|add (if 0<a/\l=0 then _ else g a l) (if 0<l/\b=0 then _ else g l b)
 have k:∀x y,x<n->le (g x y) (if 0<x/\y=0 then FW (Q.map λq=>add (g x q.1) q.2) else g x y):=λx y i=>by
  split;rename_i q;rw[q.2];exact p x i;exact le_refl _
 by_cases q:0<a/\b=0;rw[if_pos q];let(s,rfl):=q
 by_cases r:l=0;subst r;rw[if_pos {(s),rfl},if_neg (by lia),f.diag 0 h,Lp];exact le_refl _;rw[if_neg (by lia),if_pos {by lia,rfl}];rcases TK (Q.map λq=>add (g l q.1) q.2) with z|z;rw[z];cases g a l<;>exact Fi _;let(b,c,e):=Ê.mp z;rw[<- e,<- add_assoc];exact le_trans (N2<|þ c)<|add_mono (f.tri a b.1 l d (j b c).1 h)<|le_refl _
 rw[if_neg q];exact le_trans (f.tri a b l d c h)<|add_mono (k a l d)<|k l b h
def kF{g:Z}{Q:List<|Nat×B}{i:Nat}{c:Int}(q:le (FW<|Q.map λq=>add (g i q.1) q.2) ↑c):∃b∈Q,le (add (g i b.1) b.2) ↑c:=by
 rcases TK (Q.map λq=>add (g i q.1) q.2) with z|z;rw[z]at q;symm;let(b,a,e):=Ê.mp z;exact{b,a,by rw[e];exact q}
set_option tactic.hygienic true in
def Xf{n:Nat}{L:List Lim}(f:Ups n L){h g:Z}(hh:Nar n h)(e:met L (wtd h)=↑g){i:Nat}(s:i<n)(u:0<i){c:Int}(r:g i 0=↑c):∃b∈L,le (add (g i b.1) ↑b.2.2) ↑c:=by
 let(l,x,v,w):=(met_ok L (wtd h) (wtd_nar hh) f.i).1 g e
 have o:∀b∈L.map λb=>(b.1,(↑b.2.2:B)),b.1<n/\le (g b.1 0) b.2:=λq t=>by
  let(b,d,rfl):=Ê.mp t;have:=v b d;rw[(f.z b d).1]at this;exact{(f.i b d).1,this}
 have k:=w _ (kE l o) (λa b p d=>?_) λb d=>?_;have q:=k i 0 s<|by lia
 erw[u,and_self,Å]at q;rw[r]at q;let(b,d,q):=kF q;let(m,j,rfl):=Ê.mp d;exact{(m),j,q}
 show le (if 0<a/\b=0 then _ else g a b) (if 0<a/\b=0 then none else h a b);split;exact Fi _;rename_i q;have:=x a b p d;unfold wtd at this
 rwa[if_neg q]at this;let(y,z,_):=f.z b d;show le (if 0<b.1/\b.2.1=0 then _ else g b.1 b.2.1) _
 rw[if_pos {(z),y}];refine le_trans (N2<|þ<|þ d) ?_;show le (add (g b.1 b.1) ↑b.2.2) _;rw[l.diag b.1 (f.i b d).1,IW];exact le_refl _
set_option tactic.hygienic true in
def und_fw{n:Nat}{q f:Z}(c:Nar n q)(u:Und n q f):∀k,k<=n->Und n q (fw f k)
 |0,ϊ=>λi j a b=>by
  refine Jb (u i j a b) ?_;unfold free;split;rename_i z;rcases z with rfl|rfl;exact c.row j b;rw[c.diag i a];exact le_refl _;exact Fi _
 |k+1,hk=>λi j a b=>Jb (und_fw c u k (by lia) i j a b)<|le_trans (c.tri i j k a b<|by lia)<|add_mono (und_fw c u k (by lia) i k a<|by lia)<|und_fw c u k (by lia) k j (by lia) b
set_option tactic.hygienic true in
def zm2{n:Nat}{f:Z}(ns:Nar n<|fw f n){i:Nat}(l:i<n)(o:0<i){c:Int}(j:fw f n i 0=↑c):∃k,0<k/\k<n/\le (add (fw f n i k)<|f k 0) ↑c:=by
 have h:∀b∈((List.range n).filter λk=>decide (0<k)).map λk=>(k,f k 0),b.1<n/\le (fw f n b.1 0) b.2:=λq m=>by
  let(k,hk,rfl):=Ê.mp m;exact{ì.mp (ü.mp hk).1,Ij f k 0 n}
 have d:=und_fw (f:=f) (kE ns h) (λa b e g=>?_) n<|Ä _
 have q:=d i 0 l<|by lia
 erw[o,and_self,Å]at q;rw[j]at q;let(b,g,q):=kF q;let(k,hk,rfl):=Ê.mp g;have hk:=ü.mp hk;exact{k,í hk.2,ì.mp hk.1,q}
 show le (if 0<a/\b=0 then _ else fw f n a b)<|f a b
 split;rename_i z;rw[z.2];refine le_trans (N2<|þ<|þ<|ü.mpr {ì.mpr e,Ì z.1}) ?_;show le (add (fw f n a a)<|f a 0) _;rw[ns.diag a e,IW];exact le_refl _
 exact Ij f a b n
def Xe{n:Nat}{L:List Lim}(r:Ups n L){M:Nat->B}(F:M 0=↑0)(z:∀b∈L,∃m,M b.1=↑m/\b.2.2 / 2<=m){h g q:Z}(hh:Nar n h)(e:met L (wtd h)=↑g)(x:Nar n q)(E:Keep q L){i:Nat}(s:i<n)(D:0<i)(j:∀b∈L,i≠b.1->le (q i b.1) (fld g M i b.1)):le (q i 0)<|fld g M i 0:=by
 let(w,_,_,_):=(met_ok L (wtd h) (wtd_nar hh) r.i).1 g e;unfold fld;rw[if_neg<|by lia];cases v:g i 0 with
 |none=>exact Fi _|some c=>
  have c1:(1:Int)<=c:=by
   have:=Sy w s;rw[v]at this;exact this
  let(b,o,d):=Xf r hh e s D v;let(H,I,J):=r.z b o;have u:=(r.i b o).1;let(m,C,A):=z b o;have p:=E b o;rw[H]at p;have tri:=x.tri i 0 b.1 s (by lia) u
  have G:=Sy x s;unfold fldB;cases ga:g i b.1 with
  |none=>rw[ga]at d;exact d.elim|some a=>
   rw[ga]at d;have d:bs a b.2.2<=c:=d;have hd:=W5 a b.2.2
   have BZ:le (q i 0) ↑c\/∃l,M i=↑l/\l<c / 2:=by
    by_cases t:i=b.1;left;rw[t]at ga;rw[w.diag b.1 u]at ga;cases ga;rw[Z3]at d;rw[t];exact le_trans p d;have j:=j b o t;unfold fld fldB at j;rw[if_neg t,ga,C]at j;dsimp only at j
    have low:le (q i b.1) (↑(2 * -m))->False:=λj=>by
     have:=le_trans G<|le_trans tri<|add_mono j p;have this:(1:Int)<=bs (2 * -m) b.2.2:=this;unfold bs at this
     lia
    cases k:M i with
    |none=>
     rw[k]at j;dsimp only at j;left;split at j;exact(low j).elim;exact le_trans (le_trans tri<|add_mono j p) d
    |some l=>
     rw[k]at j;dsimp only at j;split at j;right;exact{l,rfl,by lia};left;split at j;exact(low j).elim;exact le_trans (le_trans tri<|add_mono j p) d
   rw[F];dsimp only;cases k:M i with
   |none=>
    dsimp only;rcases BZ with f|⟨l,f,_⟩;rw[if_neg<|by lia];exact f;rw[k]at f;cases f
   |some l=>
    dsimp only;by_cases y:l<c / 2;rw[if_pos y];exact Fi _;rw[if_neg y,if_neg<|by lia];rcases BZ with f|⟨m2,f,f2⟩;exact f;rw[k]at f;cases f;exact absurd f2 y
def fold_wait{n:Nat}{L:List Lim}(c:Ups n L){M:Nat->B}(t:M 0=↑0)(p:∀b∈L,∃m,M b.1=↑m/\b.2.2 / 2<=m){h g q:Z}(hh:Nar n h)(e:met L (wtd h)=↑g)(ns:Nar n<|fw (fld g M) n)(o:met L (wtd<|fw (fld g M) n)=↑q):Und n q<|fw (fld g M) n:=by
 let(k,u,s,_):=(met_ok L _ (wtd_nar ns) c.i).1 q o
 have l:∀i j,i<n->j<n->¬ (0<i/\j=0)->le (q i j) (fld g M i j):=λi j a d z=>by
  have:=u i j a d;unfold wtd at this;rw[if_neg z]at this;exact le_trans this<|Ij _ _ _ n
 refine und_fw k (λi j a d=>?_) n<|Ä _
 by_cases z:0<i/\j=0;let(r,rfl):=z;exact Xe c t p hh e k s a r λb f ϊ=>l i b.1 a (c.i b f).1 (by have:=(c.z b f).2.1;lia);exact l i j a d z
def free_wait{n:Nat}{L:List Lim}(o:Ups n L){M:Nat->B}(G:M 0=↑0)(D:∀b∈L,∃m,M b.1=↑m/\b.2.2 / 2<=m){p:Nat}(X:0<p)(pn:p<n)(P:∀b∈L,b.1≠p)(mp:M p=none){h g q:Z}(hh:Nar n h)(e:met L (wtd h)=↑g)(ns:Nar n<|fw (fld g M) n)(I:met L (wtd<|frd (fw (fld g M) n) p)=↑q)(nf:Nar n<|frd (fw (fld g M) n) p):Und n q<|frd (fw (fld g M) n) p:=by
 let(T,_,_,_):=(met_ok L (wtd h) (wtd_nar hh) o.i).1 g e;let(v,V,F,_):=(met_ok L _ (wtd_nar nf) o.i).1 q I
 have x:∀i j,i<n->j<n->¬ (0<i/\j=0)->i≠p->le (q i j) (fw (fld g M) n i j):=λi j l A z u=>by
  have:=V i j l A;unfold wtd frd at this;rwa[if_neg z,if_neg<|by lia]at this
 intro i j l A;unfold frd;by_cases y:i=p/\j≠p;rw[if_pos y];exact Fi _;rw[if_neg y];by_cases z:0<i/\j=0;let(Q,rfl):=z;have u:i≠p:=by lia
 cases N:fw (fld g M) n i 0 with
 |none=>exact Fi _|some c=>
  let(k,E,s,hk):=zm2 ns l Q N;by_cases kp:k=p
  ·
   subst kp;refine le_trans ?_ hk;cases w:g k 0 with
   |none=>
    have:fld g M k 0=none:=by unfold fld fldB;rw[if_neg (by lia),w]
    rw[this,show add (fw (fld g M) n i k) none=none from by cases fw (fld g M) n i k<;>rfl]at hk;exact False.elim hk
   |some d=>
    have W:(1:Int)<=d:=by
     have:=Sy T s;rw[w]at this;exact this
    have J:fld g M k 0=↑d:=by
     unfold fld fldB;rw[if_neg (by lia),w,mp,G];dsimp only;rw[if_neg<|by lia]
    rw[J];let(b,r,f):=Xf o hh e s E w;let(y,Y,z3):=o.z b r;have t:=(o.i b r).1;let(m,O,K):=D b r;have C:=F b r;rw[y]at C;have H:k≠b.1:=λz=>P b r z.symm
    have U:le (q i 0)<|add (add (fw (fld g M) n i k)<|fld g M k b.1) ↑b.2.2:=by
     by_cases R:i=b.1;rw[R];refine le_trans C ?_
     have:le ↑1<|add (fw (fld g M) n b.1 k)<|fld g M k b.1:=by
      rw[<- ns.diag b.1 t];exact le_trans (ns.tri b.1 b.1 k t t s)<|add_mono (le_refl _)<|Ij _ _ _ n
     have:=add_mono this<|le_refl ↑b.2.2
     rwa[IW]at this;exact le_trans (v.tri i 0 b.1 l (by lia) t)<|add_mono (le_trans (x i b.1 l t (by lia) u)<|le_trans (ns.tri i b.1 k l t s)<|add_mono (le_refl _)<|Ij _ _ _ n) C
    refine le_trans U ?_;rw[add_assoc];refine add_mono (le_refl _) ?_;cases ga:g k b.1 with
    |none=>rw[ga]at f;exact f.elim|some a=>
     rw[ga]at f;have f:bs a b.2.2<=d:=f;unfold fld fldB;rw[if_neg H,ga,mp,O];dsimp only;split
     show bs (2 * -m) b.2.2<=d;unfold bs;lia;exact f
  ·
   refine le_trans (v.tri i 0 k l (by lia) s)<|le_trans (add_mono ?_ ?_) hk
   by_cases S:i=k;subst S;rw[v.diag i l,ns.diag i l];exact le_refl _;exact x i k l s (by lia) u;exact Xe o G D hh e v F s E λb r ϊ=>le_trans (x k b.1 s (o.i b r).1 (by have:=(o.z b r).2.1;lia) kp)<|Ij _ _ _ n
 by_cases u:i=p;have:j=p:=by lia
 subst this;subst u;rw[v.diag i l,ns.diag i l];exact le_refl _;exact x i j l A z u
end De
namespace Pu
open PySem PySem.Spec PyProof.Rows L2 Zw Zx
def mT(n:Nat)(g:Nat->T):qF:=(List.range n).map g
def nl0:((0:Nat):Int)=0:=rfl
def nl1:((1:Nat):Int)=1:=rfl
def nl2:((2:Nat):Int)=2:=rfl
def nl3:((3:Nat):Int)=3:=rfl
def nl4:((4:Nat):Int)=4:=rfl
def nl5:((5:Nat):Int)=5:=rfl
def nl6:((6:Nat):Int)=6:=rfl
def nl7:((7:Nat):Int)=7:=rfl
def nl8:((8:Nat):Int)=8:=rfl
def nl9:((9:Nat):Int)=9:=rfl
def zpk{k:Nat}(h:k<=100000):(k<=BI)=True:=eq_true (by unfold BI;lia)
def zpj{k:Nat}(h:k<100000):(k<BI)=True:=eq_true (by unfold BI;lia)
section
variable {n:Nat}{g h:Nat->T}
def Bj:(mT n g).length=n:=by simp[mT]
def ED{i:Nat}(a:i<n):(mT n g)[i]?=↑(g i):=by simp[mT,a]
def Hb(e:(mT n g)[i]?=↑t):i<n/\t=g i:=by
 have a:i<n:=by
  rcases Nat.lt_or_ge i n with q|q;exact q;rw[ć (by rw[Bj];exact q)]at e;cases e
 rw[ED a]at e;exact{a,by injection e with e;exact e.symm}
def Es(a:l.length=n)(h:∀i,i<n->l[i]?=↑(g i)):l=mT n g:=by
 refine Ÿ λi=>?_;rcases Nat.lt_or_ge i n with q|q;rw[h i q,ED q];rw[ć (by lia),ć (by rw[Bj];exact q)]
def EF(e:∀i,i<n->g i=h i):mT n g=mT n h:=Es Bj λi a=>by rw[ED a,e i a]
def CH{k:Nat}(a:k<n):Ar (mT n g) (k:Int)=↑(g k):=G2<|ED a
def eG(b:t∈mT n g):∃i,i<n/\t=g i:=by
 let(i,a,e):=Ê.mp b;exact{i,ì.mp a,e.symm}
def Ft:BP (mT n g)=mT n λi=>(g i).share:=by
 rw[EA];unfold mT;rw[ä];rfl
def Fu(e:∀i,(g i).sh=true):AX (mT n g)=true:=by
 rw[CM,Ò];intro t a;obtain⟨i,-,rfl⟩:=eG a;exact e i
def zk3(xs:Nat->Int):AX (mT n λi=>.int<|xs i)=true:=Fu λϊ=>rfl
def LF:mT n g++[g n]=mT (n+1) g:=by
 unfold mT;rw[List.range_succ,ß];rfl
def eD{α:Type}(t:α->T)(xs:Nat->α)(r):mT n (λj=>t<|xs j)++[t r]=mT (n+1) λj=>t (if j=n then r else xs j):=by
 rw[<- LF,if_pos rfl,EF (g:=λj=>t (if j=n then r else xs j)) (h:=λj=>t<|xs j) λj a=>by rw[if_neg<|by lia]]
def V3:∀(l) (k i:Nat) (t),l[i]?=↑t->(Eg k l)[i]?=↑(.tup [.int (k+i:Nat),t])
 |[],ϊ,ϋ,ό,e=>by simp at e|x::r,k,0,t,e=>by
  simp at e;subst e;rfl
 |x::r,k,i+1,t,e=>by
  rw[Eg,ł];have:=V3 r (k+1) i t<|by simpa using e
  rw[this,show k+1+i=k+(i+1) by lia]
def O6:∀(l) (k),(Eg k l).length=l.length
 |[],ϊ=>rfl|x::r,k=>by rw[Eg,ñ,ñ,O6 r]
def Hs:Eg 0 (mT n g)=mT n λi=>.tup [.int i,g i]:=by
 refine Es (by rw[O6,Bj]) λi a=>?_;rw[V3 _ _ _ _<|ED a,Nat.zero_add]
def K0:ID (mT n g) (mT n h)=mT n λi=>.tup [g i,h i]:=by
 refine Es (by simp[ID,Bj]) λi a=>?_;unfold ID;rw[List.getElem?_zipWith,ED a,ED a]
theorem Ye(a:Int):FG a n=mT n λi=>.int<|a+(i:Int):=rfl
def E8:FG 0 n=mT n λi=>.int (i:Int):=by
 rw[Ye];simp
def consT(x:T)(g:Nat->T):Nat->T
 |0=>x|i+1=>g i
def kD(x):x::mT n g=mT (n+1) (consT x g):=by
 refine Es (by rw[ñ,Bj]) λi a=>?_;cases i with
 |zero=>rfl|succ i=>rw[ł,ED<|by lia];rfl
theorem mT_of(l)(d):l=mT l.length λi=>l.getD i d:=Es rfl λi a=>by
 rw[Þ,Á a];rfl
theorem eC:(mT n g).set i v=mT n λj=>if j=i then v else g j:=Es (by simp[Bj]) λj a=>by
 rw[List.getElem?_set,Bj];by_cases e:i=j;subst e;simp[a];erw[e,Ã];rw[ED a,if_neg<|λq=>e q.symm]
variable {b:T->AM->Option AM}{body:AH}{me:AG}{Y:AM}
def L9(I:Nat->AM->Prop)(a:I 0 Y)(f:∀i Y,i<n->I i Y->∃τ1,b (g i) Y=↑τ1/\∃τ2,body τ1=↑(.nx τ2)/\I (i+1) τ2):∃Y',BK b body (mT n g) Y=↑(.nx Y')/\I n Y':=by
 have:=Ey I a λi t Y e c=>by
  let(d,rfl):=Hb e;exact f i Y d c
 rwa[Bj]at this
def Jr(p:Nat->Prop)(v )(I:Nat->AM->Prop)(o:I 0 Y)
  (s:∀i Y,i<n->(∀j,j<i->p j)->I i Y->∃τ1,b (g i) Y=↑τ1/\((p i/\∃τ2,(body τ1=↑(.nx τ2)\/body τ1=↑(.ct τ2))/\I (i+1) τ2)\/(¬ p i/\body τ1=↑(.rt v)))) :
  ((∀i,i<n->p i)/\∃Y',BK b body (mT n g) Y=↑(.nx Y')/\I n Y')\/((∃i,i<n/\¬ p i)/\BK b body (mT n g) Y=↑(.rt v)):=by
 have:=zh0 (b:=b) (body:=body) (ts:=mT n g) (Y:=Y) (λi Y=>(∀j,j<i->p j)/\I i Y) (λw=>w=v/\∃i,i<n/\¬ p i) {λj k=>by lia,o} λi t Y e d=>by
  let(h,rfl):=Hb e;let(τ1,m,q):=s i Y h d.1 d.2;refine{τ1,m,?_}
  rcases q with ⟨f,τ2,a,l⟩|⟨f,a⟩;refine .inl {τ2,a,λj k=>?_,l};rcases Nat.lt_succ_iff_lt_or_eq.mp k with q|rfl;exact d.1 j q;exact f;exact .inr {(v),a,rfl,i,h,f}
 rw[Bj]at this;rcases this with ⟨Y',e,r,c⟩|⟨w,e,rfl,c⟩;exact .inl {(r),Y',e,c};exact .inr {(c),e}
def Cj{cs:AM}(d:∀i,i<n->me (↑(g i)::cs)=↑(.v (f i) false)):CW (AD 0) (mC<|.bl true) me (mT n g) (x::cs)=↑(mT n f):=by
 have:=Nv (b:=AD 0) (ts:=mT n g) (λϊ Y=>∃y,Y=y::cs) f {(x),rfl} λi t Y e a=>by
  let(c,rfl):=Hb e;let(y,rfl):=a;exact{↑(g i)::cs,by simp[AD],d i c,_,rfl}
 rw[this,Bj];rfl
def EW{u w f:Nat->T}  {cs:AM}(d:∀i,i<n->me (↑(u i)::↑(w i)::cs)=↑(.v (f i) false)):CW (Ay 2<|AQ (AD 0)<|AQ (AD 1) BA) (mC<|.bl true) me (mT n λi=>.tup [u i,w i]) (x::y::cs)=↑(mT n f):=by
 have:=Nv (b:=Ay 2<|AQ (AD 0)<|AQ (AD 1) BA) (ts:=mT n λi=>.tup [u i,w i]) (λϊ Y=>∃x y,Y=x::y::cs) f {(x),y,rfl} λi t Y e a=>by
  let(c,rfl):=Hb e;let(x,y,rfl):=a;exact{↑(u i)::↑(w i)::cs,by rfl,d i c,_,_,rfl}
 rw[this,Bj];rfl
end
def bT:Db.B->T
 |none=>.non|some i=>.int i
def Wa:bT none=.non:=rfl
def W9(i:Int):bT ↑i=.int i:=rfl
abbrev rT(n:Nat)(f:Nat->Db.B):T:=.lst<|mT n λj=>bT<|f j
abbrev zT(n:Nat)(f:Db.Z):T:=.lst<|mT n λi=>rT n<|f i
def Jw(b:Db.B):(bT b).sh=true:=by cases b<;>rfl
def Jv(b:Db.B):(bT b).share=bT b:=by cases b<;>rfl
def zht(h:∀i j,i<n->j<n->f i j=g i j):zT n f=zT n g:=by
 unfold zT;rw[EF λi a=>?_];unfold rT;rw[EF λj b=>?_];rw[h i j a b]
abbrev vT(n:Nat)(v:Nat->Int×Int):T:=.lst<|mT n λi=>fr (v i).1 (v i).2
def IE(v:Nat->Int×Int):Nat->Int×Int
 |0=>(0,1)|i+1=>v i
def zjt(n)(v):(fr 0 1)::mT n (λi=>fr (v i).1 (v i).2)=mT (n+1) λi=>fr (IE v i).1 (IE v i).2:=by
 rw[kD];refine EF λi ϊ=>?_;cases i<;>rfl
def Ju(p):Fl (mT n λi=>.bl<|p i)=↑((List.range n).map p):=by
 unfold mT;generalize List.range n=l
 induction l with
 |nil=>rfl|cons x r a=>erw[Ö,Fl,a]
def NB(n)(f):(rT n f).share=rT n f:=by
 unfold T.share;rw[Ft];erw[Jv]
def JY(n)(f):(rT n f).sh=true:=by
 unfold T.sh;rw[Fu λi=>Jw _];rfl
def zhs(n)(f):(zT n f).share=zT n f:=by
 unfold T.share;rw[Ft];erw[NB]
def Bl(n)(f):(zT n f).sh=true:=by
 unfold T.sh;rw[Fu λi=>JY n _];rfl
def Ea{n:Nat}(h:n<=100000):Cg n=true:=@decide_eq_true _ (Classical.propDecidable _) {by lia,by lia}
def modN{n:Nat}(h:0<n)(y:Int):∃i:Nat,y.fmod n=i/\i<n:=
 {(y % n).toNat,(fm<|Ŗ.mpr h).trans (Int.toNat_of_nonneg<|Int.emod_nonneg y<|Int.ne_of_gt<|Ŗ.mpr h).symm,(Int.toNat_lt<|Int.emod_nonneg y<|Int.ne_of_gt<|Ŗ.mpr h).mpr (Int.emod_lt_of_pos y<|Ŗ.mpr h)}
def Q5:∀ys ,Gd (ys.map T.str)=↑ys
 |[]=>rfl|y::r=>by
  show(match Gd (r.map T.str) with|some l=>↑(y::l)|none=>none)=_;rw[Q5 r]
def BX:∀ys:ky,BP (ys.map T.str)=ys.map T.str
 |[]=>rfl|y::r=>by
  show T.str y::BP (r.map T.str)=_;rw[BX r];rfl
def Av:∀ys:ky,AX (ys.map T.str)=true
 |[]=>rfl|y::r=>by
  show(true && AX (r.map T.str))=true;rw[Av r];rfl
def Cm(ys:ky):Prop:=∀y∈ys,PyData.strOk y=true
def ZI:∀ys:ky,En (ys.map T.str)=true
 |[]=>rfl|y::r=>by
  show(true && En (r.map T.str))=true;rw[ZI r];rfl
def fD:∀{ys},Cm ys->PyData.canLayAll0 (Bi<|ys.map T.str)=true/\PyData.depthAll (Bi<|ys.map T.str)=0
 |[],ϊ=>{(rfl),rfl}|y::r,h=>by
  let(a,b):=fD λx d=>h x<|Í _ d
  have c:=h y (Ï ..);rw[Ö,Bi,PyData.canLayAll0,PyData.depthAll,a,b,T.data,PyData.canLay0,c,PyData.depth];simp
def Hr(a:PyData.strOk x=true)(b:PyData.strOk y=true):BM (.str x) (.str y)=↑(.bl<|decide (x=y)):=by
 have e:(x == y)=decide (x=y):=by rfl
 unfold BM Im Ef Le;erw[T.data,T.pln,PyData.canLay0,PyData.depth,PyData.eqv,a,b,e];simp
theorem Fit.str(h:PyData.strOk x=true)(n):Fit (.str x) n:={by unfold Ef;rw[T.data,PyData.canLay0,h];rfl,rfl,by simp[T.data,PyData.depth]}
def lH(x):∀ys:ky,((Bi<|ys.map T.str).any λy=>PyData.eqv y<|.str x)=decide (x∈ys)
 |[]=>by rfl|y::r=>by
  have e:(y == x)=decide (x=y):=by grind
  rw[Ö,Bi,ė,lH x r,T.data,PyData.eqv,e,Bool.eq_iff_iff,ĕ,ó,ó,ó,Ñ]
def Jk(h:Cm ys)(c:PyData.strOk x=true):EJ (.str x) (.nd o k<|ys.map T.str)=↑(.bl<|decide (x∈ys)):=by
 have ok:Hl (.str x) (ys.map T.str)=true:=by
  let(a,b):=fD h;unfold Hl Ef;rw[ZI,a,b,T.data,PyData.canLay0,c];rfl
 unfold EJ;simp only;rw[if_pos ok];unfold Jn;rw[T.data,lH]
end Pu
namespace Tx
open PySem PySem.NumText
abbrev cs(x:Str):qA:=x.cps.toList
def cs_ext{x y:Str}(h:cs x=cs y):x=y:=by
 cases x;simp_all
def cs_len(x:Str):x.length=(cs x).length:=rfl
section
variable {x y:Str}{c:Nat}(hA:∀k,(cs x)[k]?=↑c->StrLaws.At x y x.length k)
include hA
end
def sl_to(h:a<=(cs x).length):cs (Txt.slice x none ↑a)=(cs x).take a:=by
 have e:Txt.slice x none ↑a=StrLaws.sliceText x none ↑a:=rfl;rw[e,StrLaws.sliceText_to {Int.natCast_nonneg a,Int.ofNat_le.mpr h},List.drop_zero,Int.sub_zero,Ĉ]
end Tx
namespace Hd
open PySem PySem.W PySem.Calls PyProof.Rows
def L4(st:SharedT->Thread->Option (SharedT×Thread))(ok:Thread->Bool):Nat->SharedT->Thread->Option SharedT
 |0=>λϊ ϊ=>none|n+1=>λs t=>bif through t then ↑s else bif ok t then (st s t).elim none λx=>L4 st ok n x.1 x.2 else none
def zlz(n):∀(s) (t) (r),
  L4 (stepT (denote tb) p w) (stepOk m ann) n s t=↑r->topRun tb p w m ann n s.abs t=↑r.abs:=by
 induction n with
 |zero=>intro s t r h;exact nomatch h
 |succ n d=>
  intro s t r h;rw[L4]at h;dsimp only at h;rw[topRun];cases a:through t with
  |true=>rw[a]at h;cases h;rfl|false=>
   rw[a]at h;cases b:stepOk m ann t with
   |false=>rw[b]at h;exact nomatch h
   |true=>
    rw[b]at h;cases c:stepT (denote tb) p w s t with
    |none=>rw[c]at h;exact nomatch h
    |some x=>rw[c]at h;rw[stepT_spec (s':=x.1) (t':=x.2) c];exact d _ _ _ h
def Mr(p q:Program)(loose:ky)(Xt:Shared->Bool){α:Type}(Yf:Shared->α)(h:Heap)(s:Shared):=
 ((staticsOk (importedModules p.main.body) h s.heap && namesBound p s.heap && gensDone s && laidKept h s.heap),openSeen q loose (importedModules p.main.body) Xt true s,Yf s)
theorem zlr{Ya:World->α}{N M m:Nat}{bt:Params->BT}{l:Params->Life}{st:World->SharedT->Thread->Option (SharedT×Thread)}(d:∀w,stepT (denote treeTable) p w=st w)(hok:stepOk m ann=ok)
  (e:opening p=plainProg p.main.scope.names) (o:Nat.ble 600 N=true) (f:∀s,fenceModules? p s=↑s) (n:Nat.ble M N=true)
  (u:∀P,absHeap (bt P) m (l P)=boot_heap P) (v:∀P,(boot_heap P).isNs mainGlobals=true) (x:∀P,(boot_heap P).objs.size=m) (t:∀P,(boot_heap P).nsMap mainGlobals "__annotations__"=ann)
  (h:∀(w ) (os ),(L4 (st w) ok M {bt w.params,m,l w.params,Array.mk [],boot_drawn,boot_toks,os}<|topStub p).map (λs=>Mr p q loose Xt Yf (boot_heap w.params) s.abs)=↑(true,openGood q loose,Ya w)) :
  LeftO p q loose Xt Yf Ya N true:=λw=>by
 let((A,z,y,B,os),c,i):=Ú.mp<|boot_open e o f w;erw[Prod.mk.injEq]at i;let(rfl,rfl,rfl,rfl):=i;let(T,g,j):=Ú.mp<|h w os;rw[<- d,<- hok]at g;have r:=topRun_mono (N - M) _ _ _ _<|zlz _ _ _ _ g;rw[Nat.add_sub_cancel'<|Nat.le_of_ble_eq_true n]at r;have a:=congrArg Prod.fst j;have b:=congrArg Prod.snd j;erw[Mr]at a b;erw[SharedT.abs,u]at r a b
 have k:topFrom treeTable p w N {boot_heap w.params,Array.mk [],boot_drawn,boot_toks,os}=↑T.abs:=by
  erw[topFrom,v,x,t,r];erw[Č];rw[a];rfl
 show((fencedOpening treeTable p w N).bind (topFrom treeTable p w N)).map _=_;rw[c];show(topFrom treeTable p w N _).map _=_;rw[k];exact congrArg some b
def en(P:Params)(x:String)(k:Nat)(v:Value):DictEntry:={PyData.keyHash P<|Str.ofString x,.str (Str.ofString x) k,v}
def bt(P:Params):BT:=((boot_heap P).objs.toList.foldl (λ(x:BT×Nat) o=>(x.1.ins x.2 o,x.2+1)) (BT.nil,0)).1
def bt_ok(P:Params):absHeap (bt P) 11 (boot_heap P).life=boot_heap P:=by ext
def zr2(P):(boot_heap P).nsMap mainGlobals "__annotations__"=↑(.ref 6):=by ext
def ns_ok(P:Params):(boot_heap P).isNs mainGlobals=true:=by ext
def sz_ok(P:Params):(boot_heap P).objs.size=11:=by ext
abbrev go(p:Program)(M:Nat)(w:World)(os:OsState):Option SharedT:=
 L4 (Fast.tw10156331382660048174 (Fast.tw11892475500146522536 Fast.tw14364793385576792824) p w) (Fast.tw6613529449190102663 11<|↑(.ref 6)) M {bt w.params,11,(boot_heap w.params).life,Array.mk [],boot_drawn,boot_toks,os} (topStub p)
abbrev xt(r:RowW)(q:Program)(s:Shared):Bool:=xlAt q [] s && recOk r.records s
theorem zls{Ya:World->α}(N M:Nat)
  (e:opening p=plainProg p.main.scope.names) (b:Nat.ble 600 N=true) (f:∀s,fenceModules? p s=↑s) (a:Nat.ble M N=true)
  (h:∀(w ) (os ),(go p M w os).map (λs=>Mr p q loose (xt r q) Yf (boot_heap w.params) s.abs)=↑(true,openGood q loose,Ya w)):LeftO p q loose (xt r q) Yf Ya N true:=
 zlr
  (λw=>by rw[Fast.te10156331382660048174,Fast.te11892475500146522536,Fast.te14364793385576792824]) (by rw[Fast.te6613529449190102663]) e b f a bt_ok ns_ok sz_ok zr2 h
end Hd
set_option maxHeartbeats 4200000
namespace Zl
open PySem L2 Zw Zx Pu
noncomputable section
local macro_rules
  |`(tactic| simp![$as,*])=>do let y<-"AZ Kn Lc AF A3 Cb HP A4 AN S7 IQ Ab Mv Bc DJ JT Ki Gi C4 Ep FL AA mC AE AB Ah Bm m1 m2 AJ EH BQ Cc CA AW Dn Et BE Bw Ax BZ g1 g2 AD BA AQ Ay blk Oe Jl Cw Ie C6 gD Gs Ox Ow Ir Ov Jj B5 Fc CF BO CY Ff Lk Lm C0 EV BB T.isN T.isB Bd Dt Jy LB N4 L6 OC Ċ Dw Hx Cv Me Xj JJ Mm T.share BP T.sh AX T.flat at0 Hw at2 Ö List.map_nil ñ ģ List.replicate è ŏ ũ List.getElem?_cons_zero ł List.getElem?_nil List.set_cons_zero List.set_cons_succ Ā nl0 nl1 nl2 nl3 nl4 nl5 nl6 nl7 nl8 nl9 Int.reduceBEq Nat.reduceBEq Nat.reduceAdd Nat.reduceSub Nat.reduceLT Nat.reduceLeDiff if_true if_false ite_true ite_false reduceIte Ŵ Bool.not_false Bool.and_true Bool.true_and Bool.and_false ĵ Bool.or_true Bool.true_or Bool.or_false ķ Bool.false_xor Bool.true_xor ņ Ŧ decide_true decide_false Ñ đ or_false or_true true_or and_true true_and and_self String.reduceEq String.reduceBEq beq_self_eq_true ne_eq not_false_eq_true not_true_eq_false zpk zpj Jw Jv Bj Ft Int.reduceLT Int.reduceAdd Ĉ zk3 Fu implies_true forall_const Wa W9 Int.reduceEq Int.reduceNe Uk Ao AU BU Aw Hc CN Kh Km JS LI Kj ES JV GB Hf Gp GQ Au LH LJ HN Mu JU Kk HV".splitOn.mapM (λx=>do`(Lean.Parser.Tactic.simpLemma|$(Lean.mkCIdent (<-Lean.Macro.resolveGlobalName x.toName).head!.1):ident));`(tactic| simp only[$(⟨(Lean.Syntax.SepArray.ofElems (sep:=",") (y.toArray.map (·.raw)++as.elemsAndSeps.getSepElems)).elemsAndSeps⟩),*])
def AK(i:Nat):Stmt:=PySem.Challenge.pw_zonewalk_k63_whole_lists_let_by.main.body.getD i<|.Pass {0,0,0,0}
def zqt(s:Stmt)(j:Nat):Stmt:=match s with
 |.ClassDef ϊ ϋ ό a ύ ώ Ϗ ϐ ϑ ϒ ϓ=>a.getD j (.Pass {0,0,0,0})|ϊ=>.Pass {0,0,0,0}
def BY(i j:Nat):Stmt:=zqt (AK i) j
abbrev B8:Addr:=277
def Be:ky:=["start","end","guard","noughts","sign"]
abbrev Ac:Addr:=331
def Ad:ky:=["watch_names","stays","door_list"]
abbrev Ae:Addr:=564
def Af:ky:=["first_room","first_values","stays","ways","zones"]
abbrev A8:Addr:=628
def Aa:ky:=["marks","mosts","first_room","stays","ways","free_place"]
def Jf:T:=(.nd false .rt [(.str "<"),(.str "<="),(.str ">"),(.str ">="),(.str "=")])
def Nw:T:=(.nd false .rt [(.str "<"),(.str "<=")])
def Nx:T:=(.int 7)
def Ny:T:=(.int 64)
def Nz:T:=(.int 200)
def V8:List<|Addr×Bool:=[(277,true),(331,false),(564,false),(628,false)]
def Pz:List<|Str×Addr:=[("TooMany",61)]
abbrev SX:Stmt:=AK 85
def UZ:AH:=
 (AF (A4 (m2 (C0 λi j=>decide (i<j)) (AA 1)<|m1 Bd<|AA 0) (AN<|AW (AA 0)<|AA 1) Ab)
 (AN<|mC<|.int 0))
def F9:qF->Option Ru:=AZ 2 2 UZ
abbrev dA(s:Stmt):ky:=((DY s).names.filter λx=>x.2 == .local || x.2 == .cell).map (·.1)
abbrev fA(k n:Nat)(s:Stmt)(R:qF->Option Ru):Fn:={k,(dA s).take n,R}
abbrev VY:=fA 1 2 SX F9
abbrev gA(s:Stmt)(k:Nat)(fs:List<|Str×Fn)(bl:ky)(ow:ky:=[])(ex:ky:=[])(ox:Gx:=B9)(mu:=false)(mc:List<|Str×Fn:=[])(mv:ky:=[])(dc:ky:=[])(N:=dA s):Gm:={N,(DY s).names,N.filter λx=>(DY s).names.lookup x == ↑.cell,k,fs,bl,ex,ow,["is_covered"],mu,mc,mv,dc,ox}
abbrev zel:Gm:=gA SX 0 [] ["len"]
theorem zf0:Ck zel VY SX UZ:={}
def Od(ns:kz){k:Int}(c:0<=k):F9 [B3 ns,.int k]=↑(.ok<|.int<|ns.getD k.toNat 0):=by
 unfold F9 UZ;by_cases h:k<ns.length;have b:Ar (ns.map T.int) k=↑(.int<|ns.getD k.toNat 0):=Iq c<|by simp_all
 have a:decide (k<(ns.map T.int).length)=true:=by simpa using h
 simp![B3,JP,Kf,a,b]
 have a:decide (k<(ns.map T.int).length)=false:=by simpa using h
 have e:ns.getD k.toNat 0=0:=by
  simp_all
 simp![B3,JP,Kf,a,e]
def zr0{x:Str}(h:∀c∈Tx.cs x,c<128):PyData.strOk x=true:=by
 unfold PyData.strOk;rw[<- Array.all_toList,Ò];intro c a;have:=h c a;exact Ì<|by lia
abbrev RJ:Stmt:=AK 33
def Tg:AH:=
 (AN<|Gp GQ GQ (mC<|.str "a") (AA 0)<|mC<|.str "z")
def MD:qF->Option Ru:=AZ 1 1 Tg
abbrev VM:=fA 1 1 RJ MD
abbrev zap:Gm:=gA RJ 0 [] []
theorem zav:Ck zap VM RJ Tg:={}
def YI{c:Nat}(f:97<=c)(g:c<=122):MD [.str {#[c]}]=↑(.ok<|.bl true):=by
 have a:((Str.ofString "a").cps.toList)=[97]:=by rfl
 have b:((Str.ofString "z").cps.toList)=[122]:=by rfl
 have d:@decide (#[c].toList<(Str.ofString "a").cps.toList) (Classical.propDecidable _)=false:=@decide_eq_false _ (Classical.propDecidable _) (by
  rw[a];rw[List.cons_lt_cons_iff]
  simp_all)
 have e:@decide ((Str.ofString "z").cps.toList < #[c].toList) (Classical.propDecidable _)=false:=@decide_eq_false _ (Classical.propDecidable _) (by
  rw[b];rw[List.cons_lt_cons_iff]
  simp_all)
 unfold MD Tg
 simp![d,e]
abbrev RO:Stmt:=AK 34
def WB:AG:=
 (AJ MD<|AB (AA 0) AE)
def Tj:AH:=
 (AN<|Cc (Gp GQ GQ (mC<|.int 1) (m1 Bd<|AA 0)<|mC<|.int 8)<|m1 Dw<|Ax 1 [] (Au<|AA 0) (AD 0) (mC<|.bl true) WB)
def ME:qF->Option Ru:=AZ 1 1 Tj
abbrev VO:=fA 2 1 RO ME
abbrev zfg:Gm:=gA RO 1 [("is_small_letter",VM)] ["len","all"]
theorem zfr:Ck zfg VO RO Tj:={}
def KA(x:Str):Prop:=∀i,i<x.cps.size->97<=x.cps.getD i 0/\x.cps.getD i 0<=122
def YM(x:Str):HL x=mT x.cps.size λi=>.str {#[x.cps.getD i 0]}:=by
 refine Es (by simp[HL]) λi a=>?_;unfold HL;simp_all
def c9{x:Str}(h:KA x)(k:1<=x.cps.size)(l:x.cps.size<=8):ME [.str x]=↑(.ok<|.bl true):=by
 have l1:x.cps.size<=100000:=by lia
 have e:=Cj (n:=x.cps.size) (me:=WB) (x:=none) (cs:=[]) (g:=λi=>.str {#[x.cps.getD i 0]}) (f:=λϊ=>.bl true) λi a=>by
  unfold WB
  simp![YI (h i a).1 (h i a).2]
 have c:decide (1<=(x.length:Int))=true:=Ì (by show 1<=(x.cps.size:Int);lia);have d:decide ((x.length:Int)<=8)=true:=Ì (by show(x.cps.size:Int)<=8;lia)
 have j:x.length<=BI:=by
  lia
 have b:((List.range x.cps.size).map λϊ=>true).all id=true:=by simp
 unfold ME Tj
 simp![YM,e,l1,c,d,j,Ju,b]
abbrev RI:Stmt:=AK 35
def Tf:AH:=
 (AN<|Cc (m1 (Cv "str")<|AA 0)<|CA (m2 BM (AA 0)<|mC<|.str "/")<|AJ ME<|AB (AA 0) AE)
def MC:qF->Option Ru:=AZ 1 1 Tf
abbrev VL:=fA 3 1 RI MC
abbrev zb8:Gm:=gA RI 2 [("is_name",VO)] ["isinstance","str"]
theorem zbd:Ck zb8 VL RI Tf:={}
def zn0{x:Str}(h:KA x):PyData.strOk x=true:=by
 unfold PyData.strOk;rw[Array.all_eq_true];intro i a;have:=(h i a).2;rw[Array.getD_eq_getD_getElem?,Ĳ a]at this;rw[ó]
 lia
def HD(x:Str):Prop:=x=Str.ofString "/"\/(KA x/\1<=x.cps.size/\x.cps.size<=8)
def Qb:PyData.strOk (Str.ofString "/")=true:=by decide +kernel
def K2{x:Str}(h:HD x):PyData.strOk x=true:=by
 rcases h with rfl|h;exact Qb;exact zn0 h.1
def XY{x:Str}(h:HD x):MC [.str x]=↑(.ok<|.bl true):=by
 have e:=Hr (K2 h) Qb;unfold MC Tf;by_cases q:x=Str.ofString "/";rw[Ì q]at e
 simp![e]
 rw[Ý q]at e;have en:=c9 (h.resolve_left q).1 (h.resolve_left q).2.1 (h.resolve_left q).2.2
 simp![e,en]
abbrev RL:Stmt:=AK 36
def Oj:AG:=
 (CA (m2 BM (AA 0)<|mC<|.str "/")<|AJ MD<|AB (AA 0) AE)
def Th:AH:=
 (AF (A4 (CA (BQ<|m1 (Cv "str")<|AA 0)<|BQ<|Gp GQ GQ (mC<|.int 1) (m1 Bd<|AA 0)<|mC<|.int 60) (AN<|mC<|.bl false) Ab)
 (AN<|m1 Dw<|Ax 1 [] (Au<|AA 0) (AD 0) (mC<|.bl true) Oj))
def PL:qF->Option Ru:=AZ 1 1 Th
abbrev iJ:=fA 2 1 RL PL
abbrev zbo:Gm:=gA RL 1 [("is_small_letter",VM)] ["isinstance","str","len","all"]
theorem zbv:Ck zbo iJ RL Th:={}
def Wi(x:Str):Prop:=∀i,i<x.cps.size->x.cps.getD i 0=47\/(97<=x.cps.getD i 0/\x.cps.getD i 0<=122)
def Y9{x:Str}(h:Wi x):PyData.strOk x=true:=by
 unfold PyData.strOk;rw[Array.all_eq_true];intro i a;have:=h i a;rw[Array.getD_eq_getD_getElem?,Ĳ a]at this;erw[ŕ]at this
 lia
def rn_ok{x:Str}(h:Wi x)(r:1<=x.cps.size)(s:x.cps.size<=60):PL [.str x]=↑(.ok<|.bl true):=by
 have l1:x.cps.size<=100000:=by lia
 have m:=Cj (me:=Oj) (x:=none) (cs:=[]) (g:=λi=>.str {#[x.cps.getD i 0]}) (f:=λϊ=>.bl true) λi b=>by
  have p:PyData.strOk (Str.mk #[x.cps.getD i 0])=true:=Y9 λj k=>by
   have l:j<1:=k;have e:j=0:=by lia
   subst e;exact h i b
  have e:=Hr p Qb;by_cases q:x.cps.getD i 0=47
  have n:Str.mk #[x.cps.getD i 0]=Str.ofString "/":=by
   rw[q];exact Tx.cs_ext<|by decide +kernel
  rw[Ì n]at e;unfold Oj
  simp![e]
  have n:¬ (Str.mk #[x.cps.getD i 0]=Str.ofString "/"):=λt=>by
   have a:(Str.ofString "/").cps=#[47]:=by decide +kernel
   lia
  rw[Ý n]at e;have hh:=(h i b).resolve_left q;unfold Oj
  simp![e,YI hh.1 hh.2]
 have a:decide ((1:Int)<=x.length)=true:=Ì (by show 1<=(x.cps.size:Int);lia);have d:decide ((x.length:Int)<=60)=true:=Ì (by show(x.cps.size:Int)<=60;lia);have o:x.length<=100000:=l1;have c:((List.range x.cps.size).map λϊ=>true).all id=true:=by simp
 unfold PL Th
 simp![YM,m,l1,a,d,o,Ju,c]
abbrev RH:Stmt:=AK 8
def d9:AH:=
 (AN<|Cc (m1 (Cv "int")<|AA 0)<|BQ<|m1 (Cv "bool")<|AA 0)
def MB:qF->Option Ru:=AZ 1 1 d9
abbrev VJ:=fA 1 1 RH MB
abbrev zeg:Gm:=gA RH 0 [] ["isinstance","int","bool"]
theorem zev:Ck zeg VJ RH d9:={}
def zfx(i:Int):MB [.int i]=↑(.ok<|.bl true):=by rfl
abbrev RN:Stmt:=AK 25
def eA:AH:=
 (AN<|Cc (AJ MB<|AB (AA 0) AE)<|m2 (C0 λi j=>decide (j<=i)) (AA 0)<|mC<|.int 0)
def Wk:qF->Option Ru:=AZ 1 1 eA
abbrev iK:=fA 2 1 RN Wk
abbrev zda:Gm:=gA RN 1 [("is_whole",VJ)] []
theorem zdo:Ck zda iK RN eA:={}
def zlh(i:Int):Wk [.int i]=↑(.ok<|.bl<|decide (0<=i)):=by
 rfl
abbrev RP:Stmt:=AK 24
def Tn:AH:=
 (AF (A4 (CA (BQ<|m1 (Cv "tuple")<|AA 0)<|m2 DV (m1 Bd<|AA 0)<|mC<|.int 3) (AN<|mC<|.bl false) Ab)
 (AN<|Cc (m2 EJ (AW (AA 0)<|mC<|.int 0)<|AA 1)<|Cc (m2 EJ (AW (AA 0)<|mC<|.int 1)<|AA 2)<|AJ Wk<|AB (AW (AA 0)<|mC<|.int 2) AE))
def PM:qF->Option Ru:=AZ 3 3 Tn
abbrev iL:=fA 3 3 RP PM
abbrev zfh:Gm:=gA RP 2 [("is_number",iK)] ["isinstance","tuple","len"]
theorem zfs:Ck zfh iL RP Tn:={}
def CB:ky:=["<","<=",">",">=","="]
def X3:Cm CB:=by unfold Cm;decide +kernel
abbrev RQ:Stmt:=AK 26
def WC:AG:=
 (AJ PM<|AB (AA 0)<|AB (AA 1)<|AB (AA 2) AE)
def To:AH:=
 (AN<|Cc (m1 (Cv "list")<|AA 0)<|m1 Dw<|Ax 1 [1,2] (Au<|AA 0) (AD 0) (mC<|.bl true) WC)
def KH:qF->Option Ru:=AZ 3 3 To
abbrev OS:=fA 4 3 RQ KH
abbrev zeh:Gm:=gA RQ 3 [("is_look",iL)] ["isinstance","list","all"]
theorem zew:Ck zeh OS RQ To:={}
abbrev Rk:Stmt:=AK 42
def UJ:AH:=
 (AN<|m2 BM (m1 K6<|AA 0)<|m1 Bd<|AA 0)
def KJ:qF->Option Ru:=AZ 1 1 UJ
abbrev OX:=fA 1 1 Rk KJ
abbrev zck:Gm:=gA Rk 0 [] ["len","set"]
theorem zcr:Ck zck OX Rk UJ:={}
def dU{val:Nat->L2.Key}{n:Nat}(h:∀i j,i<n->j<n->val i=val j->i=j):∀k,k<=n->(met val k).length=k/\∀x∈met val k,∃i,i<k/\x=val i
 |0,ϊ=>{rfl,λx a=>by cases a}|k+1,hk=>by
  let(d,b):=dU h k<|by lia
  have f:val k∉met val k:=λz=>by
   let(i,c,e):=b _ z;have:=h k i (by lia) (by lia) e
   lia
  have e:met val (k+1)=met val k++[val k]:=by
   conv=>lhs;unfold met
   lia
  rw[e];refine{by simp_all,λx a=>?_};rcases Ø.mp a with q|q;let(i,c,e):=b x q;exact{i,by lia,e};exact{k,by lia,È.mp q}
def zmn{ys:ky}(h:ys.Nodup):QW ys=ys.length:=by
 refine(dU (λi j b c e=>?_) ys.length<|Ä _).1;have a:=Sum.inr.inj e;rw[Þ,Þ,Á b,Á c]at a;exact(ö h).mp a
def QX{ys:ky}(h:ys.Nodup)(a:ys.length<1000):KJ [.lst<|ys.map T.str]=↑(.ok<|.bl true):=by
 have e:(ys.length == ys.length)=true:=Ą _;unfold KJ UJ
 simp![K6,BX,Q5,a,zmn h,DW,e,À]
abbrev Rc:Stmt:=AK 41
def WJ:AG:=
 (AJ MC<|AB (AA 0) AE)
def UD:AH:=
 (AF (A4 (CA (BQ<|m1 (Cv "list")<|AA 0)<|m2 (C0 λi j=>decide (j<i)) (m1 Bd<|AA 0)<|mC Nx) (C4 "BadMachine"<|AB (mC<|.str "a machine's watches are a list of at most seven") AE) Ab)
 (A4 (CA (BQ<|m1 Dw<|Ax 1 [] (Au<|AA 0) (AD 0) (mC<|.bl true) WJ)<|BQ<|AJ KJ<|AB (AA 0) AE) (C4 "BadMachine"<|AB (mC<|.str "a machine's watches are unlike names") AE) Ab))
def P0:qF->Option Ru:=AZ 1 1 UD
abbrev iX:=fA 4 1 Rc P0
abbrev zb4:Gx:={ B9 with co:=[("MOST_WATCHES",Nx)] }
abbrev zb9:Gm:=gA Rc 3 [("is_watch_name",VL),("are_unlike",OX)] ["isinstance","list","len","all"] (ex:=["BadMachine"]) (ox:=zb4)
theorem zbe:Ck zb9 iX Rc UD:={}
theorem Kb(ws:ky):ws.map T.str=mT ws.length λi=>.str<|ws.getD i Str.empty:=Es (by simp_all) λi a=>by
 simp_all
def cw_ok{ws:ky}(h:∀x∈ws,HD x)(hd:ws.Nodup)(j:ws.length<=7):P0 [.lst<|ws.map T.str]=↑(.ok .non):=by
 have a:=Cj (n:=ws.length) (me:=WJ) (x:=none) (cs:=[]) (g:=λi=>.str<|ws.getD i Str.empty) (f:=λϊ=>.bl true) λi e=>by
  have d:ws.getD i Str.empty∈ws:=by
   simp_all
  unfold WJ
  simp![XY<|h _ d]
 rw[<- Kb]at a;have l1:ws.length<=100000:=by lia
 have c:decide (7<(ws.length:Int))=false:=Ý<|by lia
 have b:((List.range ws.length).map λϊ=>true).all id=true:=by simp
 have un:=QX hd<|by lia
 unfold P0 UD Nx
 simp![BX,Av,À,a,l1,c,Ju,b,un]
abbrev Rf:Stmt:=AK 43
def QJ:AH:=
 (AF (A4 (CA (BQ<|m1 (Cv "tuple")<|AA 2)<|m2 DV (m1 Bd<|AA 2)<|mC<|.int 2) (C4 "BadMachine"<|AB (mC<|.str "a room is a tuple of a name and a stay") AE) Ab)
 (A4 (CA (BQ<|AJ PL<|AB (AW (AA 2)<|mC<|.int 0) AE)<|BQ<|AJ KH<|AB (AW (AA 2)<|mC<|.int 1)<|AB (AA 1)<|AB (mC Nw) AE) (C4 "BadMachine"<|AB (mC<|.str "a room has a name, and a stay of the machine's watches") AE) Ab))
def WK:AG:=
 (AW (AA 0)<|mC<|.int 0)
def UE:AH:=
 (AF (A4 (CA (BQ<|m1 (Cv "list")<|AA 0)<|m2 BM (m1 Bd<|AA 0)<|mC<|.int 0) (C4 "BadMachine"<|AB (mC<|.str "a machine's rooms are a list of one or more") AE) Ab)
 (AF (Bc (Au<|AA 0) (AD 2) QJ)
 (A4 (BQ<|AJ KJ<|AB (Ax 1 [] (Au<|AA 0) (AD 0) (mC<|.bl true) WK) AE) (C4 "BadMachine"<|AB (mC<|.str "no two rooms have one name") AE) Ab)))
def P5:qF->Option Ru:=AZ 2 3 UE
abbrev iY:=fA 5 2 Rf P5
abbrev zc1:Gx:={ B9 with co:=[("STAY_WORDS",Nw)] }
abbrev zc6:Gm:=gA Rf 4 [("is_room_name",iJ),("is_guard",OS),("are_unlike",OX)] ["isinstance","list","len","tuple"] (ex:=["BadMachine"]) (ox:=zc1) (N:=["rooms","watches","room"])
theorem zcc:Ck zc6 iY Rf UE:={}
def Ca(ws wd:ky)(l:qF):Prop:=∀t∈l,∃x y n,t=.tup [.str x,.str y,.int n]/\x∈ws/\y∈wd/\0<=n
def Ca.sh{ws wd:ky}{l:qF}(h:Ca ws wd l):AX l=true:=by
 rw[CM,Ò];intro t a;let(x,y,n,rfl,_):=h t a
 rfl
theorem Ca.more{ws vs wd:ky}{l:qF}(h:Ca ws wd l)(d:∀x∈ws,x∈vs):Ca vs wd l:=λt f=>by
 let(x,y,n,e,a,b,c):=h t f;exact{x,y,n,e,d x a,b,c}
abbrev LP(wd:ky):T:=.nd false .rt<|wd.map T.str
def zlo{ws wd:ky}(h:Cm ws)(hd:Cm wd){t:T}(g:∃x y n,t=.tup [.str x,.str y,.int n]/\x∈ws/\y∈wd/\0<=n):PM [t,.lst<|ws.map T.str,LP wd]=↑(.ok<|.bl true):=by
 let(x,y,n,rfl,d,e,f):=g;have a:=Jk (o:=false) (k:=.lst) h<|h x d;have b:=Jk (o:=false) (k:=.rt) hd<|hd y e;have c:=zlh n;rw[Ì d]at a;rw[Ì e]at b;rw[Ì f]at c;unfold PM Tn
 simp![HX,BX,Av,a,b,c]
def Ut{ws wd:ky}(h:Cm ws)(hd:Cm wd){l:qF}(n:l.length<=1000)(hk:Ca ws wd l):KH [.lst l,.lst<|ws.map T.str,LP wd]=↑(.ok<|.bl true):=by
 have b:=hk.sh;have k:=AI l b;have em:=mT_of l .non
 have d:∀i,(l.getD i .non).sh=true:=λi=>by
  by_cases a:i<l.length;rw[Þ,Á a];rw[CM,Ò]at b;exact b _<|ç a
  rw[Þ,ć<|by lia];rfl
 have c:=Cj (me:=WC) (x:=none) (cs:=[↑(.lst<|ws.map T.str),↑(LP wd)]) (g:=λi=>l.getD i .non) (f:=λϊ=>.bl true) λi a=>by
  have m:l.getD i .non∈l:=by
   rw[Þ,Á a];exact ç a
  have e:=zlo h hd<|hk _ m;unfold WC
  simp![BX,Av,e,AO _<|d i,d i]
 rw[<- em]at c;have l1:l.length<=100000:=by lia
 have j:((List.range l.length).map λϊ=>true).all id=true:=by simp
 unfold KH To
 simp![BX,Av,b,k,l1,c,Ju,j]
def FD:ky:=["<","<="]
def zpy:Nw=LP FD:=rfl
def fK:Jf=LP CB:=rfl
def st_tx:Cm FD:=by unfold Cm;decide +kernel
structure RsOk(ws:ky)(rs:List<|Str×qF):Prop where
 l1:1<=rs.length
 l64:rs.length<=64
 nm:∀r∈rs,Wi r.1/\1<=r.1.cps.size/\r.1.cps.size<=60
 nd:(rs.map (·.1)).Nodup
 lk:∀r∈rs,Ca ws FD r.2/\r.2.length<=1000
abbrev AL(r:Str×qF):T:=.tup [.str r.1,.lst r.2]
abbrev Fx(rs:List<|Str×qF):T:=.lst<|rs.map AL
def JX{ws:ky}{rs:List<|Str×qF}(h:RsOk ws rs):AX (rs.map AL)=true:=by
 rw[CM,Ò];intro t b;let(r,a,rfl):=Ê.mp b;have:=(h.lk r a).1.sh;show((!false) && (true && (((!false) && AX r.2) && true)))=true
 lia
def zmb{ws:ky}(u:Cm ws){rs:List<|Str×qF}(h:RsOk ws rs):P5 [Fx rs,.lst<|ws.map T.str]=↑(.ok .non):=by
 have sr:=JX h;have o:=AI _ sr;have q:=h.l1;have s:=h.l64;have en:(((rs.map AL).length:Int) == 0)=false:=by rw[beq_eq_false_iff_ne,À];lia
 let(Y,e,y,rfl):=Ey (b:=AD 2) (body:=QJ) (ts:=rs.map AL) (Y:=[↑(Fx rs),↑(.lst<|ws.map T.str),none]) (λi Y=>∃y,Y=[↑(Fx rs),↑(.lst<|ws.map T.str),y]) {_,rfl} λi t Y a d=>by
  let(y,rfl):=d;let(r,j,rfl):=Ê.mp<|ĳ a;let(x,n2,z):=h.nm r j;let(c,v):=h.lk r j;have l:=rn_ok x n2 z;have m:=Ut u st_tx v c;have g:=c.sh;refine{[↑(Fx rs),↑(.lst<|ws.map T.str),↑(AL r)],by simp![],[↑(Fx rs),↑(.lst<|ws.map T.str),↑(AL r)],?_,_,rfl}
  unfold QJ
  simp![zpy,HX,BX,Av,l,m,g,AI _ g]
 have k:=Nv (b:=AD 0) (me:=WK) (ts:=rs.map AL) (λϊ Y=>∃y,Y=[y]) (λi=>.str ((rs.map (·.1)).getD i Str.empty)) {(none),rfl} λi t Y a d=>by
  let(y,rfl):=d;have f :=by simpa using (É.mp a).1
  rw[Î,Á f]at a;have p :=(Ù a).symm;subst p;have c:=(h.lk rs[i]<|ç f).1.sh;have n:(rs.map (·.1)).getD i Str.empty=rs[i].1:=by simp[f]
  refine{[↑(AL rs[i])],by simp![],?_,_,rfl};rw[n];unfold WK
  simp![c]
 have em:(List.range (rs.map AL).length).map (λi=>T.str ((rs.map (·.1)).getD i Str.empty))=(rs.map (·.1)).map T.str:=by
  rw[Kb (rs.map (·.1)),À,À];rfl
 rw[em]at k;have un:=QX h.nd (by rw[À];lia)
 have w:(rs.map AL).length<=100000:=by rw[À];lia
 unfold P5 UE
 simp![DW,BX,Av,sr,o,en,e,k,un,w]
abbrev Rl:Stmt:=AK 45
def WN:AG:=
 (AJ MC<|AB (AA 0) AE)
def WM:AG:=
 (m2 EJ (AA 0)<|AA 1)
def UK:AH:=
 (AF (A4 (CA (BQ<|m1 (Cv "list")<|AA 0)<|BQ<|m1 Dw<|Ax 1 [] (Au<|AA 0) (AD 0) (mC<|.bl true) WN) (AN<|mC<|.bl false) Ab)
 (AN<|Cc (AJ KJ<|AB (AA 0) AE)<|m1 Dw<|Ax 1 [1] (Au<|AA 0) (AD 0) (mC<|.bl true) WM))
def P7:qF->Option Ru:=AZ 2 2 UK
abbrev i3:=fA 4 2 Rl P7
abbrev zc8:Gm:=gA Rl 3 [("is_watch_name",VL),("are_unlike",OX)] ["isinstance","list","all"]
theorem zce:Ck zc8 i3 Rl UK:={}
def zp9{ws ns:ky}(c:∀x∈ws,HD x)(b:∀x∈ns,x∈ws)(hd:ns.Nodup)(l:ns.length<=100):P7 [.lst<|ns.map T.str,.lst<|ws.map T.str]=↑(.ok<|.bl true):=by
 have tw :=λx j=>K2<|c x j
 have mem:∀i,i<ns.length->ns.getD i Str.empty∈ns:=λi a=>by
  simp_all
 have d:=Cj (n:=ns.length) (me:=WN) (x:=none) (cs:=[]) (g:=λi=>.str<|ns.getD i Str.empty) (f:=λϊ=>.bl true) λi a=>by
  unfold WN
  simp![XY<|c _<|b _<|mem i a]
 have EW:=Cj (me:=WM) (x:=none) (cs:=[↑(.lst<|ws.map T.str)]) (g:=λi=>.str<|ns.getD i Str.empty) (f:=λϊ=>.bl true) λi a=>by
  have e:=Jk (o:=false) (k:=.lst) tw<|tw _<|b _<|mem i a;rw[Ì<|b _<|mem i a]at e;unfold WM
  simp![BX,Av,e]
 rw[<- Kb]at d EW;have l1:ns.length<=100000:=by lia
 have h:((List.range ns.length).map λϊ=>true).all id=true:=by simp
 have un:=QX hd<|by lia
 unfold P7 UK
 simp![BX,Av,À,d,EW,l1,Ju,h,un]
abbrev RK:Stmt:=AK 37
def Na:AH:=
 (AF (A4 (BQ<|m1 (Cv "str")<|AA 0) (AN<|mC<|.bl false) Ab)
 (AN<|CA (m2 BM (AA 0)<|mC<|.str "")<|Cc (m2 EJ (AW (AA 0)<|m1 EV<|mC<|.int 1)<|Bw<|AB (mC<|.str "!")<|AB (mC<|.str "?") AE)<|AJ ME<|AB (Aw (Dn (AA 0) none<|↑(m1 EV<|mC<|.int 1))<|EG (AA 0) none<|↑(m1 EV<|mC<|.int 1)) AE))
def KE:qF->Option Ru:=AZ 1 1 Na
abbrev iI:=fA 3 1 RK KE
abbrev zfe:Gm:=gA RK 2 [("is_name",VO)] ["isinstance","str"]
theorem zfp:Ck zfe iI RK Na:={}
def Ls(z:Str):Prop:=z=Str.ofString ""\/∃(y:Str) (c:Nat),KA y/\1<=y.cps.size/\y.cps.size<=8/\(c=33\/c=63)/\Tx.cs z=Tx.cs y++[c]
def zn1{y:Str}(h:KA y):∀c∈Tx.cs y,97<=c/\c<=122:=λc a=>by
 let(i,b):=List.getElem?_of_mem a;have d :=by simpa using (É.mp b).1
 have:=h i d;simp_all
def zk4{z:Str}(h:Ls z):∀c∈Tx.cs z,c<128/\c≠32/\c≠10/\c≠58:=λc a=>by
 rcases h with rfl|⟨y,d,b,_,_,hd,e⟩;cases a;rw[e]at a;rcases Ø.mp a with a|a;have:=zn1 b c a;lia;rw[È.mp a];lia
def YL{z:Str}(h:Ls z):PyData.strOk z=true:=zr0 λc a=>(zk4 h c a).1
def zn5{z:Str}(h:Ls z):KE [.str z]=↑(.ok<|.bl true):=by
 have k:PyData.strOk (Str.ofString "")=true:=by decide +kernel
 have s:∀c,(c=33\/c=63)->EJ (.str<|Str.mk #[c]) (.tup [.str<|Str.ofString "!",.str<|Str.ofString "?"])=↑(.bl true):=λc b=>by
  rcases b with rfl|rfl<;>ext
 have j:∀z y:Str,PyData.strOk z=true->z≠Str.ofString ""->z.length<=100000->∀c,(c=33\/c=63)->Ar z.cps.toList (-1)=↑c->Txt.slice z none (↑(-1))=y->KA y->1<=y.cps.size->y.cps.size<=8->KE [.str z]=↑(.ok<|.bl true):=by
  intro z y r i a c b o p f g d;have e:=Hr r k;rw[Ý i]at e;have en:=c9 f g d;unfold KE Na
  simp![e,a,o,s c b,EG,p,en,show(-(1:Int))=-1 from rfl]
 rcases id h with rfl|⟨y,c,f,g,d,b,e⟩;have e:=Hr k k;rw[Ì rfl]at e;unfold KE Na
 simp![e]
 have a:(Tx.cs z).length=(Tx.cs y).length+1:=by rw[e,Ü];rfl
 have n:(Tx.cs y).length<=8:=d;refine j z y (YL h) (λq=>?_) (by rw[Tx.cs_len];lia) c b ?_ ?_ f g d;rw[q,show Tx.cs (Str.ofString "")=[] by decide +kernel]at a;exact absurd a (by rw[ģ];lia);show Ar (Tx.cs z) (-1)=↑c;rw[e];unfold Ar Bk;rw[Ü,Ŋ,if_neg (by decide),if_pos<|by lia];show(Tx.cs y++[c])[((-1:Int)+((Tx.cs y).length+1:Nat)).toNat]?=↑c;rw[show((-1:Int)+((Tx.cs y).length+1:Nat)).toNat=(Tx.cs y).length by lia,ą<|Ä _,Nat.sub_self];rfl;have l:Txt.slice z none (↑(-1))=StrLaws.sliceText z none (↑(-1)):=rfl;rw[l,StrLaws.sliceText_neg_hi z none (by decide) (by rw[Tx.cs_len,a];lia)];have m:(-1+z.length)=((Tx.cs y).length:Int):=by rw[Tx.cs_len,a];lia
 rw[m];refine Tx.cs_ext ?_;show Tx.cs (Txt.slice z none<|↑(((Tx.cs y).length:Nat):Int))=Tx.cs y;rw[Tx.sl_to (by lia),e,List.take_left' rfl]
abbrev Qo:Stmt:=AK 38
def T3:AH:=
 (AN<|EH (m1 (Cv "list")<|AA 0) (m1 Dt<|AA 0)<|AA 0)
def Lx:qF->Option Ru:=AZ 1 1 T3
abbrev gZ:=fA 1 1 Qo Lx
abbrev zec:Gm:=gA Qo 0 [] ["isinstance","list"]
theorem zer:Ck zec gZ Qo T3:={}
def Z9(l:qF)(h:AX l=true):Lx [.lst l]=↑(.ok<|.own l):=by
 unfold Lx T3
 simp![h,AI _ h]
abbrev Rh:Stmt:=AK 44
def QK:AH:=
 (AF (A4 (BQ<|m1 (LX V8)<|AA 3) (C4 "BadMachine"<|AB (mC<|.str "a machine's doors are doors") AE) Ab)
 (AF (A4 (CA (m2 GD (AU B8 Be 0<|AA 3)<|AA 1)<|m2 GD (AU B8 Be 1<|AA 3)<|AA 1) (C4 "BadMachine"<|AB (mC<|.str "a door leads from one room of the machine to another") AE) Ab)
 (AF (A4 (BQ<|AJ KH<|AB (AU B8 Be 2<|AA 3)<|AB (AA 2)<|AB (mC Jf) AE) (C4 "BadMachine"<|AB (mC<|.str "a door's guard is one of the machine's watches") AE) Ab)
 (A4 (CA (BQ<|AJ P7<|AB (AU B8 Be 3<|AA 3)<|AB (AA 2) AE)<|BQ<|AJ KE<|AB (AU B8 Be 4<|AA 3) AE) (C4 "BadMachine"<|AB (mC<|.str "a door sets watches of the machine, each once, and has at most one sign") AE) Ab))))
def UG:AH:=
 (AF (A4 (BQ<|m1 (Cv "list")<|AA 0) (C4 "BadMachine"<|AB (mC<|.str "a machine's doors are a list") AE) Ab)
 (Bc (Au<|AA 0) (AD 3) QK))
def P6:qF->Option Ru:=AZ 3 4 UG
abbrev iZ:=fA 5 3 Rh P6
abbrev zc2:Gx:={ B9 with co:=[("WORDS",Jf)],cl:=[("Door",B8,Be)],ci:=[("Door",V8)] }
abbrev zc7:Gm:=gA Rh 4 [("is_guard",OS),("are_noughts",i3),("is_sign",iI)] ["isinstance","list"] (ex:=["BadMachine"]) (ox:=zc2)
theorem zcd:Ck zc7 iZ Rh UG:={}
structure Dr where
 s:Str
 e:Str
 g:qF
 n:ky
 z:Str
abbrev qC:=List Dr
abbrev BG(d:Dr):T:=.obj (.ins B8 Be) [.str d.s,.str d.e,.lst d.g,.lst<|d.n.map T.str,.str d.z]
structure DrOk(ws ns:ky)(d:Dr):Prop where
 s:d.s∈ns
 e:d.e∈ns
 g:Ca ws CB d.g
 gl:d.g.length<=1000
 n:∀x∈d.n,x∈ws
 nd:d.n.Nodup
 nl:d.n.length<=100
 z:Ls d.z
def Js{ws ns:ky}{d:Dr}(h:DrOk ws ns d):(BG d).sh=true:=by
 have:=h.g.sh
 simp![this,Av]
def cY{ys:ky}{x:Str}{o:Bool}{k:Kd}(h:Cm ys)(a:PyData.strOk x=true):GD (.str x) (.nd o k<|ys.map T.str)=↑(.bl<|!decide (x∈ys)):=by
 have e:=Jk (o:=o) (k:=k) h a;unfold EJ at e;unfold GD;lia
def zmd{ws ns:ky}(j:∀x∈ws,HD x)(a:Cm ns){ds:qC}(h:∀d∈ds,DrOk ws ns d):P6 [.lst<|ds.map BG,.lst<|ns.map T.str,.lst<|ws.map T.str]=↑(.ok .non):=by
 have tw :=λx u=>K2<|j x u
 have sd:AX (ds.map BG)=true:=by
  rw[CM,Ò];intro t s;let(d,hd,rfl):=Ê.mp s;exact Js<|h d hd
 have p:=AI _ sd
 let(Y,e,y,rfl):=Ey (b:=AD 3) (body:=QK) (ts:=ds.map BG) (Y:=[↑(.lst<|ds.map BG),↑(.lst<|ns.map T.str),↑(.lst<|ws.map T.str),none]) (λi Y=>∃y,Y=[↑(.lst<|ds.map BG),↑(.lst<|ns.map T.str),↑(.lst<|ws.map T.str),y]) {_,rfl} λi t Y q r=>by
  let(y,rfl):=r;let(d,hd,rfl):=Ê.mp<|ĳ q;have k:=h d hd;have c:=cY (o:=false) (k:=.lst) a<|a _ k.s;have f:=cY (o:=false) (k:=.lst) a<|a _ k.e;rw[Ì k.s]at c;rw[Ì k.e]at f;have l:=Ut tw X3 k.gl k.g;have m:=zp9 j k.n k.nd k.nl;have n:=zn5 k.z;have g:=k.g.sh;have ci:List.lookup B8 V8=↑true:=rfl;refine{[↑(.lst<|ds.map BG),↑(.lst<|ns.map T.str),↑(.lst<|ws.map T.str),↑(BG d)],by simp![],[↑(.lst<|ds.map BG),↑(.lst<|ns.map T.str),↑(.lst<|ws.map T.str),↑(BG d)],?_,_,rfl}
  unfold QK
  simp![fK,LX,ci,BX,Av,c,f,l,m,n,g,AI _ g]
 unfold P6 UG
 simp![BX,Av,sd,p,e]
abbrev Y1:Stmt:=BY 39 0
def U1:AH:=
 (AF (CN B8 Be 0 0<|AA 1)
 (AF (CN B8 Be 1 0<|AA 2)
 (AF (CN B8 Be 2 0<|AJ Lx<|AB (AA 3) AE)
 (AF (CN B8 Be 3 0<|AJ Lx<|AB (AA 4) AE)
 (CN B8 Be 4 0<|AA 5)))))
def Wn:qF->Option Ru:=E7 B8 Be 6 6 U1
abbrev VZ:Fn:={2,["self","start","end","guard","noughts","sign"],Wn}
abbrev zd5:Gx:={ B9 with sf:=↑(B8,Be) }
abbrev zdi:Gm:=gA Y1 1 [("own_copy",gZ)] [] (ox:=zd5)
theorem zdw:Ck zdi VZ Y1 U1:={}
def di_ok{ws ns:ky}{d:Dr}(h:DrOk ws ns d):Wn [.str d.s,.str d.e,.lst d.g,.lst<|d.n.map T.str,.str d.z]=↑(.ok<|BG d):=by
 have a:=h.g.sh;have b:=Z9 d.g a;have c:=Z9 (d.n.map T.str)<|Av _;refine Mx λp=>?_
 unfold Fw U1
 simp![b,c,a,AI _ a,BX,Av]
abbrev Y0:Stmt:=BY 40 0
def WZ:AG:=
 (AA 0)
def QN:AH:=
 (JV Ac Ad 1 0 (AA 4)<|m1 Dt<|AA 5)
def UW:AH:=
 (AF (IQ<|AJ P0<|AB (AA 1) AE)
 (AF (IQ<|AJ P5<|AB (AA 2)<|AB (AA 1) AE)
 (AF (IQ<|AJ P6<|AB (AA 3)<|AB (Ax 2 [] (Au<|AA 2) (Ay 2<|AQ (AD 0)<|AQ (AD 1) BA) (mC<|.bl true) WZ)<|AB (AA 1) AE)
 (AF (A4 (CA (m2 (C0 λi j=>decide (j<i)) (m1 Bd<|AA 2)<|mC Ny)<|m2 (C0 λi j=>decide (j<i)) (m1 Bd<|AA 3)<|mC Nz) (C4 "TooMany"<|AB (mC<|.str "a machine has at most 64 rooms and at most 200 doors") AE) Ab)
 (AF (CN Ac Ad 0 0<|m1 Dt<|AA 1)
 (AF (CN Ac Ad 1 0 Hf)
 (AF (Bc (Au<|AA 2) (Ay 2<|AQ (AD 4)<|AQ (AD 5) BA) QN)
 (CN Ac Ad 2 0<|m1 Dt<|AA 3))))))))
def Pf:qF->Option Ru:=E7 Ac Ad 4 6 UW
abbrev VW:Fn:={6,["self","watches","rooms","doors"],Pf}
abbrev zbm:Gx:={ B9 with co:=[("MOST_ROOMS",Ny),("MOST_DOORS",Nz)],sf:=↑(Ac,Ad) }
abbrev zbs:Gm:=gA Y0 5 [("check_watches",iX),("check_rooms",iY),("check_doors",iZ)] ["len","list"] (ex:=["TooMany"]) (ox:=zbm) (N:=["self","watches","rooms","doors","name","stay"])
theorem zbz:Ck zbs VW Y0 UW:={}
structure Mc where
 ws:ky
 rs:List (Str×qF)
 ds:qC
abbrev qD:=List Mc
abbrev CO(M:Mc):T:=.obj (.ins Ac Ad) [.lst<|M.ws.map T.str,.obj (.sdc (M.rs.map (·.1)))<|M.rs.map λr=>.lst r.2,.lst<|M.ds.map BG]
structure McOk(M:Mc):Prop where
 w:∀x∈M.ws,HD x
 wd:M.ws.Nodup
 wl:M.ws.length<=7
 r:RsOk M.ws M.rs
 d:∀d∈M.ds,DrOk M.ws (M.rs.map (·.1)) d
 dl:M.ds.length<=200
theorem McOk.tw{M:Mc}(h:McOk M):Cm M.ws:=λx a=>K2<|h.w x a
theorem McOk.tn{M:Mc}(h:McOk M):Cm (M.rs.map (·.1)):=λx b=>by
 let(r,a,rfl):=Ê.mp b;exact Y9 (h.r.nm r a).1
def McOk.sd{M:Mc}(h:McOk M):AX (M.ds.map BG)=true:=by
 rw[CM,Ò];intro t a;let(d,hd,rfl):=Ê.mp a;exact Js<|h.d d hd
def McOk.ss{M:Mc}(h:McOk M):AX (M.rs.map λr=>T.lst r.2)=true:=by
 rw[CM,Ò];intro t b;let(r,a,rfl):=Ê.mp b;show((!false) && AX r.2)=true;rw[(h.r.lk r a).1.sh]
 rfl
def McOk.sh{M:Mc}(h:McOk M):(CO M).sh=true:=by
 simp![Av,h.ss,h.sd]
def zlj{M:Mc}(h:McOk M):Pf [.lst<|M.ws.map T.str,Fx M.rs,.lst<|M.ds.map BG]=↑(.ok<|CO M):=by
 have w:=cw_ok h.w h.wd h.wl;have v:=zmb h.tw h.r;have cd:=zmd h.w h.tn h.d;have sr:=JX h.r;have C:=AI _ sr;have sd:=h.sd;have A:=AI _ sd;have a:=h.r.l1;have E:=h.r.l64;have o:=h.dl
 have u:=Nv (b:=Ay 2<|AQ (AD 0)<|AQ (AD 1) BA) (me:=WZ) (ts:=M.rs.map AL) (λϊ Y=>∃x y,Y=[x,y]) (λi=>.str ((M.rs.map (·.1)).getD i Str.empty)) {(none),none,rfl} λi t Y a k=>by
  let(x,y,rfl):=k;have c:i<M.rs.length:=by simpa using (É.mp a).1
  rw[Î,Á c]at a;have f :=(Ù a).symm;subst f;have B:(M.rs.map (·.1)).getD i Str.empty=M.rs[i].1:=by simp[c]
  refine{[↑(.str M.rs[i].1),↑(.lst M.rs[i].2)],by simp![],?_,_,_,rfl};rw[B];unfold WZ
  simp![]
 have em:(List.range (M.rs.map AL).length).map (λi=>T.str ((M.rs.map (·.1)).getD i Str.empty))=(M.rs.map (·.1)).map T.str:=by
  rw[Kb (M.rs.map (·.1)),À,À];rfl
 rw[em]at u;have G:(M.rs.map AL).length<=100000:=by rw[À];lia
 have g1:decide ((64:Int)<((M.rs.map AL).length:Int))=false:=Ý (by rw[À];lia);have g2:decide ((200:Int)<((M.ds.map BG).length:Int))=false:=Ý (by rw[À];lia);refine Mx λp=>?_
 let(Y,e,x,y,rfl):=Ey (b:=Ay 2<|AQ (AD 4)<|AQ (AD 5) BA) (body:=QN) (ts:=M.rs.map AL) (Y:=[↑(.oob p Ac Ad [.own<|M.ws.map T.str,.osd [] []]),↑(.lst<|M.ws.map T.str),↑(Fx M.rs),↑(.lst<|M.ds.map BG),none,none])
  (λi Y=>∃x y,Y=[↑(.oob p Ac Ad [.own<|M.ws.map T.str,.osd ((M.rs.take i).map (·.1))<|(M.rs.take i).map λr=>.lst r.2]),↑(.lst<|M.ws.map T.str),↑(Fx M.rs),↑(.lst<|M.ds.map BG),x,y]) {none,none,by rw[List.take_zero];rfl} λi t Y a k=>by
  let(x,y,rfl):=k;have c:i<M.rs.length:=by simpa using (É.mp a).1
  rw[Î,Á c]at a;have f :=(Ù a).symm;subst f;have s:=(h.r.lk _<|ç c).1.sh
  have m:M.rs[i].1∉(M.rs.take i).map (·.1):=λq=>by
   rw[List.map_take]at q;let(j,F,n):=Ō.mp q;rw[û,À]at F;have l:=h.r.nd;rw[List.getElem_take]at n;have z:(M.rs.map (·.1))[j]'(by rw[À];lia)=(M.rs.map (·.1))[i]'(by rw[À];exact c):=by rw[n,Ķ]
   have:=(ö l).mp z;lia
  have d:((M.rs.take i).map (·.1)).length<100000:=by
   rw[À,û];lia
  have g:M.rs.take (i+1)=M.rs.take i++[M.rs[i]]:=by rw[List.take_append_getElem]
  refine{[↑(.oob p Ac Ad [.own<|M.ws.map T.str,.osd ((M.rs.take i).map (·.1))<|(M.rs.take i).map λr=>.lst r.2]),↑(.lst<|M.ws.map T.str),↑(Fx M.rs),↑(.lst<|M.ds.map BG),↑(.str M.rs[i].1),↑(.lst M.rs[i].2)],by simp![],[↑(.oob p Ac Ad [.own<|M.ws.map T.str,.osd ((M.rs.take<|i+1).map (·.1))<|(M.rs.take<|i+1).map λr=>.lst r.2]),↑(.lst<|M.ws.map T.str),↑(Fx M.rs),↑(.lst<|M.ds.map BG),↑(.str M.rs[i].1),↑(.lst M.rs[i].2)],?_,_,_,rfl};rw[g,ß,ß];unfold QN
  simp![s,AI _ s,m,d]
 rw[À,ē]at e;have D:=AI _ h.ss;unfold Fw UW Ny Nz
 simp![BX,Av,w,v,cd,sr,C,sd,A,u,G,g1,g2,e,D]
def gS{α A:Type}{b:T->AM->Option AM}{body:AH}(f:α->T)(S:List A->AM->Prop)(g:α->List A)(N:Nat):∀(L:List α) (a:List A) (Y:AM),S a Y->a.length+(L.flatMap g).length<=N->(∀x∈L,∀a Y,S a Y->a.length+(g x).length<=N->∃τ1,b (f x) Y=↑τ1/\∃τ2,body τ1=↑(.nx τ2)/\S (a++g x) τ2)->∃Y',BK b body (L.map f) Y=↑(.nx Y')/\S (a++L.flatMap g) Y'
 |[],a,Y,h,ϊ,ϋ=>{Y,rfl,by simp_all}|x::L,a,Y,h,i,c=>by
  rw[List.flatMap_cons,Ü]at i;let(τ1,k,τ2,l,d):=c x (Ï ..) a Y h<|by lia
  let(Y',e,m):=gS f S g N L (a++g x) τ2 d (by rw[Ü];lia) λy j=>c y<|Í _ j
  refine{Y',?_,by simp_all};rw[Ö];unfold BK;lia
def CU{α:Type}{f:α->T}{L:List α}(h:∀x∈L,(f x).sh=true):AX (L.map f)=true:=by
 rw[CM,Ò];intro t a;let(x,b,rfl):=Ê.mp a;exact h x b
def sq{f g:AH}{Y Y':AM}{r:Option Out}(h:f Y=↑(.nx Y'))(a:g Y'=r):AF f g Y=r:=by
 unfold AF;rw[h];exact a
def Jd{α:Type}{b:T->AM->Option AM}{mt me:AG}(f g:α->T)(p:α->Bool)(I:AM->Prop):∀(L:List α) (Y:AM),I Y->(∀x∈L,∀Y,I Y->∃τ1 bb,b (f x) Y=↑τ1/\mt τ1=↑(.v (.bl<|p x) bb)/\(p x=true->me τ1=↑(.v (g x) false))/\I τ1)->CW b mt me (L.map f) Y=↑((L.filter p).map g)
 |[],ϊ,ϋ,ό=>rfl|x::L,Y,h,a=>by
  let(τ1,bb,e,i,j,c):=a x (Ï ..) Y h;have k:=Jd f g p I L τ1 c λu d=>a u<|Í _ d
  rw[Ö,ź];unfold CW;cases l:p x with
  |true=>simp_all|false=>lia
def Mc.nm(M:Mc):ky:=M.rs.map (·.1)
def LA{α:Type}(l:List α)(c:l≠[])(i:Int):∃x∈l,Ar l (i.fmod (l.length:Int))=↑x:=by
 have e:0<l.length:=List.length_pos_iff.mpr c;have b:=Ğ i<|show(0:Int)<(l.length:Int) by lia
 have d:=Ő i<|show(0:Int)<(l.length:Int) by lia
 have a:(i.fmod (l.length:Int)).toNat<l.length:=by lia
 exact{l[(i.fmod (l.length:Int)).toNat],ç a,Iq b<|Á a}
def Ln{α:Type}(f:α->T){l:List α}{i:Int}{x:α}(h:Ar l i=↑x):Ar (l.map f) i=↑(f x):=by
 unfold Ar at h ⊢;rw[À];cases a:Bk l.length i with
 |none=>rw[a]at h;cases h|some j=>
  rw[a]at h;have b:l[j]?=↑x:=h;show(l.map f)[j]?=↑(f x);rw[Î,b]
  rfl
def Nu{α:Type}{l:List α}(h:l≠[]):((l.length:Nat):Int)≠0:=λz=>h<|List.length_eq_zero_iff.mp<|Int.ofNat.inj z
def em_ok:PyData.strOk (Str.ofString "")=true:=by decide +kernel
def A9(M:Mc):T:=CO M
def GN{M:Mc}(h:McOk M):(A9 M).sh=true:=h.sh
def Fd{f g:AH}{Y:AM}{r:Option Out}(h:f Y=↑(.nx Y))(a:g Y=r):AF f g Y=r:=sq h a
def sr{f g:AH}{Y:AM}{t:T}(h:f Y=↑(.rt t)):AF f g Y=↑(.rt t):=by
 unfold AF;rw[h]
def FX(M:Mc):Ao Ac Ad (A9 M)=↑[.lst<|M.ws.map T.str,.obj (.sdc (M.rs.map (·.1)))<|M.rs.map λr=>.lst r.2,.lst<|M.ds.map BG]:=(show Ao Ac Ad (CO M)=(if Ac=Ac/\Ad=Ad then ↑[.lst<|M.ws.map T.str,.obj (.sdc (M.rs.map (·.1)))<|M.rs.map λr=>.lst r.2,.lst<|M.ds.map BG] else none) from rfl).trans (if_pos {(rfl),rfl})
abbrev SG:Stmt:=BY 40 1
def US:AH:=
 (AN<|Aw (m1 Dt<|AU Ac Ad 0<|AA 0)<|He<|AU Ac Ad 0<|AA 0)
def JB:qF->Option Ru:=AZ 1 1 US
abbrev OY:=fA 1 1 SG JB
abbrev zan:Gx:={ B9 with cl:=[("Machine",Ac,Ad)] }
abbrev zat:Gm:=gA SG 0 [] ["list"] (ox:=zan)
theorem zaz:Ck zat OY SG US:={}
def TF{M:Mc}(h:McOk M):JB [CO M]=↑(.ok<|.own<|M.ws.map T.str):=by
 unfold JB US
 simp![BX,Av,h.ss,h.sd,AI _ h.ss,AI _ h.sd]
abbrev SJ:Stmt:=BY 40 2
def eB:AH:=
 (AN<|Aw (m1 Dt<|Aw (AU Ac Ad 1<|AA 0)<|Aw (AU Ae Af 2<|AA 0)<|AU A8 Aa 3<|AA 0)<|He<|Aw (AU Ac Ad 1<|AA 0)<|Aw (AU Ae Af 2<|AA 0)<|AU A8 Aa 3<|AA 0)
def E3:qF->Option Ru:=AZ 1 1 eB
abbrev Hq:=fA 1 1 SJ E3
abbrev zb5:Gx:={ B9 with cl:=[("Machine",Ac,Ad),("Sheet",Ae,Af),("Walk",A8,Aa)] }
abbrev zba:Gm:=gA SJ 0 [] ["list"] (ox:=zb5)
theorem zbf:Ck zba Hq SJ eB:={}
def IZ{M:Mc}(h:McOk M):E3 [CO M]=↑(.ok (.own ((M.rs.map (·.1)).map T.str))):=by
 rfl
abbrev SK:Stmt:=BY 40 3
def UX:AH:=
 (AN<|Aw (m1 Dt<|AU Ac Ad 2<|AA 0)<|He<|AU Ac Ad 2<|AA 0)
def KP:qF->Option Ru:=AZ 1 1 UX
abbrev VX:=fA 1 1 SK KP
abbrev zb6:Gx:={ B9 with cl:=[("Machine",Ac,Ad)] }
abbrev zbb:Gm:=gA SK 0 [] ["list"] (ox:=zb6)
theorem zbg:Ck zbb VX SK UX:={}
def dZ{M:Mc}(h:McOk M):KP [CO M]=↑(.ok<|.own<|M.ds.map BG):=by
 unfold KP UX
 simp![BX,Av,h.ss,h.sd,AI _ h.ss,AI _ h.sd]
abbrev SI:Stmt:=BY 40 4
def UU:AH:=
 (AN<|m1 Dt<|Cs (Aw (AU Ac Ad 1<|AA 0)<|Aw (AU Ae Af 2<|AA 0)<|AU A8 Aa 3<|AA 0)<|AA 1)
def KO:qF->Option Ru:=AZ 2 2 UU
abbrev VV:=fA 1 2 SI KO
abbrev zbl:Gx:={ B9 with cl:=[("Machine",Ac,Ad),("Sheet",Ae,Af),("Walk",A8,Aa)] }
abbrev zbr:Gm:=gA SI 0 [] ["list"] (ox:=zbl)
theorem zby:Ck zbr VV SI UU:={}
def zix{ws:ky}(hd:ws.Nodup){i:Nat}(a:i<ws.length):CI ws ws[i]=↑i:=by
 unfold CI;rw[ď];refine{a,@decide_eq_true _ (Classical.propDecidable _) rfl,λj b q=>?_};have:=@of_decide_eq_true _ (Classical.propDecidable _) q;have:=(ö hd).mp this
 lia
def dM{M:Mc}(h:McOk M){i:Nat}(b:i<M.rs.length):KO [CO M,.str M.rs[i].1]=↑(.ok<|.own M.rs[i].2):=by
 have e:=zix h.r.nd (i:=i)<|by simp_all
 rw[Ķ]at e;have a:(M.rs.map λr=>T.lst r.2)[i]?=↑(.lst M.rs[i].2):=by simp_all
 have k:=(h.r.lk _<|ç b).1.sh;unfold KO UU
 simp![Cs,BX,Av,h.ss,h.sd,AI _ h.ss,AI _ h.sd,e,a,k,AI _ k]
abbrev S6:Stmt:=BY 39 1
def U2:AH:=
 (AN<|Aw (m1 Dt<|AU B8 Be 2<|AA 0)<|He<|AU B8 Be 2<|AA 0)
def KS:qF->Option Ru:=AZ 1 1 U2
abbrev V0:=fA 1 1 S6 KS
abbrev zd6:Gx:={ B9 with cl:=[("Door",B8,Be)] }
abbrev zdj:Gm:=gA S6 0 [] ["list"] (ox:=zd6)
theorem zdx:Ck zdj V0 S6 U2:={}
def j5{d:Dr}(h:AX d.g=true):KS [BG d]=↑(.ok<|.own d.g):=by
 unfold KS U2
 simp![BX,Av,h,AI _ h]
abbrev SY:Stmt:=BY 39 2
def U0:AH:=
 (AN<|Aw (m1 Dt<|AU B8 Be 3<|AA 0)<|He<|AU B8 Be 3<|AA 0)
def Pl:qF->Option Ru:=AZ 1 1 U0
abbrev jJ:=fA 1 1 SY Pl
abbrev zd4:Gx:={ B9 with cl:=[("Door",B8,Be)] }
abbrev zdh:Gm:=gA SY 0 [] ["list"] (ox:=zd4)
theorem zdv:Ck zdh jJ SY U0:={}
def zm7{d:Dr}(h:AX d.g=true):Pl [BG d]=↑(.ok<|.own<|d.n.map T.str):=by
 unfold Pl U0
 simp![BX,Av,h,AI _ h]
abbrev SH:Stmt:=BY 40 5
def UT:AH:=
 (AN<|m2 B5 (LH (AU Ac Ad 0<|AA 0)<|AA 1)<|mC<|.int 1)
def HF:qF->Option Ru:=AZ 2 2 UT
abbrev O0:=fA 1 2 SH HF
abbrev za0:Gx:={ B9 with cl:=[("Machine",Ac,Ad)] }
abbrev za1:Gm:=gA SH 0 [] [] (ox:=za0)
theorem za2:Ck za1 O0 SH UT:={}
def TJ{M:Mc}(h:McOk M){x:Str}{j:Nat}(e:CI M.ws x=↑j):HF [CO M,.str x]=↑(.ok<|.int<|(j:Int)+1):=by
 have l1:M.ws.length<1000000:=by have:=h.wl;lia
 unfold HF UT
 simp![BX,Av,Q5,h.ss,h.sd,AI _ h.ss,AI _ h.sd,e,l1]
abbrev Qn:Stmt:=AK 46
def Vl:AG:=
 (Bw<|AB (BU Ac Ad HF (AA 3)<|AB (AA 0) AE)<|AB (AA 1)<|AB (AA 2) AE)
def TZ:AH:=
 (AF (A3 (BU Ac Ad JB (AA 0) AE)<|AD 2)
 (AF (A4 (BQ<|AJ KH<|AB (AA 1)<|AB (AA 2)<|AB (mC Jf) AE) (C4 "NoMark"<|AB (mC<|.str "a guard is a list of looks at the machine's watches") AE) Ab)
 (AN<|Ax 3 [0] (Au<|AA 1) (Ay 3<|AQ (AD 0)<|AQ (AD 1)<|AQ (AD 2) BA) (mC<|.bl true) Vl)))
def G4:qF->Option Ru:=AZ 2 3 TZ
abbrev La:=fA 5 2 Qn G4
abbrev zgn:Gx:={ B9 with co:=[("WORDS",Jf)],mt:=[("watches",Ac,Ad,OY),("watch_number",Ac,Ad,O0)] }
abbrev zgr:Gm:=gA Qn 4 [("is_guard",OS)] [] (ex:=["NoMark"]) (ox:=zgn)
theorem zh7:Ck zgr La Qn TZ:={}
def Ed:T->Str
 |.nd ϊ ϋ (.str x::ό)=>x|ϊ=>Str.empty
def Ec:T->Str
 |.nd ϊ ϋ (ό::.str y::ύ)=>y|ϊ=>Str.empty
def Ce:T->Int
 |.nd ϊ ϋ (ό::ύ::.int n::ώ)=>n|ϊ=>0
def Nr{ws wd:ky}{t:T}(h:∃x y n,t=.tup [.str x,.str y,.int n]/\x∈ws/\y∈wd/\0<=n):t=.tup [.str<|Ed t,.str<|Ec t,.int<|Ce t]/\Ed t∈ws/\Ec t∈wd/\0<=Ce t:=by
 let(x,y,n,rfl,a,b,c):=h;exact{(rfl),a,b,c}
def Ba(ws:ky)(t:T):T:=.tup [.int<|((CI ws<|Ed t).getD 0:Int)+1,.str<|Ec t,.int<|Ce t]
def Hm{ws:ky}{x:Str}(h:x∈ws):∃j,CI ws x=↑j/\∃hj:j<ws.length,ws[j]=x:=by
 unfold CI;cases e:List.findIdx? (λy=>@decide (y=x) (Classical.propDecidable _)) ws with
 |none=>have:=List.findIdx?_eq_none_iff.mp e x h;simp at this|some j=>
  let(a,b,_):=ď.mp e;lia
def Ct{α:Type}{b:T->AM->Option AM}{me:AG}(f g:α->T)(I:AM->Prop):∀(L:List α) (Y:AM),I Y->(∀x∈L,∀Y,I Y->∃τ1,b (f x) Y=↑τ1/\me τ1=↑(.v (g x) false)/\I τ1)->CW b (mC<|.bl true) me (L.map f) Y=↑(L.map g)
 |[],ϊ,ϋ,ό=>rfl|x::L,Y,h,a=>by
  let(τ1,e,i,c):=a x (Ï ..) Y h;have k:=Ct f g I L τ1 c λu d=>a u<|Í _ d
  have f1:mC (.bl true) τ1=↑(.v (.bl true) false):=rfl;rw[Ö,Ö];unfold CW;lia
def Kr{M:Mc}(h:McOk M){l:qF}{wd:ky}(f:Ca M.ws wd l)(u:∀y∈wd,y∈CB)(s:l.length<=1000):G4 [CO M,.lst l]=↑(.ok<|.own<|l.map<|Ba M.ws):=by
 have a:Ca M.ws CB l:=λt c=>by
  let(x,y,n,e,m,o,p):=f t c;exact{x,y,n,e,m,u y o,p}
 have r:=Ut h.tw X3 s a;have g:=f.sh;have k:=AI _ g
 have i:=Ct (b:=Ay 3<|AQ (AD 0)<|AQ (AD 1)<|AQ (AD 2) BA) (me:=Vl) (λt:T=>t) (Ba M.ws) (λY=>∃x y z,Y=[x,y,z,↑(CO M)]) l [none,none,none,↑(CO M)] {(none),none,none,rfl} λt c Y q=>by
  let(x,y,z,rfl):=q;let(v,w,B,C):=Nr<|a t c;let(j,d,_):=Hm w;have en:=TJ h d;refine{[↑(.str<|Ed t),↑(.str<|Ec t),↑(.int<|Ce t),↑(CO M)],by rw[v];simp![Ed,Ec,Ce],?_,_,_,_,rfl}
  unfold Vl Ba;rw[d]
  simp![BX,Av,h.ss,h.sd,AI _ h.ss,AI _ h.sd,en,ŕ]
 rw[List.map_id']at i;have A:=TF h;have l1:l.length<=100000:=by lia
 unfold G4 TZ
 simp![fK,BX,Av,h.ss,h.sd,AI _ h.ss,AI _ h.sd,A,g,k,r,l1,i]
abbrev Ql:Stmt:=AK 68
def TX:AH:=
 (AF (A4 (CA (BQ<|m1 (Cv "tuple")<|AA 2)<|m2 DV (m1 Bd<|AA 2)<|mC<|.int 2) (C4 "NoMark"<|AB (mC<|.str "a mark is a tuple of a room and a guard") AE) Ab)
 (AF (A4 (m2 GD (AW (AA 2)<|mC<|.int 0)<|AA 1) (C4 "NoMark"<|AB (mC<|.str "a mark is in a room of the machine") AE) Ab)
 (AN<|Bw<|AB (AW (AA 2)<|mC<|.int 0)<|AB (AJ G4<|AB (AA 0)<|AB (AW (AA 2)<|mC<|.int 1) AE) AE)))
def PC:qF->Option Ru:=AZ 3 3 TX
abbrev gY:=fA 6 3 Ql PC
abbrev zc3:Gm:=gA Ql 5 [("placed",La)] ["isinstance","tuple","len"] (ex:=["NoMark"])
theorem zc9:Ck zc3 gY Ql TX:={}
def Dy(ws rn:ky)(gl:List<|Str×qF):Prop:=∀g∈gl,g.1∈rn/\Ca ws CB g.2/\g.2.length<=2
def Dy.sh{ws rn:ky}{gl:List<|Str×qF}(h:Dy ws rn gl):AX (gl.map AL)=true:=by
 rw[CM,Ò];intro t b;let(g,a,rfl):=Ê.mp b;have:=(h g a).2.1.sh
 simp![this]
set_option tactic.hygienic true in
def zil{ys:ky}{x:Str}{o:Bool}{k:Kd}(h:Cm ys)(a:PyData.strOk x=true):GD (.str x) (.nd o k<|ys.map T.str)=↑(.bl<|!decide (x∈ys)):=by
 have e:=Jk (o:=o) (k:=k) h a;unfold EJ at e;unfold GD;simp only at e ⊢;split at e;rename_i hk;rw[if_pos hk];erw[Ŧ,T.bl.injEq]at e ⊢;rw[e];cases e
def pm_ok{M:Mc}(h:McOk M){g:Str×qF}(d:g.1∈M.rs.map (·.1)/\Ca M.ws CB g.2/\g.2.length<=2):PC [CO M,.lst ((M.rs.map (·.1)).map T.str),AL g]=↑(.ok<|.tup [.str g.1,.lst<|g.2.map<|Ba M.ws]):=by
 let(g1,g2,i):=d;have a:=zil (o:=false) (k:=.lst) h.tn<|h.tn _ g1;rw[Ì g1]at a;have c:=Kr h g2 (λy f=>f)<|by lia
 have b:=g2.sh
 have ps:AX (g.2.map<|Ba M.ws)=true:=by
  rw[CM,Ò];intro t e;let(u,_,rfl):=Ê.mp e
  rfl
 unfold PC TX
 simp![HX,BX,Av,h.ss,h.sd,AI _ h.ss,AI _ h.sd,a,c,b,AI _ b,ps,AI _ ps]
abbrev Qm:Stmt:=AK 67
def Vk:AG:=
 (AJ PC<|AB (AA 1)<|AB (AA 2)<|AB (AA 0) AE)
def TY:AH:=
 (AF (A4 (BQ<|m1 (Cv "list")<|AA 1) (C4 "NoMark"<|AB (mC<|.str "a goal is a list of marks") AE) Ab)
 (AF (A3 (BU Ac Ad E3 (AA 0) AE)<|AD 2)
 (AN<|Ax 1 [0,2] (Au<|AA 1) (AD 0) (mC<|.bl true) Vk)))
def G3:qF->Option Ru:=AZ 2 3 TY
abbrev OP:=fA 7 2 Qm G3
abbrev zc0:Gx:={ B9 with mt:=[("rooms",Ac,Ad,Hq)] }
abbrev zc4:Gm:=gA Qm 6 [("placed_mark",gY)] ["isinstance","list"] (ex:=["NoMark"]) (ox:=zc0)
theorem zca:Ck zc4 OP Qm TY:={}
def Sl{M:Mc}(h:McOk M){gl:List<|Str×qF}(a:Dy M.ws (M.rs.map (·.1)) gl)(l:gl.length<=1000):G3 [CO M,.lst<|gl.map AL]=↑(.ok<|.own<|gl.map λg=>.tup [.str g.1,.lst<|g.2.map<|Ba M.ws]):=by
 have gs:=a.sh
 have i:=Ct (b:=AD 0) (me:=Vk) AL (λg=>.tup [.str g.1,.lst<|g.2.map<|Ba M.ws]) (λY=>∃x,Y=[x,↑(CO M),↑(.lst ((M.rs.map (·.1)).map T.str))]) gl [none,↑(CO M),↑(.lst ((M.rs.map (·.1)).map T.str))] {(none),rfl} λg f Y d=>by
  let(x,rfl):=d;have k:=a g f;have e:=pm_ok h k;have c:=k.2.1.sh;refine{[↑(AL g),↑(CO M),↑(.lst ((M.rs.map (·.1)).map T.str))],by simp![],?_,_,rfl}
  unfold Vk
  simp![BX,Av,h.ss,h.sd,AI _ h.ss,AI _ h.sd,e,c,AI _ c]
 have j:=IZ h;have l1:gl.length<=100000:=by lia
 unfold G3 TY
 simp![BX,Av,h.ss,h.sd,AI _ h.ss,AI _ h.sd,j,gs,AI _ gs,À,l1,i]
abbrev Rj:Stmt:=AK 14
def UI:AH:=
 (AN<|m2 B5 (m2 CF (mC<|.int 2)<|AA 0)<|mC<|.int 1)
def Fo:qF->Option Ru:=AZ 1 1 UI
abbrev Il:=fA 1 1 Rj Fo
abbrev zfi:Gm:=gA Rj 0 [] []
theorem zft:Ck zfi Il Rj UI:={}
def Wd(i:Int):Fo [.int i]=↑(.ok<|.int<|2 * i+1):=by
 have m:Bq 2 i=true:=HZ<|DR (by decide)<|by decide
 unfold Fo UI
 simp![m]
def Jx:Fo [.int 0]=↑(.ok<|.int 1):=Wd 0
abbrev Ri:Stmt:=AK 15
def UH:AH:=
 (AN<|m2 CF (mC<|.int 2)<|AA 0)
def JA:qF->Option Ru:=AZ 1 1 UH
abbrev OV:=fA 1 1 Ri JA
abbrev zj3:Gm:=gA Ri 0 [] []
theorem zjg:Ck zj3 OV Ri UH:={}
def Ot(i:Int):JA [.int i]=↑(.ok<|.int<|2 * i):=by
 have m:Bq 2 i=true:=HZ<|DR (by decide)<|by decide
 unfold JA UH
 simp![m]
abbrev Qq:Stmt:=AK 16
def T4:AH:=
 (AN<|m2 CY (AA 0)<|mC<|.int 2)
def Iw:qF->Option Ru:=AZ 1 1 T4
abbrev OQ:=fA 1 1 Qq Iw
abbrev zd8:Gm:=gA Qq 0 [] []
theorem zdm:Ck zd8 OQ Qq T4:={}
def GF(i:Int):Iw [.int i]=↑(.ok<|.int<|i / 2):=by
 have m:DK 2=true:=EO (by decide)<|by decide
 have f:i.fdiv 2=i / 2:=fd<|by decide
 unfold Iw T4
 simp![m,f]
abbrev RM:Stmt:=AK 17
def Ti:AH:=
 (AN<|m2 BM (m2 BO (AA 0)<|mC<|.int 2)<|mC<|.int 0)
def KG:qF->Option Ru:=AZ 1 1 Ti
abbrev VN:=fA 1 1 RM KG
abbrev zff:Gm:=gA RM 0 [] []
theorem zfq:Ck zff VN RM Ti:={}
def Ul(i:Int):KG [.int i]=↑(.ok<|.bl<|i % 2 == 0):=by
 have f:i.fmod 2=i % 2:=fm<|by decide
 unfold KG Ti
 simp![f,DW]
abbrev Rn:Stmt:=AK 18
def UM:AH:=
 (AF (A4 (CA (m2 (BB false) (AA 0)<|mC .non)<|m2 (BB false) (AA 1)<|mC .non) (AN<|mC .non) Ab)
 (AF (A3 (m2 B5 (AJ Iw<|AB (AA 0) AE)<|AJ Iw<|AB (AA 1) AE)<|AD 2)
 (AF (A4 (CA (AJ KG<|AB (AA 0) AE)<|AJ KG<|AB (AA 1) AE) (AN<|AJ JA<|AB (AA 2) AE) Ab)
 (AN<|AJ Fo<|AB (AA 2) AE))))
def KL:qF->Option Ru:=AZ 2 3 UM
abbrev i5:=fA 2 2 Rn KL
abbrev zj4:Gm:=gA Rn 1 [("number_of",OQ),("is_open",VN),("below",OV),("at_most",Il)] []
theorem zjh:Ck zj4 i5 Rn UM:={}
def lI(a b:Db.B):KL [bT a,bT b]=↑(.ok<|bT<|Db.add a b):=by
 unfold KL UM;cases a with
 |none=>simp![Db.add]|some a=>
  cases b with
  |none=>simp![Db.add]|some b=>
   have c:a % 2=0\/a % 2=1:=by lia
   have e:b % 2=0\/b % 2=1:=by lia
   have d:((1:Int) == 0)=false:=rfl;have m1:min (0:Int) 0=0:=rfl;have m2:min (0:Int) 1=0:=rfl;have f:min (1:Int) 0=0:=rfl;have g:min (1:Int) 1=1:=rfl
   rcases c with c|c<;>rcases e with e|e<;>simp![GF,Ul,c,e,d,Ot,Wd,Db.add,Db.bs,m1,m2,f,g,Int.add_zero]
abbrev Qv:Stmt:=AK 19
def T8:AH:=
 (AF (A4 (m2 (BB false) (AA 0)<|mC .non) (AN<|AA 1) Ab)
 (AF (A4 (m2 (BB false) (AA 1)<|mC .non) (AN<|AA 0) Ab)
 (AN<|m2 LB (AA 0)<|AA 1)))
def PF:qF->Option Ru:=AZ 2 2 T8
abbrev hZ:=fA 1 2 Qv PF
abbrev zed:Gm:=gA Qv 0 [] ["min"]
theorem zes:Ck zed hZ Qv T8:={}
def nr_ok(a b:Db.B):PF [bT a,bT b]=↑(.ok<|bT<|Db.mn a b):=by
 unfold PF T8;cases a with
 |none=>rfl|some a=>
  cases b with
  |none=>rfl|some b=>
   simp![Db.mn]
   lia
abbrev R6:Stmt:=AK 49
def Tv:AH:=
 (AF (A4 (CA (m2 BM (AA 0)<|mC<|.int 0)<|m2 BM (AA 0)<|AA 1) (AN<|AJ Fo<|AB (mC<|.int 0) AE) Ab)
 (AN<|mC .non))
def PX:qF->Option Ru:=AZ 2 2 Tv
abbrev iS:=fA 2 2 R6 PX
abbrev zcj:Gm:=gA R6 1 [("at_most",Il)] []
theorem zcq:Ck zcj iS R6 Tv:={}
def fb_ok(i j:Nat):PX [.int i,.int j]=↑(.ok<|bT<|Db.free i j):=by
 unfold PX Tv;by_cases b:i=0;subst b
 simp![DW,Jx,Db.free]
 by_cases h:i=j;subst h;have a:((i:Int) == 0)=false:=by lia
 simp![DW,a,Jx,Db.free]
 have a:((i:Int) == 0)=false:=by lia
 have c:((i:Int) == (j:Int))=false:=by simp;lia
 simp![DW,a,c,Db.free,b,h]
abbrev Qi:Stmt:=AK 53
def QD:AH:=
 (A4 (m2 (BB false) (AA 5)<|mC .non) (DJ 3<|AA 4) (AF (A3 (m2 Fc (m2 B5 (AA 1)<|AA 5)<|m2 Lm (m2 Lk (AA 1)<|AA 5)<|mC<|.int 1)<|AD 6)
 (DJ 3<|EH (CA (m2 (BB false) (AA 4)<|mC .non)<|m2 (C0 λi j=>decide (i<j)) (AA 6)<|AA 4) (AA 6)<|AA 4)))
def TR:AH:=
 (AF (Cb 3<|BE AE)
 (AF (Bc (Gs<|AB (AA 0)<|AB (AA 2) AE) (Ay 2<|AQ (AD 4)<|AQ (AD 5) BA) QD)
 (AN<|AA 3)))
def Lv:qF->Option Ru:=AZ 3 7 TR
abbrev VE:=fA 1 3 Qi Lv
abbrev zea:Gm:=gA Qi 0 [] ["zip"] ["told"]
theorem zep:Ck zea VE Qi TR:={}
def Y7{n:Nat}(p:n<=100000)(r s:Nat->Db.B)(c:Int):Lv [rT n r,.int c,rT n s]=↑(.ok<|.own<|mT n λj=>bT<|Db.mn (r j)<|Db.add ↑c<|s j):=by
 have d:=L9 (b:=Ay 2<|AQ (AD 4)<|AQ (AD 5) BA) (body:=QD) (n:=n) (g:=λi=>.tup [bT<|r i,bT<|s i]) (Y:=[↑(rT n r),↑(.int c),↑(rT n s),↑(.own []),none,none,none])
  (λi Y=>∃x y z,Y=[↑(rT n r),↑(.int c),↑(rT n s),↑(.own<|mT i λj=>bT<|Db.mn (r j)<|Db.add ↑c<|s j),x,y,z])
  {(none),none,none,rfl} (by
   rintro i Y l ⟨x,y,z,rfl⟩;have l1:i<100000:=by lia
   refine{_,by simp![];rfl,?_};unfold QD;cases e:s i with
   |none=>
    refine{_,by simp![l1];rfl,↑(bT<|r i),↑.non,z,?_};rw[<- LF,e];cases r i<;>rfl
   |some m=>
    have a:c+m - Builtin.bitAnd (Builtin.bitOr c m) 1=Db.bs c m:=by rw[Db.bor_one,Db.bs_eq]
    cases f:r i with
    |none=>
     refine{_,by simp![a,l1];rfl,↑.non,↑(.int m),↑(.int<|Db.bs c m),?_};rw[<- LF,e,f];rfl
    |some o=>
     by_cases h:Db.bs c m<o;refine{_,by simp![a,h,l1];rfl,↑(.int o),↑(.int m),↑(.int<|Db.bs c m),?_};rw[<- LF,e,f];rw[show Db.mn ↑o (Db.add ↑c ↑m)=↑(Db.bs c m) by show ↑(min _ _)=_;rw[show min o (Db.bs c m)=Db.bs c m by lia]];rfl;refine{_,by simp![a,h,l1];rfl,↑(.int o),↑(.int m),↑(.int<|Db.bs c m),?_};rw[<- LF,e,f];rw[show Db.mn ↑o (Db.add ↑c ↑m)=↑o by show ↑(min _ _)=_;rw[show min o (Db.bs c m)=o by lia]]
     rfl)
 let(k,a,x,y,z,rfl):=d;unfold Lv TR
 simp![K0,a]
abbrev RV:Stmt:=AK 52
def WE:AG:=
 (m2 (C0 λi j=>decide (i<j)) (AW (AA 1)<|AA 0)<|AJ Fo<|AB (mC<|.int 0) AE)
def Tq:AH:=
 (AN<|m1 Hx<|Ax 2 [] (C6<|AB (AA 0) AE) (Ay 2<|AQ (AD 0)<|AQ (AD 1) BA) (mC<|.bl true) WE)
def PQ:qF->Option Ru:=AZ 1 1 Tq
abbrev iN:=fA 2 1 RV PQ
abbrev zdb:Gm:=gA RV 1 [("at_most",Il)] ["any","enumerate"]
theorem zdp:Ck zdb iN RV Tq:={}
def zqy{n:Nat}{f:Db.Z}(e:n<=100000){d:Nat->Int}(hd:∀i,i<n->f i i=↑(d i)):PQ [zT n f]=↑(.ok<|.bl<|(List.range n).any λi=>decide (d i<1)):=by
 have b:=EW (n:=n) (me:=WE) (x:=none) (y:=none) (cs:=[]) (u:=λi=>.int (i:Int)) (w:=λi=>rT n<|f i) (f:=λi=>.bl<|decide (d i<1)) λi a=>by
  unfold WE
  simp![JY,NB,CH a,hd i a,Jx]
 unfold PQ Tq;have c:n<=100000:=by lia
 simp![zhs,Bl,NB,JY,C6,Hs,b,c,Ju,List.any_map,Function.comp_def,id_eq]
abbrev Qu:Stmt:=AK 51
def Vq:AG:=
 (AJ PF<|AB (AA 1)<|AB (AJ PX<|AB (AA 2)<|AB (AA 0) AE) AE)
def Og:AG:=
 (Ax 2 [0] (C6<|AB (AA 1) AE) (Ay 2<|AQ (AD 0)<|AQ (AD 1) BA) (mC<|.bl true) Vq)
def Vp:AG:=
 (EH (m2 (BB false) (AW (AA 0)<|AA 1)<|mC .non) (AA 0)<|AJ Lv<|AB (AA 0)<|AB (AW (AA 0)<|AA 1)<|AB (AA 2) AE)
def K3:AH:=
 (AF (A4 (AJ PQ<|AB (AA 1) AE) (AN<|mC .non) Ab)
 (AF (A3 (AW (AA 1)<|AA 2)<|AD 3)
 (A3 (Ax 1 [2,3] (Au<|AA 1) (AD 0) (mC<|.bl true) Vp)<|AD 1)))
def T7:AH:=
 (AF (A3 (Ax 2 [] (C6<|AB (AA 0) AE) (Ay 2<|AQ (AD 0)<|AQ (AD 1) BA) (mC<|.bl true) Og)<|AD 1)
 (AF (Bc (Cw<|AB (m1 Bd<|AA 1) AE) (AD 2) K3)
 (AN<|AA 1)))
def G5:qF->Option Ru:=AZ 1 4 T7
abbrev VH:=fA 3 1 Qu G5
abbrev zd9:Gm:=gA Qu 2 [("narrower",hZ),("free_bound",iS),("is_broken",iN),("row_over",VE)] ["enumerate","range","len"]
theorem zdn:Ck zd9 VH Qu T7:={}
def Y8{n:Nat}{f:Db.Z}{d:Nat->Int}(hd:∀i,i<n->f i i=↑(d i)):((List.range n).any λi=>decide (d i<1))=true ↔ Db.Brk n f:=by
 rw[ø];constructor;rintro⟨i,a,h⟩;have a:=ì.mp a;refine{i,a,?_};rw[hd i a];erw[Db.le]
 lia;rintro⟨i,a,h⟩;refine{i,ì.mpr a,Ì ?_};rw[hd i a]at h;erw[Db.le]at h;lia
def zh1(f:Db.Z)(k i:Nat):∃d,Db.fw f k i i=↑d:=by
 have:=Db.diag_le f i k;cases h:Db.fw f k i i with
 |none=>rw[h]at this;exact this.elim|some d=>lia
def Su{n:Nat}(p:n<=100000)(f:Db.Z):(Db.Sound n f->G5 [zT n f]=↑(.ok<|zT n<|Db.fw f n))/\(¬ Db.Sound n f->G5 [zT n f]=↑(.ok .non)):=by
 have l1:n<=100000:=by lia
 have s:∀i,i<n->Og [↑(.int (i:Int)),↑(rT n<|f i)]=↑(.v (.own<|mT n λj=>bT<|Db.z0 f i j) false):=λi o=>by
  have v:=EW (n:=n) (me:=Vq) (x:=none) (y:=none) (cs:=[↑(.int (i:Int))]) (u:=λj=>.int (j:Int)) (w:=λj=>bT<|f i j) (f:=λj=>bT<|Db.z0 f i j) λj B=>by
   unfold Vq
   simp![fb_ok,nr_ok]
   rfl
  unfold Og
  simp![C6,Hs,v,l1]
 have z:=EW (n:=n) (me:=Og) (x:=none) (y:=none) (cs:=[]) (u:=λi=>.int (i:Int)) (w:=λi=>rT n<|f i) (f:=λi=>.own<|mT n λj=>bT<|Db.z0 f i j) s
 have l:=Jr (b:=AD 2) (body:=K3) (n:=n) (g:=λi=>.int (i:Int)) (Y:=[↑(zT n f),↑(zT n<|Db.fw f 0),none,none]) (λk=>¬ Db.Brk n (Db.fw f k)) .non
  (λk Y=>∃x y,Y=[↑(zT n f),↑(zT n<|Db.fw f k),x,y]) {(none),none,rfl} (by
   rintro k Y hk - ⟨x,y,rfl⟩;refine{_,by simp![];rfl,?_}
   have hd:∀i,i<n->Db.fw f k i i=↑((Db.fw f k i i).getD 0):=λi ϊ=>by
    let(d,e):=zh1 f k i;rw[e];rfl
   have m:=zqy p hd;by_cases a:Db.Brk n<|Db.fw f k
   right;refine{λq=>q a,?_};rw[(Y8 hd).mpr a]at m;unfold K3
   simp![m]
   left;refine{a,?_}
   have C:((List.range n).any λi=>decide ((Db.fw f k i i).getD 0<1))=false:=by
    cases q:((List.range n).any λi=>decide ((Db.fw f k i i).getD 0<1)) with
    |false=>rfl|true=>exact absurd ((Y8 hd).mp q) a
   rw[C]at m;generalize F:Db.fw f k=g at *
   have v:=Cj (n:=n) (me:=Vp) (x:=none) (cs:=[↑(.int (k:Int)),↑(rT n<|g k)]) (g:=λi=>rT n<|g i) (f:=λi=>match g i k with|none=>rT n (g i)|some c=>.own<|mT n λj=>bT<|Db.mn (g i j)<|Db.add ↑c<|g k j) λi o=>by
    unfold Vp;cases e:g i k with
    |none=>simp![CH hk,e]|some c=>simp![CH hk,e,Y7 p]
   have D:(mT n λi=>(match g i k with|none=>rT n (g i)|some c=>T.own<|mT n λj=>bT<|Db.mn (g i j)<|Db.add ↑c<|g k j).share)=mT n λi=>rT n<|Db.stp g k i:=EF λi o=>by
    cases e:g i k with
    |none=>
     erw[NB];unfold rT;rw[EF λj B=>?_];unfold Db.stp;rw[e];cases g i j<;>rfl
    |some c=>
     simp![]
     rw[EF λj B=>?_];unfold Db.stp;rw[e]
   refine{[↑(zT n f),↑(zT n<|Db.stp g k),↑(.int (k:Int)),↑(rT n<|g k)],.inl ?_,↑(.int (k:Int)),↑(rT n<|g k),?_};unfold K3
   simp![m,CH hk,v,l1]
   rw[D]
   rw[show Db.fw f (k+1)=Db.stp g k by rw[<- F];rfl])
 have G:Cg (n:Int)=true:=Ea p
 have st:∀r,BK (AD 2) K3 (mT n λi=>.int (i:Int)) [↑(zT n f),↑(zT n<|Db.fw f 0),none,none]=r->G5 [zT n f]=(match (match r with|some (.nx A)=>AN (AA 1) A|r=>r) with
   |some (.rt t)=>↑(Ru.ok t)|some (.nx ϊ)=>↑(.ok .non)|some (.xc c ϊ)=>↑(.exc c)|ϊ=>none):=by
  rintro _ rfl;unfold G5 T7
  simp![C6,Hs,z,l1,G,E8]
  rfl
 rcases l with ⟨E,A,e,x,y,rfl⟩|⟨⟨i,o,a⟩,e⟩;refine{λϊ=>?_,λh=>absurd (λk hk=>E k hk) h};rw[st _ e]
 simp![]
 refine{λh=>absurd (h i o) a,λϊ=>?_};rw[st _ e]
abbrev RG:Stmt:=AK 55
def Te:AH:=
 (AF (A4 (m2 (BB false) (AA 1)<|mC .non) (AN<|mC<|.bl false) Ab)
 (AN<|CA (m2 (BB false) (AA 0)<|mC .non)<|m2 (C0 λi j=>decide (j<i)) (AA 0)<|AA 1))
def KD:qF->Option Ru:=AZ 2 2 Te
abbrev VI:=fA 1 2 RG KD
abbrev zef:Gm:=gA RG 0 [] []
theorem zeu:Ck zef VI RG Te:={}
def X1(a b:Db.B):(Db.le a b->KD [bT a,bT b]=↑(.ok<|.bl false))/\(¬ Db.le a b->KD [bT a,bT b]=↑(.ok<|.bl true)):=by
 unfold KD Te;cases b with
 |none=>exact{λϊ=>by simp![],λh=>absurd trivial h}|some b=>
  cases a with
  |none=>exact{λh=>h.elim,λϊ=>by simp![]}|some a=>
   constructor;intro h;have c:decide (b<a)=false:=Ý (by erw[Db.le]at h;lia)
   simp![c]
   intro h;have c:decide (b<a)=true:=Ì (by erw[Db.le]at h;lia)
   simp![c]
abbrev Qe:Stmt:=AK 54
def QB:AH:=
 (A4 (AJ KD<|AB (AA 4)<|AB (AA 5) AE) (AN<|mC<|.bl false) Ab)
def MW:AH:=
 (Bc (Gs<|AB (AA 2)<|AB (AA 3) AE) (Ay 2<|AQ (AD 4)<|AQ (AD 5) BA) QB)
def N5:AH:=
 (AF (Bc (Gs<|AB (AA 0)<|AB (AA 1) AE) (Ay 2<|AQ (AD 2)<|AQ (AD 3) BA) MW)
 (AN<|mC<|.bl true))
def Hy:qF->Option Ru:=AZ 2 6 N5
abbrev VA:=fA 2 2 Qe Hy
abbrev zgp:Gm:=gA Qe 1 [("is_wider",VI)] ["zip"]
theorem zh5:Ck zgp VA Qe N5:={}
def wi_ok{n:Nat}(f g:Db.Z):((∀i j,i<n->j<n->Db.le (f i j) (g i j))->Hy [zT n f,zT n g]=↑(.ok<|.bl true))/\((¬ ∀i j,i<n->j<n->Db.le (f i j) (g i j))->Hy [zT n f,zT n g]=↑(.ok<|.bl false)):=by
 have d:=Jr (b:=Ay 2<|AQ (AD 2)<|AQ (AD 3) BA) (body:=MW) (n:=n) (g:=λi=>.tup [rT n<|f i,rT n<|g i]) (Y:=[↑(zT n f),↑(zT n g),none,none,none,none]) (λi=>∀j,j<n->Db.le (f i j) (g i j)) (.bl false)
  (λi Y=>∃x y z w,Y=[↑(zT n f),↑(zT n g),x,y,z,w]) {(none),none,none,none,rfl} (by
   rintro i Y k - ⟨x,y,z,w,rfl⟩;refine{_,by simp![];rfl,?_}
   have a:=Jr (b:=Ay 2<|AQ (AD 4)<|AQ (AD 5) BA) (body:=QB) (n:=n) (g:=λj=>.tup [bT<|f i j,bT<|g i j]) (Y:=[↑(zT n f),↑(zT n g),↑(rT n<|f i),↑(rT n<|g i),z,w]) (λj=>Db.le (f i j)<|g i j) (.bl false)
    (λj Y=>∃z w,Y=[↑(zT n f),↑(zT n g),↑(rT n<|f i),↑(rT n<|g i),z,w]) {(z),w,rfl} (by
     rintro j Y c - ⟨z,w,rfl⟩;refine{_,by simp![];rfl,?_};have q:=X1 (f i j)<|g i j;unfold QB
     by_cases h:Db.le (f i j)<|g i j
     left;have q:=q.1 h;exact{h,_,.inl (by simp![q];rfl),_,_,rfl}
     right;have q:=q.2 h;exact{h,by simp![q]})
   rcases a with ⟨h,l,e,z,w,rfl⟩|⟨⟨j,c,h⟩,e⟩;left;refine{h,_,.inl ?_,↑(rT n<|f i),↑(rT n<|g i),z,w,rfl};unfold MW
   simp![K0,e]
   right;refine{λq=>h<|q j c,?_};unfold MW
   simp![K0,e])
 rcases d with ⟨h,l,e,x,y,z,w,rfl⟩|⟨⟨i,k,h⟩,e⟩;refine{λϊ=>?_,λq=>absurd (λi j k c=>h i k j c) q};unfold Hy N5
 simp![K0,e]
 refine{λq=>absurd (λj c=>q i j k c) h,λϊ=>?_};unfold Hy N5
 simp![K0,e]
abbrev RB:Stmt:=AK 28
def Tc:AH:=
 (AF (Cb 4<|BE AE)
 (AF (A4 (m2 BM (AA 2)<|mC<|.str "<") (DJ 4<|Bw<|AB (AA 0)<|AB (AA 1)<|AB (AJ JA<|AB (AA 3) AE) AE) Ab)
 (AF (A4 (CA (m2 BM (AA 2)<|mC<|.str "<=")<|m2 BM (AA 2)<|mC<|.str "=") (DJ 4<|Bw<|AB (AA 0)<|AB (AA 1)<|AB (AJ Fo<|AB (AA 3) AE) AE) Ab)
 (AF (A4 (m2 BM (AA 2)<|mC<|.str ">") (DJ 4<|Bw<|AB (AA 1)<|AB (AA 0)<|AB (AJ JA<|AB (m1 EV<|AA 3) AE) AE) Ab)
 (AF (A4 (CA (m2 BM (AA 2)<|mC<|.str ">=")<|m2 BM (AA 2)<|mC<|.str "=") (DJ 4<|Bw<|AB (AA 1)<|AB (AA 0)<|AB (AJ Fo<|AB (m1 EV<|AA 3) AE) AE) Ab)
 (AN<|AA 4))))))
def PK:qF->Option Ru:=AZ 4 5 Tc
abbrev iD:=fA 2 4 RB PK
abbrev zc5:Gm:=gA RB 1 [("below",OV),("at_most",Il)] [] ["bounds"]
theorem zcb:Ck zc5 iD RB Tc:={}
def Ej:Nat->Str
 |0=>"<"|1=>"<="|2=>">"|3=>">="|ϊ=>"="
def X4{w:Nat}(h:w<5):BM (.str<|Ej w) (.str "<")=↑(.bl<|w == 0)/\BM (.str<|Ej w) (.str "<=")=↑(.bl<|w == 1)/\BM (.str<|Ej w) (.str ">")=↑(.bl<|w == 2)/\BM (.str<|Ej w) (.str ">=")=↑(.bl<|w == 3)/\BM (.str<|Ej w) (.str "=")=↑(.bl<|w == 4):=by
 have:w=0\/w=1\/w=2\/w=3\/w=4:=by lia
 rcases this with rfl|rfl|rfl|rfl|rfl<;>refine⟨?_,?_,?_,?_,?_⟩<;>ext
abbrev Aj(l:Nat×Nat×Int):T:=.tup [.int (l.1:Nat),.str<|Ej l.2.1,.int l.2.2]
def Look(m:Nat)(l:Nat×Nat×Int):Prop:=0<l.1/\l.1<m+1/\l.2.1<5
abbrev LN(x:Dv.Lim):T:=.tup [.int (x.1:Nat),.int (x.2.1:Nat),.int x.2.2]
def Cu:Nat×Nat×Int->List Dv.Lim
 |(p,0,n)=>[(p,0,2 * n)]|(p,1,n)=>[(p,0,2 * n+1)]|(p,2,n)=>[(0,p,2 * -n)]|(p,3,n)=>[(0,p,2 * -n+1)]|(p,ϊ,n)=>[(p,0,2 * n+1),(0,p,2 * -n+1)]
def lb_ok{l:Nat×Nat×Int}(a:l.2.1<5):PK [.int (l.1:Nat),.int 0,.str<|Ej l.2.1,.int l.2.2]=↑(.ok<|.own<|(Cu l).map LN):=by
 let(p,w,n):=l;let(b,c,d,e,f):=X4 a
 have:w=0\/w=1\/w=2\/w=3\/w=4:=by
  have:w<5:=a;lia
 have z:((0:Nat):Int)=(0:Int):=rfl;unfold PK Tc;rcases this with rfl|rfl|rfl|rfl|rfl<;>(simp![b,c,d,e,f,Ot,Wd,Cu,z];rfl)
theorem Ua{m:Nat}{l:Nat×Nat×Int}(h:Look m l):Dv.In (m+1)<|Cu l:=λx b=>by
 let(p,w,n):=l;let(e,c,d):=h
 have:w=0\/w=1\/w=2\/w=3\/w=4:=by
  have:w<5:=d;lia
 have a:p<m+1:=c;rcases this with rfl|rfl|rfl|rfl|rfl<;>erw[Cu,Ñ,đ,ě]at b
 all_goals first|(rcases b with rfl|rfl<;>exact⟨by first|exact a|exact ħ m,by first|exact a|exact ħ m⟩)|(subst b;exact⟨by first|exact a|exact ħ m,by first|exact a|exact ħ m⟩)
abbrev Qj:Stmt:=AK 62
def Vj:AG:=
 (EH (m2 EJ (AA 0)<|AA 1) (mC<|.int 0)<|AA 0)
def Vi:AG:=
 (AW (AW (AA 2)<|AA 1)<|AA 0)
def Of:AG:=
 (Ax 1 [0,2] (Au<|AA 1) (AD 0) (mC<|.bl true) Vi)
def TU:AH:=
 (AF (A3 (Ax 1 [1] (Cw<|AB (m1 Bd<|AA 0) AE) (AD 0) (mC<|.bl true) Vj)<|AD 2)
 (AN<|Ax 1 [2,0] (Au<|AA 2) (AD 0) (mC<|.bl true) Of))
def Iv:qF->Option Ru:=AZ 2 3 TU
abbrev VF:=fA 1 2 Qj Iv
abbrev zeb:Gm:=gA Qj 0 [] ["range","len"]
theorem zeq:Ck zeb VF Qj TU:={}
abbrev oZ(n:Nat)(f:Db.Z):qF:=mT n λi=>.own<|mT n λj=>bT<|f i j
def NU{n:Nat}{f:Db.Z}{a b:Nat}{c:Db.B}:(oZ n f).set a (.own<|(mT n λj=>bT<|f a j).set b (bT c))=oZ n λi j=>if i=a/\j=b then c else f i j:=by
 unfold oZ;rw[eC,eC];refine EF λi h=>?_;by_cases e:i=a;subst e;rw[if_pos rfl,EF λj g=>?_];by_cases d:j=b;simp[d];simp[d];rw[if_neg e,EF λj g=>?_];simp[e]
def Gj{n:Nat}{g:Db.Z}:BP (oZ n g)=mT n λi=>rT n<|g i:=by
 unfold oZ;rw[Ft];refine EF λi a=>?_;rw[T.share,Ft];erw[Jv]
def Fg{n:Nat}{f g:Db.Z}(h:∀i j,i<n->j<n->f i j=g i j):oZ n f=oZ n g:=by
 unfold oZ;rw[EF λi a=>?_];rw[EF λj b=>?_];rw[h i j a b]
def BW(ps:qA)(i:Nat):Nat:=if i∈ps then 0 else i
abbrev nT(ps:qA):T:=.lst<|ps.map λ(p:Nat)=>T.int (p:Int)
def in_ok(i:Nat):∀ps:qA,Hl (.int (i:Int)) (ps.map λ(p:Nat)=>T.int (p:Int))=true:=λps=>by
 unfold Hl Ef
 have c:PyData.canLayAll0 (Bi<|ps.map λ(p:Nat)=>T.int p)=true:=by
  induction ps with
  |nil=>rfl|cons a r b=>lia
 have d:En (ps.map λ(p:Nat)=>T.int p)=true:=by
  induction ps with
  |nil=>rfl|cons a r b=>exact b<|by lia
 rw[c];simp[T.data,PyData.canLay0,PyData.depth,d];rfl
def gC(i:Nat):∀ps:qA,Jn (.int (i:Int)) (ps.map λ(p:Nat)=>T.int (p:Int))=decide (i∈ps)
 |[]=>by simp[Jn,Bi]|a::r=>by
  have b:=gC i r;unfold Jn at b ⊢;erw[Ö,Bi,ė,b];erw[T.data,PyData.eqv];by_cases e:i=a;simp[e];simp[e,show ¬ (a:Int)=(i:Int) by lia]
def in_nT(ps:qA)(i:Nat):EJ (.int (i:Int)) (nT ps)=↑(.bl<|decide (i∈ps)):=by
 unfold EJ nT;erw[in_ok i ps,gC i ps,Å]
def TB(ps:qA):BP (ps.map λ(p:Nat)=>T.int (p:Int))=ps.map λ(p:Nat)=>T.int (p:Int):=by
 rw[EA,ä];rfl
def TC(ps:qA):AX (ps.map λ(p:Nat)=>T.int (p:Int))=true:=by
 rw[CM,Ò];intro t a;obtain⟨p,-,rfl⟩:=Ê.mp a;rfl
def ZQ{n:Nat}(o:0<n)(p:n<=1000)(f:Db.Z)(ps:qA):Iv [zT n f,nT ps]=↑(.ok<|.own<|oZ n<|Dm.pbk f<|BW ps):=by
 have l1:n<=100000:=by lia
 have m:Cg (n:Int)=true:=Ea<|by lia
 have h:∀i,i<n->BW ps i<n:=λi a=>by
  unfold BW;split<;>lia
 have d:=Cj (n:=n) (me:=Vj) (x:=none) (cs:=[↑(nT ps)]) (g:=λi=>.int (i:Int)) (f:=λi=>.int (BW ps i:Int)) λi a=>by
  have q:=in_nT ps i;unfold Vj;by_cases e:i∈ps;rw[Ì e]at q;rw[show BW ps i=0 from if_pos e]
  simp![q,TB,TC]
  rw[Ý e]at q;rw[show BW ps i=i from if_neg e]
  simp![q,TB,TC]
 have b:∀i,i<n->Of [↑(.int (BW ps i:Int)),↑(.lst<|mT n λi=>.int (BW ps i:Int)),↑(zT n f)]=↑(.v (.own<|mT n λj=>bT<|Dm.pbk f (BW ps) i j) false):=λi a=>by
  have l:=Cj (n:=n) (me:=Vi) (x:=none) (cs:=[↑(.int (BW ps i:Int)),↑(zT n f)]) (g:=λj=>.int (BW ps j:Int)) (f:=λj=>bT<|Dm.pbk f (BW ps) i j) λj k=>by
   unfold Vi
   simp![CH<|h i a,CH<|h j k]
   rfl
  unfold Of
  simp![l,l1]
 have c:=Cj (n:=n) (me:=Of) (x:=none) (cs:=[↑(.lst<|mT n λi=>.int (BW ps i:Int)),↑(zT n f)]) (g:=λi=>.int (BW ps i:Int)) (f:=λi=>.own<|mT n λj=>bT<|Dm.pbk f (BW ps) i j) b;unfold Iv TU
 simp![m,E8,d,l1,c,TB,TC]
abbrev Ra:Stmt:=AK 60
def WI:AG:=
 (m1 Dt<|AA 0)
def UC:AH:=
 (AN<|Ax 1 [] (Au<|AA 0) (AD 0) (mC<|.bl true) WI)
def KI:qF->Option Ru:=AZ 1 1 UC
abbrev OU:=fA 1 1 Ra KI
abbrev zgv:Gm:=gA Ra 0 [] ["list"]
theorem zhb:Ck zgv OU Ra UC:={}
def Vb{n:Nat}(c:n<=1000)(f:Db.Z):KI [zT n f]=↑(.ok<|.own<|oZ n f):=by
 have a:=Cj (n:=n) (me:=WI) (x:=none) (cs:=[]) (g:=λi=>.nd false .lst<|mT n λj=>bT<|f i j) (f:=λi=>.own<|mT n λj=>bT<|f i j) λi b=>by
  unfold WI
  simp![]
 have l1:n<=100000:=by lia
 unfold KI UC
 simp![a,l1]
abbrev Qf:Stmt:=AK 61
def QC:AH:=
 (Gi 1 (AA 2) (mC<|.int 0)<|mC .non)
def TM:AH:=
 (AF (Cb 1<|AJ KI<|AB (AA 0) AE)
 (AF (Bc (Ie<|AB (mC<|.int 1)<|AB (m1 Bd<|AA 1) AE) (AD 2) QC)
 (AN<|AA 1)))
def Lu:qF->Option Ru:=AZ 1 3 TM
abbrev VB:=fA 2 1 Qf Lu
abbrev zgq:Gm:=gA Qf 1 [("copied",OU)] ["range","len"] ["rows"]
theorem zh6:Ck zgq VB Qf TM:={}
def OB{n i:Nat}(h:i<n):Bk n (i:Int)=↑i:=by unfold Bk;simp;lia
def X7{m:Nat}(B:m<=500)(f:Db.Z):Lu [zT (m+1) f]=↑(.ok<|.own<|oZ (m+1)<|Dm.wtd f):=by
 have co:=Vb (n:=m+1) (by lia) f
 have d:=L9 (b:=AD 2) (body:=QC) (n:=m) (g:=λi=>.int<|1+(i:Int)) (Y:=[↑(zT (m+1) f),↑(.own<|oZ (m+1) f),none])
  (λk Y=>∃x,Y=[↑(zT (m+1) f),↑(.own (oZ (m+1) λi j=>if 0<i/\i<k+1/\j=0 then none else f i j)),x])
  {none,by rw[show oZ (m+1) f=oZ (m+1) (λi j=>if 0<i/\i<0+1/\j=0 then none else f i j) from Fg λi j ϊ ϊ=>by rw[if_neg<|by lia]]} (by
   rintro k Y hk ⟨x,rfl⟩;refine{_,by simp![];rfl,?_};have q:(1:Int)+(k:Int)=((k+1:Nat):Int):=by lia
   have v:Bk (m+1) ((k+1:Nat):Int)=↑(k+1):=OB<|by lia
   have u:Bk (m+1) (0:Int)=↑0:=OB (i:=0)<|by lia
   generalize t:(λi j=>if 0<i/\i<k+1/\j=0 then none else f i j:Db.Z)=g;have l:∀i j,g i j=if 0<i/\i<k+1/\j=0 then none else f i j:=λi j=>by rw[<- t]
   have g1:(oZ (m+1) g)[k+1]?=↑(.own<|mT (m+1) λj=>bT<|g (k+1) j):=ED<|by lia
   have st:=NU (n:=m+1) (f:=g) (a:=k+1) (b:=0) (c:=none);rw[Wa]at st;rw[q];refine{[↑(zT (m+1) f),↑(.own (oZ (m+1) λi j=>if i=k+1/\j=0 then none else g i j)),↑(.int ((k+1:Nat):Int))],?_,↑(.int ((k+1:Nat):Int)),?_};unfold QC
   simp![v,u,g1,st]
   rw[Fg λi j ϊ ϊ=>?_];rw[l i j];by_cases o:i=k+1/\j=0;rw[if_pos o,if_pos<|by lia];rw[if_neg o];by_cases p:0<i/\i<k+1/\j=0;rw[if_pos p,if_pos<|by lia]
   rw[if_neg p,if_neg<|by lia])
 let(y,e,x,rfl):=d;have w:Cg ((m+1:Nat):Int)=true:=Ea<|by lia
 have o2:Cg 1=true:=Ea (n:=1)<|by decide
 have r:(((m+1:Nat):Int) - 1).toNat=m:=by lia
 have s:(oZ (m+1) λi j=>if 0<i/\i<m+1/\j=0 then none else f i j)=oZ (m+1) (Dm.wtd f):=Fg λi j z A=>by
  unfold Dm.wtd;by_cases h:0<i/\j=0;rw[if_pos h,if_pos<|by lia];rw[if_neg h];rw[if_neg<|by lia]
 rw[s]at e;unfold Lu TM
 simp![co,w,o2,r,Ye,e]
abbrev Qw:Stmt:=AK 59
def Vr:AG:=
 (EH (m2 (BB false) (AW (AA 0)<|AA 2)<|mC .non) (AA 0)<|AJ Lv<|AB (AA 0)<|AB (AJ KL<|AB (AW (AA 0)<|AA 2)<|AB (AA 1) AE)<|AB (AW (AA 4)<|AA 3) AE)
def LD:AH:=
 (AF (A4 (BQ<|AJ KD<|AB (AW (AW (AA 0)<|AA 1)<|AA 2)<|AB (AA 3) AE) (AN<|AA 0) Ab)
 (AF (A3 (AJ KL<|AB (AA 3)<|AB (AW (AW (AA 0)<|AA 2)<|AA 1) AE)<|AD 4)
 (AF (A4 (Cc (m2 (BB true) (AA 4)<|mC .non)<|m2 (C0 λi j=>decide (i<j)) (AA 4)<|AJ Fo<|AB (mC<|.int 0) AE) (AN<|mC .non) Ab)
 (AN<|Ax 1 [3,1,2,0] (Au<|AA 0) (AD 0) (mC<|.bl true) Vr))))
def Iy:qF->Option Ru:=AZ 4 5 LD
abbrev iA:=fA 3 4 Qw Iy
abbrev zee:Gm:=gA Qw 2 [("is_wider",VI),("added",i5),("at_most",Il),("row_over",VE)] []
theorem zet:Ck zee iA Qw LD:={}
def J3(n:Nat)(f:Db.Z)(a b:Nat)(c:Int)(i:Nat):T:=match f i a with
 |none=>rT n (f i)|some ϊ=>.own<|mT n λj=>bT<|Dv.ins f a b ↑c i j
def zg9{n:Nat}{f:Db.Z}{a b:Nat}{c:Int}(i:Nat):(J3 n f a b c i).share=rT n (Dv.ins f a b ↑c i):=by
 unfold J3;cases e:f i a with
 |none=>
  erw[T.share,Ft,Jv];rw[EF λj g=>?_];unfold Dv.ins;rw[e];cases f i j<;>rfl
 |some d=>erw[T.share,Ft,Jv]
def zp8{n:Nat}(I:n<=1000){f:Db.Z}(w:Db.Nar n f){a b:Nat}(o:a<n)(p:b<n){c:Int} :
  (Dk.leB ↑1 (Db.add (f b a) ↑c)=true->∃t,Iy [zT n f,.int (a:Int),.int (b:Int),.int c]=↑(.ok t)/\t.share=zT n (Dv.ins f a b ↑c)/\t.isN=false) /\
  (Dk.leB ↑1 (Db.add (f b a) ↑c)=false->Iy [zT n f,.int (a:Int),.int (b:Int),.int c]=↑(.ok .non)):=by
 have G:=X1 (f a b) ↑c;have s:=CH (g:=λi=>rT n<|f i) o
 have u:=CH (g:=λi=>rT n<|f i) p;have v:=CH (g:=λj=>bT<|f a j) p;have A:=CH (g:=λj=>bT<|f b j) o;have l:=lI ↑c<|f b a;rw[Db.add_comm]at l
 by_cases k:Db.le (f a b) ↑c;have m:=G.1 k
 have one:Dk.leB ↑1 (Db.add (f b a) ↑c)=true:=by
  rw[Dk.leB_iff,<- w.diag b p];exact Db.le_trans (w.tri b b a p p o)<|Db.add_mono (Db.le_refl _) k
 refine{λϊ=>{zT n f,?_,?_,rfl},λh=>by rw[one]at h;cases h};unfold Iy LD;rw[W9]at m
 simp![s,v,m]
 have:zT n (Dv.ins f a b ↑c)=zT n f:=zht λi j C D=>Db.mn_of_le (by
  refine Db.le_trans (w.tri i j a C D o)<|Db.add_mono (Db.le_refl _) ?_;exact Db.le_trans (w.tri a j b o D p)<|Db.add_mono k<|Db.le_refl _)
 rw[this];erw[T.share,Ft,Jv];have m:=G.2 k;rw[W9]at m l;have l1:n<=100000:=by lia
 have E:=Cj (n:=n) (me:=Vr) (x:=none) (cs:=[↑(.int c),↑(.int (a:Int)),↑(.int (b:Int)),↑(zT n f)]) (g:=λi=>rT n<|f i) (f:=λi=>J3 n f a b c i) λi C=>by
  have c1:=CH (g:=λj=>bT<|f i j) o;unfold Vr J3;cases e:f i a with
  |none=>
   rw[e]at c1
   simp![c1]
  |some d=>
   rw[e]at c1;have y:=lI ↑d ↑c;have F:=Y7 (n:=n) l1 (f i) (f b)<|Db.bs d c
   have H:(λj=>bT<|Db.mn (f i j)<|Db.add (↑(Db.bs d c))<|f b j)=λj=>bT<|Dv.ins f a b ↑c i j:=funext λj=>by
    unfold Dv.ins;rw[e,<- Db.add_assoc];rfl
   rw[H]at F;have z:KL [.int d,.int c]=↑(.ok<|.int<|Db.bs d c):=y
   simp![c1,z,u,F]
 have sh:BP (mT n λi=>J3 n f a b c i)=mT n λi=>rT n<|Dv.ins f a b ↑c i:=by
  rw[Ft];exact EF λi ϊ=>zg9 i
 constructor;intro h;refine{.own<|mT n λi=>J3 n f a b c i,?_,by erw[T.share,sh],rfl};unfold Iy LD;cases e:Db.add (f b a) ↑c with
 |none=>
  rw[e]at l
  simp![s,v,m,u,A,l,E,l1]
 |some r=>
  rw[e]at l h
  have B:¬ r<1:=by
   have:=Dk.leB_iff.mp h;erw[Db.le]at this;lia
  simp![s,v,m,u,A,l,Jx,B,E,l1]
 intro h;unfold Iy LD;cases e:Db.add (f b a) ↑c with
 |none=>rw[e]at h;cases h|some r=>
  rw[e]at l h
  have B:r<1:=by
   rcases Ļ r 1 with q|q;exact q;have:Dk.leB ↑1 ↑r=true:=Dk.leB_iff.mpr q;rw[this]at h;cases h
  simp![s,v,m,u,A,l,Jx,B]
abbrev RA:Stmt:=AK 58
def JG:AH:=
 (AF (A3 (AJ Iy<|AB (AA 2)<|AB (AA 6)<|AB (AA 7)<|AB (AA 8) AE)<|AD 2)
 (A4 (m2 (BB false) (AA 2)<|mC .non) (AN<|mC .non) Ab))
def MX:AH:=
 (Bc (Au<|AJ PK<|AB (AA 3)<|AB (mC<|.int 0)<|AB (AA 4)<|AB (AA 5) AE) (Ay 3<|AQ (AD 6)<|AQ (AD 7)<|AQ (AD 8) BA) JG)
def N6:AH:=
 (AF (A3 (AJ KI<|AB (AA 0) AE)<|AD 2)
 (AF (Bc (Au<|AA 1) (Ay 3<|AQ (AD 3)<|AQ (AD 4)<|AQ (AD 5) BA) MX)
 (AN<|AA 2)))
def DO:qF->Option Ru:=AZ 2 9 N6
abbrev Ik:=fA 4 2 RA DO
abbrev zqa:Gm:=gA RA 3 [("copied",OU),("look_bounds",iD),("narrowed",iA)] []
theorem zqu:Ck zqa Ik RA N6:={}
def dH{n:Nat}(i:n<=1000){a0 a1 a3 a4 a5:qB}:∀(B:List Dv.Lim),Dv.In n B->∀(f:Db.Z),Db.Nar n f->∀x y z:qB,
  (∀h,Dk.met B f=↑h->∃x' y' z',BK (Ay 3<|AQ (AD 6)<|AQ (AD 7)<|AQ (AD 8) BA) JG (B.map LN) [a0,a1,↑(zT n f),a3,a4,a5,x,y,z]=↑(.nx [a0,a1,↑(zT n h),a3,a4,a5,x',y',z'])) /\
  (Dk.met B f=none->BK (Ay 3<|AQ (AD 6)<|AQ (AD 7)<|AQ (AD 8) BA) JG (B.map LN) [a0,a1,↑(zT n f),a3,a4,a5,x,y,z]=↑(.rt .non))
 |[],ϊ,f,ϋ,x,y,z=>{λh e=>by
   cases e;exact{(x),y,z,rfl},λe=>by cases e}
 |b::B,d,f,g,x,y,z=>by
  have a:=d b (Ï ..);let(r,n2):=zp8 i g a.1 a.2 (c:=b.2.2);unfold Dk.met;rw[Ö];unfold BK;cases q:Dk.leB ↑1 (Db.add (f b.2.1 b.1) ↑b.2.2) with
  |false=>
   refine{λh e=>(by cases e),λϊ=>?_};have n2:=n2 q;unfold JG
   simp![n2]
  |true=>
   let(t,j,l,s):=r q;erw[Å];let(o,p):=dH i (a0:=a0) (a1:=a1) (a3:=a3) (a4:=a4) (a5:=a5) B (λy m=>d y<|Í _ m) _ (Dv.ins_nar g a.1 a.2<|Dk.leB_iff.mp q) (↑(.int (b.1:Nat))) (↑(.int (b.2.1:Nat)))<|↑(.int b.2.2)
   have st:JG [a0,a1,↑(zT n f),a3,a4,a5,↑(.int (b.1:Nat)),↑(.int (b.2.1:Nat)),↑(.int b.2.2)]=↑(.nx [a0,a1,↑(zT n<|Dv.ins f b.1 b.2.1 ↑b.2.2),a3,a4,a5,↑(.int (b.1:Nat)),↑(.int (b.2.1:Nat)),↑(.int b.2.2)]):=by
    unfold JG
    simp![j,l]
   refine{λh e=>?_,λe=>?_};let(x',y',z',k):=o h e;exact{x',y',z',by simp![st];exact k};have k:=p e
   simp![st]
   exact k
def Ez(l:Nat->Nat×Nat×Int):Nat->List Dv.Lim
 |0=>[]|k+1=>Ez l k++Cu (l k)
def kQ{m:Nat}{l:Nat->Nat×Nat×Int}:∀{K:Nat},(∀k,k<K->Look m (l k))->Dv.In (m+1) (Ez l K)
 |0,ϊ=>λx a=>by cases a|K+1,h=>λx a=>by
  rcases Ø.mp a with b|b;exact kQ (λk hk=>h k<|by lia) x b;exact Ua (h K<|by lia) x b
def dW{l:Nat->Nat×Nat×Int}{f:Db.Z}{i:Nat}(h:Dk.met (Ez l i) f=none):∀K,i<=K->Dk.met (Ez l K) f=none
 |0,e=>by
  have:i=0:=by lia
  subst this;exact h
 |K+1,e=>by
  by_cases q:i=K+1;subst q;exact h;show Dk.met (Ez l K++Cu (l K)) f=none;rw[Dk.met_app,dW h K<|by lia];rfl
def mt_ok{m K:Nat}(P:m<=500){f:Db.Z}(C:Db.Nar (m+1) f){l:Nat->Nat×Nat×Int}(A:∀k,k<K->Look m (l k)) :
  (∀h,Dk.met (Ez l K) f=↑h->DO [zT (m+1) f,.lst<|mT K λk=>Aj<|l k]=↑(.ok<|zT (m+1) h))/\(Dk.met (Ez l K) f=none->DO [zT (m+1) f,.lst<|mT K λk=>Aj<|l k]=↑(.ok .non)):=by
 have co:=Vb (n:=m+1) (by lia) f
 have o:=Jr (b:=Ay 3<|AQ (AD 3)<|AQ (AD 4)<|AQ (AD 5) BA) (body:=MX) (n:=K) (g:=λk=>Aj<|l k) (Y:=[↑(zT (m+1) f),↑(.lst<|mT K λk=>Aj<|l k),↑(zT (m+1) f),none,none,none,none,none,none])
  (λk=>Dk.met (Ez l<|k+1) f≠none) .non
  (λk Y=>∃h w y z s u v,Dk.met (Ez l k) f=↑h/\Y=[↑(zT (m+1) f),↑(.lst<|mT K λk=>Aj<|l k),↑(zT (m+1) h),w,y,z,s,u,v])
  {(f),none,none,none,none,none,none,rfl,rfl} (by
   rintro k Y hk - ⟨h,w,y,z,s,u,v,d,rfl⟩;refine{_,by simp![];rfl,?_};have j:=A k hk;have I:=((Dk.met_ok (n:=m+1) _ f C<|kQ λi D=>A i<|by lia).1 h d).1
   have lb:=lb_ok (l:=l k) j.2.2;let(F,G):=dH (n:=m+1) (by lia) (a0:=↑(zT (m+1) f)) (a1:=↑(.lst<|mT K λk=>Aj<|l k)) (a3:=↑(.int ((l k).1:Nat))) (a4:=↑(.str<|Ej (l k).2.1)) (a5:=↑(.int (l k).2.2)) (Cu<|l k) (Ua j) h I s u v
   have B:Dk.met (Ez l<|k+1) f=Dk.met (Cu<|l k) h:=by
    show Dk.met (Ez l k++Cu (l k)) f=_;rw[Dk.met_app,d];rfl
   have sh:BP ((Cu<|l k).map LN)=(Cu<|l k).map LN:=by
    rw[EA,ä];exact ÿ λx ϊ=>rfl
   rw[B];cases q:Dk.met (Cu<|l k) h with
   |none=>
    refine .inr {λc=>c rfl,?_};unfold MX
    simp![lb,sh]
    exact G q
   |some r=>
    let(L,M,N,H):=F r q;refine .inl {(by intro c;cases c),_,.inl ?_,r,↑(.int ((l k).1:Nat)),↑(.str<|Ej (l k).2.1),↑(.int (l k).2.2),L,M,N,rfl,rfl};unfold MX
    simp![lb,sh]
    exact H)
 have p:BP (mT K λk=>Aj<|l k)=mT K λk=>Aj<|l k:=by
  rw[Ft];rfl
 have shr:AX (mT K λk=>Aj<|l k)=true:=by
  rw[CM,Ò];intro t E;obtain⟨i,-,rfl⟩:=eG E;rfl
 rcases o with ⟨-,O,e,h,w,y,z,s,u,v,d,rfl⟩|⟨⟨i,D,J⟩,e⟩;refine{λr a=>?_,λa=>by rw[d]at a;cases a};rw[d]at a;cases a;unfold DO N6
 simp![co,p,shr,e]
 have no:=dW (Classical.not_not.mp J) K<|by lia
 refine{λr a=>(by rw[no]at a;cases a),λϊ=>?_};unfold DO N6
 simp![co,p,shr,e]
abbrev Qs:Stmt:=AK 73
def Vm:AG:=
 (BU Ac Ad HF (AA 1)<|AB (AA 0) AE)
def T5:AH:=
 (AN<|Ax 1 [0] (Au<|BU B8 Be Pl (AA 1) AE) (AD 0) (mC<|.bl true) Vm)
def PD:qF->Option Ru:=AZ 2 2 T5
abbrev hJ:=fA 2 2 Qs PD
abbrev zb3:Gx:={ B9 with mt:=[("sets",B8,Be,jJ),("watch_number",Ac,Ad,O0)] }
abbrev zb7:Gm:=gA Qs 1 [] [] (ox:=zb3)
theorem zbc:Ck zb7 hJ Qs T5:={}
def BJ(ws ns:ky):qA:=ns.map λx=>(CI ws x).getD 0+1
abbrev Dj(l:qA):qF:=l.map λp:Nat=>T.int (p:Int)
def NZ(l:qA):AX (Dj l)=true:=CU λϊ ϊ=>rfl
def np_ok{M:Mc}(h:McOk M){d:Dr}(hd:d∈M.ds):PD [A9 M,BG d]=↑(.ok<|.own<|Dj<|BJ M.ws d.n):=by
 have D:=h.d d hd;have e:=D.g.sh;have c:=GN h;have a:=zm7 e
 have l:=Ct (b:=AD 0) (me:=Vm) T.str (λx=>.int ((CI M.ws x).getD 0+1:Nat)) (λY=>∃x,Y=[x,↑(A9 M)]) d.n [none,↑(A9 M)] {(none),rfl} λx k Y i=>by
  let(y,rfl):=i;let(j,f,_):=Hm<|D.n x k;have en:HF [A9 M,.str x]=↑(.ok<|.int<|j+1):=TJ h f;refine{[↑(.str x),↑(A9 M)],by simp![],?_,_,rfl}
  unfold Vm;rw[f]
  simp![-Ao,FX,c,AO _ c,en,ŕ,Int.natCast_add]
 have g:Dj (BJ M.ws d.n)=d.n.map λx=>.int ((CI M.ws x).getD 0+1:Nat):=by
  unfold Dj BJ;simp_all
 have nl:d.n.length<=100000:=by have:=D.nl;lia
 rw[g];unfold PD T5
 simp![c,AO _ c,a,e,AI _ e,Av,BX,À,nl,l]
def oT(n:Nat):Option Db.Z->T
 |none=>.non|some f=>zT n f
def ET(n:Nat)(o:Option Db.Z):(oT n o).sh=true:=by
 cases o with
 |none=>rfl|some f=>exact Bl n f
def Gk(n:Nat)(o:Option Db.Z)(b:Bool):BB b (oT n o) .non=↑(.bl<|b != o.isNone):=by
 cases o<;>cases b<;>rfl
def BD(L:List<|Nat×Nat×Int)(f:Db.Z):Option Db.Z:=Dk.met (L.flatMap Cu) f
def kR{d:Nat×Nat×Int}{L:List<|Nat×Nat×Int}:∀K,K<=L.length->Ez (λk=>L.getD k d) K=(L.take K).flatMap Cu
 |0,ϊ=>by rw[List.take_zero];rfl|K+1,h=>by
  have a:K<L.length:=h;show Ez _ K++Cu (L.getD K d)=_;rw[kR K (by lia),Į a,List.flatMap_append,Þ,Á a]
  simp
abbrev Eh(m:Nat)(L:List<|Nat×Nat×Int):Prop:=∀l∈L,Look m l
theorem Hg{m:Nat}{L:List<|Nat×Nat×Int}(b:Eh m L):Dv.In (m+1)<|L.flatMap Cu:=λx a=>by
 let(l,c,a):=Ĕ.mp a;exact Ua (b l c) x a
def H9{m:Nat}(d:m<=500){f:Db.Z}(c:Db.Nar (m+1) f){L:List<|Nat×Nat×Int}(b:Eh m L):DO [zT (m+1) f,.lst<|L.map Aj]=↑(.ok<|oT (m+1)<|BD L f):=by
 have h:=mt_ok (K:=L.length) d c (l:=λk=>L.getD k (0,0,0)) λk hk=>by
  rw[Þ,Á hk];exact b _<|ç hk
 rw[kR _<|Ä _,ē]at h
 have e:(mT L.length λk=>Aj<|L.getD k (0,0,0))=L.map Aj:=Eq.symm (Es (À _) λi a=>by
  rw[Î,Á a,Þ,Á a]
  rfl)
 rw[e]at h;unfold BD;cases q:Dk.met (L.flatMap Cu) f with
 |none=>exact h.2 q|some g=>exact h.1 g q
theorem Ha{m:Nat}{f:Db.Z}(b:Db.Nar (m+1) f){L:List<|Nat×Nat×Int}(a:Eh m L){g:Db.Z}(e:BD L f=↑g):Db.Nar (m+1) g:=((Dk.met_ok _ f b<|Hg a).1 g e).1
open Classical in
def Bv(n:Nat)(f:Db.Z):Option Db.Z:=if Db.Sound n f then ↑(Db.fw f n) else none
def cW{n:Nat}(c:n<=100000)(f:Db.Z):G5 [zT n f]=↑(.ok<|oT n<|Bv n f):=by
 let(a,b):=Su c f;unfold Bv;split;exact a ‹_›;exact b ‹_›
def Sv{n:Nat}{f g:Db.Z}(e:Bv n f=↑g):Db.Nar n g:=by
 unfold Bv at e;split at e;cases e;exact Db.nar ‹_›;cases e
open Classical in
def E5(n:Nat)(f g:Db.Z):Bool:=decide (∀i j,i<n->j<n->Db.le (f i j) (g i j))
open Classical in
def X0{n:Nat}(f g:Db.Z):Hy [zT n f,zT n g]=↑(.ok<|.bl<|E5 n f g):=by
 let(a,b):=wi_ok (n:=n) f g;unfold E5;by_cases h:∀i j,i<n->j<n->Db.le (f i j) (g i j);rw[Ì h];exact a h;rw[Ý h];exact b h
def Dq(L:List<|Nat×Nat×Int):AX (L.map Aj)=true:=CU λϊ ϊ=>rfl
def HH(y:Str):Nat:=if y=Str.ofString "<" then 0 else if y=Str.ofString "<=" then 1 else if y=Str.ofString ">" then 2 else if y=Str.ofString ">=" then 3 else 4
def XZ:∀y∈CB,Ej (HH y)=y/\HH y<5:=by decide +kernel
def Eo(ws:ky)(t:T):Nat×Nat×Int:=((CI ws<|Ed t).getD 0+1,HH<|Ec t,Ce t)
def NF{ws:ky}{l:qF}(h:Ca ws CB l):l.map (Ba ws)=(l.map<|Eo ws).map Aj:=by
 rw[ä];refine ÿ λt a=>?_;let(c,d,b,e):=Nr<|h t a;show Ba ws t=Aj (Eo ws t);unfold Ba Eo;rw[show Aj ((CI ws<|Ed t).getD 0+1,HH<|Ec t,Ce t)=.tup [.int (((CI ws<|Ed t).getD 0+1:Nat):Int),.str<|Ej<|HH<|Ec t,.int<|Ce t] from rfl,(XZ _ b).1,Int.natCast_add]
 rfl
theorem IS{ws:ky}{l:qF}(h:Ca ws CB l):Eh ws.length<|l.map<|Eo ws:=λx c=>by
 let(t,b,rfl):=Ê.mp c;let(g,d,e,i):=Nr<|h t b;let(j,a,f,_):=Hm d;refine{ħ _,?_,(XZ _ e).2};show(CI ws<|Ed t).getD 0+1<_;rw[a,ŕ]
 lia
theorem Ca.wd{ws:ky}{l:qF}(h:Ca ws FD l):Ca ws CB l:=λt c=>by
 let(x,y,n,e,a,d,b):=h t c;refine{x,y,n,e,a,?_,b};revert y;have:∀y∈FD,y∈CB:=by decide +kernel
 exact λy ϊ h=>this y h
def jO{α:Type}{x:Str}{v:α}:∀{rs:List<|Str×α},(rs.map (·.1)).Nodup->(x,v)∈rs->rs.find? (λq=>decide (q.1=x))=↑(x,v)
 |[],ϊ,h=>by cases h|a::l,nd,h=>by
  rw[Ö,ĸ]at nd;rcases Ñ.mp h with rfl|h;rw[List.find?_cons_of_pos<|by simp];rw[List.find?_cons_of_neg λz=>nd.1 ?_];exact jO nd.2 h;rw[í z];exact Ê.mpr {_,h,rfl}
def An(ws:ky)(rs:List<|Str×qF)(x:Str):List<|Nat×Nat×Int:=(((rs.find? λq=>decide (q.1=x)).map (·.2)).getD []).map (Eo ws)
def zmz{ws:ky}{rs:List<|Str×qF}(nd:(rs.map (·.1)).Nodup){r:Str×qF}(h:r∈rs):An ws rs r.1=r.2.map (Eo ws):=by
 unfold An;rw[jO (v:=r.2) nd h];rfl
def Gf{M:Mc}(h:McOk M)(x:Str):Eh M.ws.length<|An M.ws M.rs x:=by
 unfold An;cases e:M.rs.find? λq=>decide (q.1=x) with
 |none=>exact λl a=>by cases a|some r=>exact IS (h.r.lk r<|š e).1.wd
abbrev Qk:Stmt:=AK 72
def QE:AH:=
 (JU 1 (AA 2)<|AJ G4<|AB (AA 0)<|AB (BU Ac Ad KO (AA 0)<|AB (AA 2) AE) AE)
def TV:AH:=
 (AF (Cb 1 Hf)
 (AF (Bc (Au<|BU Ac Ad E3 (AA 0) AE) (AD 2) QE)
 (AN<|AA 1)))
def Lw:qF->Option Ru:=AZ 1 3 TV
abbrev VG:=fA 6 1 Qk Lw
abbrev zbj:Gx:={ B9 with mt:=[("rooms",Ac,Ad,Hq),("stay",Ac,Ad,VV)] }
abbrev zbn:Gm:=gA Qk 5 [("placed",La)] [] ["stays"] (ox:=zbj) (dc:=["stays"])
theorem zbu:Ck zbn VG Qk TV:={}
def ZA{M:Mc}(h:McOk M):Lw [A9 M]=↑(.ok<|.osd M.nm<|M.nm.map λx=>.own<|(An M.ws M.rs x).map Aj):=by
 have a:=GN h;have nd:M.nm.Nodup:=h.r.nd;have l64:=h.r.l64;have s:M.nm.length=M.rs.length:=À _;have o:E3 [A9 M]=↑(.ok<|.own<|M.nm.map T.str):=IZ h
 let(Y,e,y,rfl):=Ey (b:=AD 2) (body:=QE) (ts:=M.nm.map T.str) (Y:=[↑(A9 M),↑(.osd [] []),none]) (λi Y=>∃y,Y=[↑(A9 M),↑(.osd (M.nm.take i)<|(M.nm.take i).map λx=>.own<|(An M.ws M.rs x).map Aj),y]) {(none),rfl} λi t Y c n=>by
  let(y,rfl):=n;have g:i<M.nm.length:=by simpa using (É.mp c).1
  have d:i<M.rs.length:=by lia
  rw[Î,Á g]at c;have m:=(Ù c).symm;subst m;have en:M.nm[i]=M.rs[i].1:=Ķ _;have lk:=h.r.lk _<|ç d
  have ms:KO [A9 M,.str M.nm[i]]=↑(.ok<|.own M.rs[i].2):=by
   rw[en];exact dM h d
  have q:G4 [A9 M,.lst M.rs[i].2]=↑(.ok<|.own<|(An M.ws M.rs M.nm[i]).map Aj):=by
   rw[en,zmz nd<|ç d,<- NF lk.1.wd];exact Kr h lk.1.wd (λϊ h=>h) lk.2
  have p:M.nm[i]∉M.nm.take i:=λz=>by
   let(j,r,e):=Ţ.mp z;have:=(ö nd).mp e
   lia
  have f:(M.nm.take i).length<100000:=by rw[û];lia
  have sr:=lk.1.sh;refine{[↑(A9 M),↑(.osd (M.nm.take i)<|(M.nm.take i).map λx=>.own<|(An M.ws M.rs x).map Aj),↑(.str M.nm[i])],by simp![],[↑(A9 M),↑(.osd (M.nm.take i++[M.nm[i]])<|(M.nm.take i).map (λx=>.own<|(An M.ws M.rs x).map Aj)++[.own<|(An M.ws M.rs M.nm[i]).map Aj]),↑(.str M.nm[i])],?_,↑(.str M.nm[i]),?_};unfold QE;have k:=Dq<|An M.ws M.rs M.nm[i];change (An M.ws M.rs M.nm[i]).map Aj=LK;change M.rs[i].2=RS;change ((M.nm.take i).map λx=>T.own<|(An M.ws M.rs x).map Aj)=V
  change M.nm[i]=x;change M.nm.take i=l
  simp![-Ao,FX,a,AO _ a,ms,sr,AI _ sr,q,k,AI _ k,Ű,ű,p,f,ž]
  rw[Į g,ß];rfl
 rw[À,ē]at e;have l1:M.nm.length<=100000:=by lia
 change (M.nm.map λx=>T.own<|(An M.ws M.rs x).map Aj)=V;unfold Lw TV
 simp![-Ao,FX,a,AO _ a,o,BX,Av,À,l1,e]
abbrev R9:Stmt:=AK 74
def QI:AH:=
 (JU 1 (AA 2)<|BE AE)
def M3:AH:=
 (A4 (m2 BM (AU B8 Be 4<|AA 4)<|mC<|.str "") (AF (A3 (Bw<|AB (AA 3)<|AB (AU B8 Be 1<|AA 4)<|AB (AJ G4<|AB (AA 0)<|AB (BU B8 Be KS (AA 4) AE) AE)<|AB (AJ PD<|AB (AA 0)<|AB (AA 4) AE) AE)<|AD 5)
 (Kk 1 (AU B8 Be 0<|AA 4)<|AA 5)) Ab)
def UB:AH:=
 (AF (Cb 1 Hf)
 (AF (Bc (Au<|BU Ac Ad E3 (AA 0) AE) (AD 2) QI)
 (AF (Bc (C6<|AB (BU Ac Ad KP (AA 0) AE) AE) (Ay 2<|AQ (AD 3)<|AQ (AD 4) BA) M3)
 (AN<|AA 1))))
def MI:qF->Option Ru:=AZ 1 6 UB
abbrev VP:=fA 6 1 R9 MI
abbrev zcz:Gx:={ B9 with cl:=[("Door",B8,Be)],mt:=[("rooms",Ac,Ad,Hq),("doors",Ac,Ad,VX),("asks",B8,Be,V0)] }
abbrev zdc:Gm:=gA R9 5 [("placed",La),("nought_places",hJ)] ["enumerate"] ["told"] (ox:=zcz) (dc:=["told"])
theorem zdq:Ck zdc VP R9 UB:={}
abbrev gK(ws:ky)(d:Dr):List<|Nat×Nat×Int:=d.g.map<|Eo ws
def Bx(ws:ky)(p:Nat×Dr):T:=.tup [.int (p.1:Nat),.str p.2.e,.lst<|(gK ws p.2).map Aj,.lst<|Dj<|BJ ws p.2.n]
def B0(x:Str):Nat->qC->List (Nat×Dr)
 |ϊ,[]=>[]|k,d::l=>(if d.z=Str.ofString ""/\d.s=x then [(k,d)] else [])++B0 x (k+1) l
def XW(x:Str)(b:qC):∀(a:qC) (k:Nat),B0 x k (a++b)=B0 x k a++B0 x (k+a.length) b
 |[],k=>rfl|d::a,k=>by
  rw[ũ];unfold B0;rw[XW x b a<|k+1,ú,show k+1+a.length=k+(d::a).length by rw[ñ];lia];cases b<;>rfl
def K1{x:Str}{p:Nat×Dr}:∀{l:qC} {k:Nat},p∈B0 x k l->p.2∈l
 |[],ϊ,h=>by cases h|d::l,k,h=>by
  unfold B0 at h;rcases Ø.mp h with h|h;split at h;rw[È.mp h];exact .head _;cases h;exact .tail _<|K1 h
def MV(x:Str):∀(l:qC) (k:Nat),(B0 x k l).length<=l.length
 |[],ϊ=>Ä _|d::l,k=>by
  unfold B0;rw[Ü,ñ];have:=MV x l<|k+1;split<;>simp<;>lia
def JF(ws:ky)(p:Nat×Dr):(Bx ws p).sh=true:=by
 have a:=NZ<|BJ ws p.2.n;have b:=Dq<|gK ws p.2;unfold Bx;change Dj (BJ ws p.2.n)=A;change (gK ws p.2).map Aj=B
 simp![a,b]
def zk6{s:Str}{A:Str->qF}{w:T}{l:ky}{j:Nat}{hj:j<l.length}(a:l[j]=s)(nd:l.Nodup):(l.map λx=>T.own<|A x).set j (.own<|A s++[w])=l.map λx=>.own (A x++if s=x then [w] else []):=by
 refine List.ext_getElem (by simp) λi b c=>?_;rw[Ķ];by_cases q:i=j;subst q;rw[List.getElem_set_self,if_pos a.symm,a];rw[List.getElem_set_ne<|Ë q,Ķ,if_neg λz=>q<|(ö nd).mp (z.symm.trans a.symm),è]
def zm8(d:Dr):Ao B8 Be (BG d)=↑[.str d.s,.str d.e,.lst d.g,.lst<|d.n.map T.str,.str d.z]:=(show Ao B8 Be (BG d)=(if B8=B8/\Be=Be then ↑[.str d.s,.str d.e,.lst d.g,.lst<|d.n.map T.str,.str d.z] else none) from rfl).trans (if_pos {(rfl),rfl})
def Bo(M:Mc)(i:Nat):qF:=M.nm.map λx=>.own<|(B0 x 0<|M.ds.take i).map (Bx M.ws)
def zhu{M:Mc}{i:Nat}(a:i<M.ds.length):Bo M (i+1)=M.nm.map λx=>.own ((B0 x 0<|M.ds.take i).map (Bx M.ws)++if M.ds[i].z=Str.ofString ""/\M.ds[i].s=x then [Bx M.ws (i,M.ds[i])] else []):=by
 unfold Bo;refine ÿ λx ϊ=>?_;rw[Į a,XW,ß,û,Nat.min_eq_left<|by lia]
 congr 2
 unfold B0;split;unfold B0;rw[Nat.zero_add];rfl;rfl
def jZ{M:Mc}(h:McOk M):MI [A9 M]=↑(.ok<|.osd M.nm<|Bo M M.ds.length):=by
 have k:=GN h;have nd:M.nm.Nodup:=h.r.nd;have l64:=h.r.l64;have dl:=h.dl;have U:M.nm.length=M.rs.length:=À _;have K:E3 [A9 M]=↑(.ok<|.own<|M.nm.map T.str):=IZ h;have md:KP [A9 M]=↑(.ok<|.own<|M.ds.map BG):=dZ h;have sd:=h.sd
 let(Y,e,y,rfl):=Ey (b:=AD 2) (body:=QI) (ts:=M.nm.map T.str) (Y:=[↑(A9 M),↑(.osd [] []),none,none,none,none]) (λi Y=>∃y,Y=[↑(A9 M),↑(.osd (M.nm.take i)<|(M.nm.take i).map λϊ=>.own []),y,none,none,none]) {(none),rfl} λi t Y c r=>by
  let(y,rfl):=r;have d:i<M.nm.length:=by simpa using (É.mp c).1
  rw[Î,Á d]at c;have p:=(Ù c).symm;subst p
  have O:M.nm[i]∉M.nm.take i:=λz=>by
   let(j,g,e):=Ţ.mp z;have:=(ö nd).mp e
   lia
  have lk:(M.nm.take i).length<100000:=by rw[û];lia
  refine{[↑(A9 M),↑(.osd (M.nm.take i)<|(M.nm.take i).map λϊ=>.own []),↑(.str M.nm[i]),none,none,none],by simp![],[↑(A9 M),↑(.osd (M.nm.take i++[M.nm[i]])<|(M.nm.take i).map (λϊ=>.own [])++[.own []]),↑(.str M.nm[i]),none,none,none],?_,↑(.str M.nm[i]),?_};unfold QI;change M.nm[i]=x;change M.nm.take i=l
  simp![Ű,ű,O,lk,ž]
  rw[Į d,ß];rfl
 rw[À,ē,show(M.nm.map λϊ=>T.own [])=Bo M 0 by unfold Bo;rw[List.take_zero];rfl]at e;have l1:M.nm.length<=100000:=by lia
 have S:M.ds.length<=100000:=by lia
 let(Y,B,m,n,f,rfl):=Ey (b:=Ay 2<|AQ (AD 3)<|AQ (AD 4) BA) (body:=M3) (ts:=Eg 0<|M.ds.map BG) (Y:=[↑(A9 M),↑(.osd M.nm<|Bo M 0),y,none,none,none]) (λi Y=>∃m n f,Y=[↑(A9 M),↑(.osd M.nm<|Bo M i),y,m,n,f]) {_,_,_,rfl} λi t Y c r=>by
  let(m,n,f,rfl):=r
  have d:i<M.ds.length:=by
   have:=(É.mp c).1;rw[O6,À]at this;exact this
  have hd:=ç d;rw[V3 _ 0 i (BG M.ds[i]) (by rw[Î,Á d];rfl),Nat.zero_add]at c;have p:=(Ù c).symm;subst p;have ws:=zhu d;have D:=h.d _ hd;have a:(BG M.ds[i]).sh=true:=Js D;have s:AX M.ds[i].g=true:=D.g.sh
  have Q:G4 [A9 M,.lst M.ds[i].g]=↑(.ok<|.own<|(gK M.ws M.ds[i]).map Aj):=by
   unfold gK;rw[<- NF D.g];exact Kr h D.g (λϊ h=>h) D.gl
  have P:=np_ok h hd;have H:KS [BG M.ds[i]]=↑(.ok<|.own M.ds[i].g):=j5 s;let(j,I,g,v):=Hm (ws:=M.nm) (x:=M.ds[i].s) D.s;have o:BM (.str M.ds[i].z) (.str "")=↑(.bl<|decide (M.ds[i].z=Str.ofString "")):=Hr (YL D.z) em_ok;have u:=zm8 M.ds[i]
  have F:Ay 2 (AQ (AD 3)<|AQ (AD 4) BA) (.tup [.int (i:Nat),BG M.ds[i]]) [↑(A9 M),↑(.osd M.nm<|Bo M i),y,m,n,f]=↑[↑(A9 M),↑(.osd M.nm<|Bo M i),y,↑(.int (i:Nat)),↑(BG M.ds[i]),f]:=by
   change BG M.ds[i]=DD
   simp![a,AO _ a]
  refine{_,F,?_};by_cases z:M.ds[i].z=Str.ofString "";rw[Ì z]at o
  have ow:HV (Bo M i) j=↑((B0 M.ds[i].s 0<|M.ds.take i).map (Bx M.ws)):=by
   unfold HV Bo;rw[Î,Á g,v];rfl
  have J:((B0 M.ds[i].s 0<|M.ds.take i).map (Bx M.ws)).length<100000:=by
   have:=MV M.ds[i].s (M.ds.take i) 0;rw[û]at this;rw[À];lia
  have R:=zk6 (A:=λx=>(B0 x 0<|M.ds.take i).map (Bx M.ws)) (w:=Bx M.ws (i,M.ds[i])) (hj:=g) v nd
  have ws:Bo M (i+1)=(Bo M i).set j (.own<|(B0 M.ds[i].s 0<|M.ds.take i).map (Bx M.ws)++[Bx M.ws (i,M.ds[i])]):=by
   rw[ws];unfold Bo;refine(ÿ λx ϊ=>?_).trans R.symm;erw[eq_true z,true_and]
  have E:=NZ<|BJ M.ws M.ds[i].n;have C:=Dq<|gK M.ws M.ds[i];refine{[↑(A9 M),↑(.osd M.nm<|Bo M<|i+1),y,↑(.int (i:Nat)),↑(BG M.ds[i]),↑(Bx M.ws (i,M.ds[i]))],?_,_,_,_,rfl};rw[ws];change (B0 M.ds[i].s 0<|M.ds.take i).map (Bx M.ws)=WL;unfold Bx;unfold M3;simp only at *;change Dj (BJ M.ws M.ds[i].n)=N;change (gK M.ws M.ds[i]).map Aj=G;change BG M.ds[i]=DD;change M.ds[i].g=DG;change Bo M i=L
  simp![-Ao,-HV,FX,u,k,AO _ k,a,AO _ a,o,H,s,AI _ s,Q,P,E,AI _ E,C,AI _ C,I,ow,J,Ű,ű]
  rw[Ý z]at o
  have ws:Bo M (i+1)=Bo M i:=by
   rw[ws];unfold Bo;refine ÿ λx ϊ=>?_;rw[if_neg<|λq=>z q.1,è]
  refine{[↑(A9 M),↑(.osd M.nm<|Bo M i),y,↑(.int (i:Nat)),↑(BG M.ds[i]),f],?_,_,_,_,by rw[ws]};unfold M3;change BG M.ds[i]=DD;change Bo M i=L
  simp![-Ao,u,a,AO _ a,o]
 rw[O6,À]at B;change Bo M M.ds.length=L2;change Bo M 0=L0;unfold MI UB;change M.ds.map BG=DS
 simp![-Ao,FX,k,AO _ k,K,md,BX,Av,sd,AI _ sd,À,l1,e,C6,B]
abbrev Qg:Stmt:=AK 12
def TN:AH:=
 (AN<|m2 (C0 λi j=>decide (i<j)) (m2 CF (AW (AA 0)<|mC<|.int 0)<|AW (AA 1)<|mC<|.int 1)<|m2 CF (AW (AA 1)<|mC<|.int 0)<|AW (AA 0)<|mC<|.int 1)
def Iu:qF->Option Ru:=AZ 2 2 TN
abbrev VC:=fA 1 2 Qg Iu
abbrev ziz:Gm:=gA Qg 0 [] []
theorem zjc:Ck ziz VC Qg TN:={}
def Mb{a b c d:Int}(e:Bq a d=true)(f:Bq c b=true):Iu [fr a b,fr c d]=↑(.ok<|.bl<|decide (a * d<c * b)):=by
 unfold Iu TN
 simp![e,f]
abbrev RX:Stmt:=AK 9
def JM:AG:=
 (m2 DV (AA 3)<|mC<|.int 0)
def QH:AH:=
 (AF (A3 (m2 BO (AA 2)<|AA 3)<|AD 4)
 (AF (A3 (AA 3)<|AD 2)
 (A3 (AA 4)<|AD 3)))
def Ts:AH:=
 (AF (A3 (m1 Jy<|AA 0)<|AD 2)
 (AF (A3 (m1 Jy<|AA 1)<|AD 3)
 (AF (Em JM QH)
 (AN<|AA 2))))
def PV:qF->Option Ru:=AZ 2 5 Ts
abbrev iP:=fA 1 2 RX PV
abbrev zac:Gm:=gA RX 0 [] ["abs"]
theorem zag:Ck zac iP RX Ts:={}
def gd_ok(a b:Int):PV [.int a,.int b]=↑(.ok<|.int<|Zm.gd a b):=by
 have c:=zka (mc:=JM) (body:=QH)
  (λY=>∃(g l:Int) (r:qB),Y=[↑(.int a),↑(.int b),↑(.int g),↑(.int l),r]/\0<=g/\0<=l/\Zm.gd g l=Zm.gd a b)
  (λY=>match Y with|[ϊ,ϋ,ό,↑(.int l),ύ]=>l.natAbs|ϊ=>0)
  {_,_,none,rfl,by split<;>lia,by split<;>lia,Zm.gd_abs a b} (by
   rintro Y ⟨g,l,r,rfl,o,j,e⟩;by_cases d:l=0;right;exact{false,by unfold JM;simp![HX,d]};left;refine{false,by unfold JM;simp![HX];simp[d],[↑(.int a),↑(.int b),↑(.int l),↑(.int<|g.fmod l),↑(.int<|g.fmod l)],by unfold QH;simp![d],{_,_,_,rfl,j,?_,?_},?_};exact Ğ g<|by lia
   exact Zm.gd_turn e
   exact Zm.fmod_less g d)
 let(p,m,(g,l,r,rfl,o,j,e),k,i):=c
 have h :=by
  have n:JM [↑(.int a),↑(.int b),↑(.int g),↑(.int l),r]=↑(.v (.bl<|!(l == 0)) false):=by unfold JM;simp![HX]
  rw[n]at i;exact(by simpa using i:l=0/\k=false).1
 have f:g=Zm.gd a b:=by
  rw[<- e,h];unfold Zm.gd;rw[Int.gcd_zero_right];lia
 unfold PV Ts
 simp![m]
 rw[f]
abbrev YX:Stmt:=AK 10
def Tw:AH:=
 (AF (A4 (CA (BQ<|AJ MB<|AB (AA 0) AE)<|BQ<|AJ MB<|AB (AA 1) AE) (C4 "NoNumber"<|AB (mC<|.str "a fraction is made of two whole numbers") AE) Ab)
 (AF (A4 (m2 BM (AA 1)<|mC<|.int 0) (C4 "NoNumber"<|AB (mC<|.str "the bottom of a fraction is not 0") AE) Ab)
 (AF (A3 (AJ PV<|AB (AA 0)<|AB (AA 1) AE)<|AD 2)
 (AF (A4 (m2 (C0 λi j=>decide (i<j)) (AA 1)<|mC<|.int 0) (A3 (m1 EV<|AA 2)<|AD 2) Ab)
 (AN<|Bw<|AB (m2 CY (AA 0)<|AA 2)<|AB (m2 CY (AA 1)<|AA 2) AE)))))
def PY:qF->Option Ru:=AZ 2 3 Tw
abbrev iT:Fn:={2,["top","bottom"],PY}
abbrev zej:Gm:=gA YX 1 [("is_whole",VJ),("greatest_divisor",iP)] [] (ex:=["NoNumber"])
theorem zey:Ck zej iT YX Tw:={}
def fr_ok{t b:Int}(a:0<b)(f:b<10 ^ 70):PY [.int t,.int b]=↑(.ok<|fr (Zm.lt t b)<|Zm.lb t b):=by
 have e:0<Zm.gd t b:=Zm.gd_pos<|by lia
 have g1:Zm.gd t b<=b:=Zm.gd_le a;have gs :=EO (by lia)<|by lia (config:={})
 have c:(b == 0)=false:=by lia
 have d:decide (b<0)=false:=by lia
 have n2:(Zm.gd t b≠0)=True:=by lia
 unfold PY Tw
 simp![zfx,gd_ok,DW,c,d,gs,n2]
 rfl
abbrev Qz:Stmt:=AK 11
def Ta:AH:=
 (AN<|AJ PY<|AB (m2 Fc (m2 CF (AW (AA 0)<|mC<|.int 0)<|AW (AA 1)<|mC<|.int 1)<|m2 CF (AW (AA 1)<|mC<|.int 0)<|AW (AA 0)<|mC<|.int 1)<|AB (m2 CF (AW (AA 0)<|mC<|.int 1)<|AW (AA 1)<|mC<|.int 1) AE)
def Lz:qF->Option Ru:=AZ 2 2 Ta
abbrev iC:=fA 3 2 Qz Lz
abbrev zj0:Gm:=gA Qz 2 [("fraction",iT)] []
theorem zjd:Ck zj0 iC Qz Ta:={}
def zin{a b c d:Int}(h:0<b)(hd:0<d)(e:Bq a d=true)(f:Bq c b=true)(g:Bq b d=true)(i:b * d<10 ^ 70):Lz [fr a b,fr c d]=↑(.ok<|fr (Zm.lt (a * d - c * b)<|b * d)<|Zm.lb (a * d - c * b)<|b * d):=by
 unfold Lz Ta
 simp![e,f,g,fr_ok (t:=a * d - c * b) (Int.mul_pos h hd) i]
abbrev RF:Stmt:=AK 20
def Td:AH:=
 (AF (A4 (m2 (BB false) (AA 0)<|mC .non) (AN<|mC<|.bl true) Ab)
 (AF (A3 (Bw<|AB (AJ Iw<|AB (AA 0) AE)<|AB (mC<|.int 1) AE)<|AD 2)
 (AF (A4 (AJ KG<|AB (AA 0) AE) (AN<|AJ Iu<|AB (AA 1)<|AB (AA 2) AE) Ab)
 (AN<|BQ<|AJ Iu<|AB (AA 2)<|AB (AA 1) AE))))
def MA:qF->Option Ru:=AZ 2 3 Td
abbrev iH:=fA 2 2 RF MA
abbrev zm0:Gm:=gA RF 1 [("number_of",OQ),("is_open",VN),("under",VC)] []
theorem zmc:Ck zm0 iH RF Td:={}
def zlp{c:Db.B}{t b:Int}(g:∀x,c=↑x->Bq (x / 2) b=true):MA [bT c,fr t b]=↑(.ok<|.bl<|Db.satB b c t):=by
 unfold MA Td;cases c with
 |none=>simp![Db.satB]|some c=>
  have m1:Bq t 1=true:=J5<|DR (by decide)<|by decide
  have m2:=g c rfl;have j:Bq (c / 2) b=true:=m2;have f:c % 2=0\/c % 2=1:=by lia
  have h:=Mb (a:=t) (b:=b) (c:=c / 2) (d:=1) m1 m2;have i:=Mb (a:=c / 2) (b:=1) (c:=t) (d:=b) m2 m1
  rcases f with e|e
  .simp![GF,Ul,e,h]
   show _=Ru.ok (.bl<|decide (t<=c / 2 * b - 1+c % 2));rw[e,ļ]
   congr 2
   rw[decide_eq_decide];lia
  .simp![GF,Ul,e,show((1:Int) == 0)=false from rfl,i]
   show _=Ru.ok (.bl<|decide (t<=c / 2 * b - 1+c % 2));rw[e,ļ]
   congr 2
   rw[<- decide_not,decide_eq_decide];lia
abbrev RD:Stmt:=AK 50
def QF:AH:=
 (A4 (BQ<|AJ MA<|AB (AA 6)<|AB (AJ Lz<|AB (AW (AA 2)<|AA 3)<|AB (AW (AA 2)<|AA 5) AE) AE) (AN<|mC<|.bl false) Ab)
def MY:AH:=
 (Bc (C6<|AB (AA 4) AE) (Ay 2<|AQ (AD 5)<|AQ (AD 6) BA) QF)
def N7:AH:=
 (AF (A3 (m2 B5 (BE<|Ah (Bw<|AB (mC<|.int 0)<|AB (mC<|.int 1) AE) AE)<|AA 1)<|AD 2)
 (AF (Bc (C6<|AB (AA 0) AE) (Ay 2<|AQ (AD 3)<|AQ (AD 4) BA) MY)
 (AN<|mC<|.bl true)))
def Iz:qF->Option Ru:=AZ 2 7 N7
abbrev iF:=fA 4 2 RD Iz
abbrev zfc:Gm:=gA RD 3 [("lets",iH),("minus",iC)] ["enumerate"]
theorem zfn:Ck zfc iF RD N7:={}
structure Szv(n:Nat)(p:Nat->Int×Int)(f:Db.Z):Prop where
 pos:∀i,i<n->0<(p i).2
 mul:∀i j,i<n->j<n->Bq (p i).1 (p j).2=true/\Bq (p i).2 (p j).2=true/\(p i).2 * (p j).2<10 ^ 70
 num:∀i j c,i<n->j<n->f i j=↑c->∀b,0<b->b<=(p i).2 * (p j).2->Bq (c / 2) b=true
def li_ok{m:Nat}(S:m<=1000){f:Db.Z}{v:Nat->Int×Int}(k:Szv (m+1) (IE v) f){D:Int}{X:Nat->Int}(L:0<D)(C:∀i,i<m+1->X i * (IE v i).2=(IE v i).1 * D) :
  (Db.Lie (m+1) D X f->Iz [zT (m+1) f,vT m v]=↑(.ok<|.bl true))/\(¬ Db.Lie (m+1) D X f->Iz [zT (m+1) f,vT m v]=↑(.ok<|.bl false)):=by
 generalize M:IE v=p at *;have E:(fr 0 1)::mT m (λi=>fr (v i).1 (v i).2)=mT (m+1) λi=>fr (p i).1 (p i).2:=by rw[zjt,M]
 have s:∀i j,i<m+1->j<m+1->∃t b,Lz [fr (p i).1 (p i).2,fr (p j).1 (p j).2]=↑(.ok<|fr t b)/\MA [bT<|f i j,fr t b]=↑(.ok<|.bl<|Db.satB b (f i j) t)/\(Db.sat b (f i j) t ↔ Db.sat D (f i j) (X i - X j)):=by
  intro i j d c;have A:=k.pos i d;have B:=k.pos j c;have u:=Int.mul_pos A B;refine{_,_,zin A B (k.mul i j d c).1 (k.mul j i c d).1 (k.mul i j d c).2.1 (k.mul i j d c).2.2,zlp λx e=>k.num i j x d c e _ (Zm.lb_pos u)<|Zm.lb_le u,?_}
  refine Db.sat_scale (Zm.lb_pos u) L ?_ _;have J:=Zm.lt_mul (t:=(p i).1 * (p j).2 - (p j).1 * (p i).2)<|show(p i).2 * (p j).2≠0 by lia
  have K:=Zm.lb_mul (t:=(p i).1 * (p j).2 - (p j).1 * (p i).2)<|show(p i).2 * (p j).2≠0 by lia
  have R:=Zm.gd_pos (a:=(p i).1 * (p j).2 - (p j).1 * (p i).2)<|show(p i).2 * (p j).2≠0 by lia
  have O:=C i d;have x2:=C j c;change Zm.lt ((p i).1 * (p j).2 - (p j).1 * (p i).2) ((p i).2 * (p j).2)=T1;change Zm.lb ((p i).1 * (p j).2 - (p j).1 * (p i).2) ((p i).2 * (p j).2)=B1;change Zm.gd ((p i).1 * (p j).2 - (p j).1 * (p i).2) ((p i).2 * (p j).2)=G;refine Int.eq_of_mul_eq_mul_right (show G≠0 by lia) ?_
  rw[é<|X i - X j,K,é T1,ā D G,<- é T1,J,Int.sub_mul,Int.sub_mul];have P:X i * ((p i).2 * (p j).2)=(p i).1 * (p j).2 * D:=by rw[<- é,O,é,ā D,<- é]
  have Q:X j * ((p i).2 * (p j).2)=(p j).1 * (p i).2 * D:=by rw[ā (p i).2,<- é,x2,é,ā D,<- é]
  rw[P,Q]
 have l1:1+m<=100000:=by lia
 have o:=Jr (b:=Ay 2<|AQ (AD 3)<|AQ (AD 4) BA) (body:=MY) (n:=m+1) (g:=λi=>.tup [.int (i:Int),rT (m+1)<|f i]) (Y:=[↑(zT (m+1) f),↑(vT m v),↑(vT (m+1) p),none,none,none,none]) (λi=>∀j,j<m+1->Db.sat D (f i j) (X i - X j)) (.bl false)
  (λi Y=>∃x y z w,Y=[↑(zT (m+1) f),↑(vT m v),↑(vT (m+1) p),x,y,z,w]) {(none),none,none,none,rfl} (by
   rintro i Y d - ⟨x,y,z,w,rfl⟩;refine{_,by simp![];rfl,?_}
   have l:=Jr (b:=Ay 2<|AQ (AD 5)<|AQ (AD 6) BA) (body:=QF) (n:=m+1) (g:=λj=>.tup [.int (j:Int),bT<|f i j]) (Y:=[↑(zT (m+1) f),↑(vT m v),↑(vT (m+1) p),↑(.int (i:Int)),↑(rT (m+1)<|f i),z,w]) (λj=>Db.sat D (f i j)<|X i - X j) (.bl false)
    (λj Y=>∃z w,Y=[↑(zT (m+1) f),↑(vT m v),↑(vT (m+1) p),↑(.int (i:Int)),↑(rT (m+1)<|f i),z,w]) {(z),w,rfl} (by
     rintro j Y c - ⟨z,w,rfl⟩;refine{_,by simp![];rfl,?_};let(t,b,F,r,H):=s i j d c;unfold QF;by_cases h:Db.sat D (f i j)<|X i - X j
     left;rw[Db.satB_iff.mpr<|H.mpr h]at r;exact{h,_,.inl (by simp![CH d,CH c,F,r];rfl),_,_,rfl};right
     have N:Db.satB b (f i j) t=false:=by
      cases q:Db.satB b (f i j) t with
      |false=>rfl|true=>exact absurd (H.mp<|Db.satB_iff.mp q) h
     rw[N]at r;exact{h,by simp![CH d,CH c,F,r]})
   rcases l with ⟨h,I,e,z,w,rfl⟩|⟨⟨j,c,h⟩,e⟩;left;refine{h,_,.inl ?_,↑(.int (i:Int)),↑(rT (m+1)<|f i),z,w,rfl};unfold MY
   simp![C6,Hs,e]
   right;refine{λq=>h<|q j c,?_};unfold MY
   simp![C6,Hs,e])
 rcases o with ⟨h,I,e,x,y,z,w,rfl⟩|⟨⟨i,d,h⟩,e⟩;refine{λϊ=>?_,λq=>absurd (λi j d c=>h i d j c) q};unfold Iz N7
 simp![C6,Hs,l1,E,e]
 refine{λq=>absurd (λj c=>q i j d c) h,λϊ=>?_};unfold Iz N7
 simp![C6,Hs,l1,E,e]
abbrev Qh:Stmt:=AK 27
def TQ:AH:=
 (AF (A3 (Bw<|AB (AA 2)<|AB (mC<|.int 1) AE)<|AD 3)
 (AF (A3 (AJ Iu<|AB (AA 0)<|AB (AA 3) AE)<|AD 4)
 (AF (A3 (AJ Iu<|AB (AA 3)<|AB (AA 0) AE)<|AD 5)
 (AF (A4 (m2 BM (AA 1)<|mC<|.str "<") (AN<|AA 4) Ab)
 (AF (A4 (m2 BM (AA 1)<|mC<|.str "<=") (AN<|BQ<|AA 5) Ab)
 (AF (A4 (m2 BM (AA 1)<|mC<|.str ">") (AN<|AA 5) Ab)
 (AF (A4 (m2 BM (AA 1)<|mC<|.str ">=") (AN<|BQ<|AA 4) Ab)
 (AN<|Cc (BQ<|AA 4)<|BQ<|AA 5))))))))
def PB:qF->Option Ru:=AZ 3 6 TQ
abbrev gX:=fA 2 3 Qh PB
abbrev zd7:Gm:=gA Qh 1 [("under",VC)] []
theorem zdl:Ck zd7 gX Qh TQ:={}
abbrev RW:Stmt:=AK 57
def WG:AG:=
 (AJ PB<|AB (AW (AA 3)<|m2 Fc (AA 0)<|mC<|.int 1)<|AB (AA 1)<|AB (AA 2) AE)
def Tr:AH:=
 (AN<|m1 Dw<|Ax 3 [1] (Au<|AA 0) (Ay 3<|AQ (AD 0)<|AQ (AD 1)<|AQ (AD 2) BA) (mC<|.bl true) WG)
def PU:qF->Option Ru:=AZ 2 2 Tr
abbrev iO:=fA 3 2 RW PU
abbrev zj1:Gm:=gA RW 2 [("stands_so",gX)] ["all"]
theorem zje:Ck zj1 iO RW Tr:={}
def zB(l:Nat×Nat×Int):Bool:=match l.2.1 with
 |0=>decide (0<l.2.2)|1=>decide (0<=l.2.2)|2=>decide (l.2.2<0)|3=>decide (l.2.2<=0)|ϊ=>decide (l.2.2=0)
def so0{w:Nat}(m:w<5)(p:Nat)(n:Int):PB [fr 0 1,.str<|Ej w,.int n]=↑(.ok<|.bl<|zB (p,w,n)):=by
 let(h,i,j,k,l):=X4 m;have m1:Bq 0 1=true:=J5<|DR (by decide)<|by decide
 have m2:Bq n 1=true:=J5<|DR (by decide)<|by decide
 have f:=Mb (a:=0) (b:=1) (c:=n) (d:=1) m1 m2;have g:=Mb (a:=n) (b:=1) (c:=0) (d:=1) m2 m1;rw[ļ,ļ]at f g;unfold PB TQ;have:w=0\/w=1\/w=2\/w=3\/w=4:=by lia
 by_cases a:(0:Int)<n;have b:¬ n<0:=by lia
 have c:(0:Int)<=n:=by lia
 have d:¬ n<=0:=by lia
 have e:¬ n=0:=by lia
 rcases this with rfl|rfl|rfl|rfl|rfl<;>simp![h,i,j,k,l,f,g,zB,a,b,c,d,e];by_cases b:n<0;have c:¬ (0:Int)<=n:=by lia
 have d:n<=0:=by lia
 have e:¬ n=0:=by lia
 rcases this with rfl|rfl|rfl|rfl|rfl<;>simp![h,i,j,k,l,f,g,zB,a,b,c,d,e];have e:n=0:=by lia
 subst e;rcases this with rfl|rfl|rfl|rfl|rfl<;>simp![h,i,j,k,l,f,g,zB]<;>rfl
def HA{α:Type}(f:α->Bool):∀L:List α,Fl (L.map λx=>T.bl<|f x)=↑(L.map f)
 |[]=>rfl|x::L=>by
  rw[Ö,Ö];unfold Fl;rw[HA f L]
def HB{α:Type}(f:α->Bool)(L:List α):BP (L.map λx=>T.bl<|f x)=L.map λx=>T.bl<|f x:=by
 rw[EA,ä];rfl
def Lo{α:Type}(f:α->Bool)(L:List α):(L.map f).all id=L.all f:=by rw[ř];rfl
def zr1{α:Type}(f:α->Bool)(L:List α):(L.map f).any id=L.any f:=by rw[List.any_map];rfl
def hd0{m:Nat}{L:List<|Nat×Nat×Int}(o:Eh m L)(u:L.length<=1000){V:qF}(e:V=(List.range m).map λϊ=>fr 0 1):PU [.lst<|L.map Aj,.lst V]=↑(.ok<|.bl<|L.all zB):=by
 have a:AX V=true:=by
  rw[e];exact CU λϊ ϊ=>rfl
 have r:=Ct (b:=Ay 3<|AQ (AD 0)<|AQ (AD 1)<|AQ (AD 2) BA) (me:=WG) Aj (λl=>.bl<|zB l) (λY=>∃x y z,Y=[x,y,z,↑(.lst V)]) L [none,none,none,↑(.lst V)] {(none),none,none,rfl} λl q Y k=>by
  let(x,y,z,rfl):=k;let(p,w,n):=l;let(c,d,j):=o _ q;have c:0<p:=c;have d:p<m+1:=d;have t:=so0 j p n
  have f:Ar V ((p:Int) - 1)=↑(fr 0 1):=by
   rw[e,show(p:Int) - 1=((p - 1:Nat):Int) by lia];exact G2 (by rw[Î,ů<|by lia];rfl)
  refine{[↑(.int (p:Nat)),↑(.str<|Ej w),↑(.int n),↑(.lst V)],by simp![],?_,_,_,_,rfl};unfold WG
  simp![f,t,a]
 have l1:L.length<=100000:=by lia
 have ps:=Dq L;have g:=HA zB L;have h:=Lo zB L;have i:=HB zB L;have s:(L.map Aj).length<=100000:=by rw[À];lia
 change L.map Aj=LL;unfold PU Tr
 simp![ps,AI _ ps,a,AI _ a,s,r,i,g,h]
abbrev Qy:Stmt:=AK 77
def Uo:AG:=
 (m2 BM (AA 0)<|AA 2)
def Vt:AG:=
 (AJ G5<|AB (AA 1) AE)
def Um:AG:=
 (m2 (BB true) (AA 0)<|mC .non)
def Vs:AG:=
 (AA 0)
def T9:AH:=
 (AF (A3 (Ax 2 [1] (Au<|AA 0) (Ay 2<|AQ (AD 0)<|AQ (AD 1) BA) Uo Vt)<|AD 2)
 (AN<|Ax 1 [] (Au<|AA 2) (AD 0) Um Vs))
def PH:qF->Option Ru:=AZ 2 3 T9
abbrev iB:=fA 4 2 Qy PH
abbrev zao:Gm:=gA Qy 3 [("narrowest",VH)] []
theorem zau:Ck zao iB Qy T9:={}
abbrev BC(n:Nat)(p:Str×Db.Z):T:=.tup [.str p.1,zT n p.2]
def BH(n:Nat)(P:List<|Str×Db.Z)(x:Str):List Db.Z:=(P.filter λp=>decide (p.1=x)).filterMap λp=>Bv n p.2
def J0(n:Nat)(P:List<|Str×Db.Z):AX (P.map<|BC n)=true:=CU λp ϊ=>by
 have:=Bl n p.2;change zT n p.2=Z
 simp![this]
def IC(n:Nat)(L:List Db.Z):AX (L.map<|zT n)=true:=CU λf ϊ=>Bl n f
def Sq(n:Nat):∀l:List (Option Db.Z),(l.filter (·.isSome)).map (oT n)=(l.filterMap id).map (zT n)
 |[]=>rfl|none::l=>Sq n l|some f::l=>congrArg (zT n f::·)<|Sq n l
def nz_ok{n:Nat}(v:n<=1000){P:List<|Str×Db.Z}(q:∀p∈P,PyData.strOk p.1=true)(u:P.length<=1000){r:Str}(m:PyData.strOk r=true):PH [.lst<|P.map<|BC n,.str r]=↑(.ok<|.own<|(BH n P r).map (zT n)):=by
 have i:=J0 n P
 have t:=Jd (b:=Ay 2<|AQ (AD 0)<|AQ (AD 1) BA) (mt:=Uo) (me:=Vt) (BC n) (λp=>oT n<|Bv n p.2) (λp=>decide (p.1=r)) (λY=>∃x y,Y=[x,y,↑(.str r)]) P [none,none,↑(.str r)] {_,_,rfl} λp l Y f=>by
  let(a,b,rfl):=f;have k:=Hr (q p l) m;have d:=Bl n p.2;have nr:=cW (n:=n) (by lia) p.2
  have c:=ET n<|Bv n p.2;generalize oT n (Bv n p.2)=σ at *;unfold BC;change zT n p.2=Z;refine{[↑(.str p.1),↑Z,↑(.str r)],false,by simp![d,AO _ d],?_,λϊ=>?_,_,_,rfl}
  unfold Uo
  simp![k]
  unfold Vt
  simp![d,AO _ d,nr,c,AO _ c]
 have EW:=Jd (b:=AD 0) (mt:=Um) (me:=Vs) (oT n) (oT n) (·.isSome) (λY=>∃x,Y=[x]) ((P.filter λp=>decide (p.1=r)).map λp=>Bv n p.2) [none] {_,rfl} λo w Y f=>by
  let(a,rfl):=f;have c:=ET n o;have g:=Gk n o true;rw[show(true != o.isNone)=o.isSome by cases o<;>rfl]at g
  generalize oT n o=σ at *;refine{[↑σ],false,by simp![c,AO _ c],?_,λϊ=>?_,_,rfl};unfold Um
  simp![-BB,c,AO _ c,g]
  unfold Vs
  simp![c,AO _ c]
 have e:((P.filter λp=>decide (p.1=r)).map λp=>Bv n p.2).filterMap id=BH n P r:=by rw[List.filterMap_map];rfl
 rw[Sq,e,ä]at EW;have j:(List.filter (λp=>decide (p.1=r)) P).map (oT n ∘ λp=>Bv n p.2)=(List.filter (λp=>decide (p.1=r)) P).map λp=>oT n<|Bv n p.2:=rfl
 rw[j]at EW;have h:AX ((List.filter (λp=>decide (p.1=r)) P).map λp=>oT n<|Bv n p.2)=true:=CU λp ϊ=>ET n _
 have s:((List.filter (λp=>decide (p.1=r)) P).map λp=>oT n<|Bv n p.2).length<=100000:=by
  rw[À];have:=ŋ (λp=>decide (p.1=r)) P
  lia
 have l1:(P.map<|BC n).length<=100000:=by rw[À];lia
 have sz:=IC n<|BH n P r;change (BH n P r).map (zT n)=ZS;change ((List.filter (λp=>decide (p.1=r)) P).map λp=>oT n<|Bv n p.2)=Q
 change P.map (BC n)=PP;unfold PH T9
 simp![i,AI _ i,l1,t,h,AI _ h,s,EW,sz,AI _ sz]
abbrev YZ:Stmt:=BY 76 0
def WV:AG:=
 (Bw<|AB (mC<|.int 0)<|AB (mC<|.int 1) AE)
def QM:AH:=
 (JV Ae Af 4 0 (AA 3)<|AJ PH<|AB (AA 2)<|AB (AA 3) AE)
def Nh:AH:=
 (AF (CN Ae Af 0 0<|AW (BU Ac Ad E3 (AA 1) AE)<|mC<|.int 0)
 (AF (CN Ae Af 1 0<|Ax 1 [] (Au<|BU Ac Ad JB (AA 1) AE) (AD 0) (mC<|.bl true) WV)
 (AF (CN Ae Af 2 0<|AJ Lw<|AB (AA 1) AE)
 (AF (CN Ae Af 3 0<|AJ MI<|AB (AA 1) AE)
 (AF (CN Ae Af 4 0 Hf)
 (Bc (Au<|BU Ac Ad E3 (AA 1) AE) (AD 3) QM))))))
def Wm:qF->Option Ru:=E7 Ae Af 3 4 Nh
abbrev VT:Fn:={7,["self","machine","paper"],Wm}
abbrev zch:Gx:={ B9 with mt:=[("rooms",Ac,Ad,Hq),("watches",Ac,Ad,OY)],sf:=↑(Ae,Af) }
abbrev zcl:Gm:=gA YZ 6 [("placed_stays",VG),("doors_out",VP),("narrow_zones_of",iB)] [] (ox:=zch)
theorem zcs:Ck zcl VT YZ Nh:={}
def JO{α:Type}(f g:α->T)(h:∀x,(f x).share=g x)(l:List α):BP (l.map f)=l.map g:=by
 rw[EA,ä];exact ÿ λx ϊ=>h x
def DI(M:Mc)(x:Str):T:=.lst<|(An M.ws M.rs x).map Aj
def DQ(M:Mc)(x:Str):T:=.lst<|(B0 x 0 M.ds).map (Bx M.ws)
def Cp(M:Mc)(P:List<|Str×Db.Z)(x:Str):T:=.lst<|(BH (M.ws.length+1) P x).map (zT<|M.ws.length+1)
def FE(M:Mc)(P:List<|Str×Db.Z):qF:=[.str<|M.nm.headD "",.lst<|M.ws.map λϊ=>fr 0 1,.obj (.sdc M.nm)<|M.nm.map<|DI M,.obj (.sdc M.nm)<|M.nm.map<|DQ M,.obj (.sdc M.nm)<|M.nm.map<|Cp M P]
def Gh(M:Mc)(P:List<|Str×Db.Z):T:=.obj (.ins Ae Af)<|FE M P
def JR(M:Mc)(x:Str):(DI M x).sh=true:=by
 have:=Dq<|An M.ws M.rs x;unfold DI;change (An M.ws M.rs x).map Aj=L
 simp![this]
def Mq(M:Mc)(x:Str):(DQ M x).sh=true:=by
 have:AX ((B0 x 0 M.ds).map (Bx M.ws))=true:=CU λp ϊ=>JF _ p;unfold DQ;change (B0 x 0 M.ds).map (Bx M.ws)=L
 simp![this]
def JQ(M:Mc)(P:List<|Str×Db.Z)(x:Str):(Cp M P x).sh=true:=by
 have:=IC (M.ws.length+1)<|BH (M.ws.length+1) P x;unfold Cp;change (BH (M.ws.length+1) P x).map (zT<|M.ws.length+1)=L
 simp![this]
def zn3{M:Mc}(h:McOk M){P:List<|Str×Db.Z}(G:∀p∈P,PyData.strOk p.1=true)(F:P.length<=1000):Wm [A9 M,.lst<|P.map<|BC<|M.ws.length+1]=↑(.ok<|Gh M P):=by
 have c:=GN h;have nd:M.nm.Nodup:=h.r.nd;have l1:=h.r.l1;have l64:=h.r.l64;have I:M.nm.length=M.rs.length:=À _;have wl:=h.wl;have k:E3 [A9 M]=↑(.ok<|.own<|M.nm.map T.str):=IZ h;have J:JB [A9 M]=↑(.ok<|.own<|M.ws.map T.str):=TF h;have ps:=ZA h;have o:=jZ h;have m:=J0 (M.ws.length+1) P
 let(a,D,E):∃a,Ar (M.nm.map T.str) 0=↑(.str a)/\M.nm.headD ""=a:=by
  cases e:M.nm with
  |nil=>rw[e,ģ]at I;lia|cons a r=>exact{a,G2 rfl,rfl}
 have H:=Ct (b:=AD 0) (me:=WV) T.str (λϊ=>fr 0 1) (λY=>∃x,Y=[x]) M.ws [none] {(none),rfl} λx ϊ Y C=>by
  let(y,rfl):=C;exact{[↑(.str x)],by simp![],by unfold WV;simp![],_,rfl}
 have O:M.ws.length<=100000:=by lia
 have N:M.nm.length<=100000:=by lia
 have q:BP (M.ws.map λϊ=>fr 0 1)=M.ws.map λϊ=>fr 0 1:=JO _ _ (λϊ=>rfl) _;have s:BP (M.nm.map λx=>T.own<|(An M.ws M.rs x).map Aj)=M.nm.map (DI M):=JO _ _ (λx=>by rw[T.share,AI _<|Dq _];rfl) _;have u:BP (Bo M M.ds.length)=M.nm.map (DQ M):=JO _ _ (λx=>by rw[ē,T.share,AI _<|CU λp ϊ=>JF _ p];rfl) _;have v:BP (M.nm.map<|Cp M P)=M.nm.map (Cp M P):=JO _ _ (λx=>AO _<|JQ M P x) _;refine Mx λp=>?_
 have d:∃y,Nh [↑(.oob p Ae Af []),↑(A9 M),↑(.lst<|P.map<|BC<|M.ws.length+1),none]=↑(.nx [↑(.oob p Ae Af [.str a,.own<|M.ws.map λϊ=>fr 0 1,.osd M.nm<|M.nm.map λx=>.own<|(An M.ws M.rs x).map Aj,.osd M.nm<|Bo M M.ds.length,.osd M.nm<|M.nm.map<|Cp M P]),↑(A9 M),↑(.lst<|P.map<|BC<|M.ws.length+1),y]):=by
  unfold Nh;generalize R:(M.ws.map λϊ=>fr 0 1)=W at *;change (M.nm.map λx=>T.own<|(An M.ws M.rs x).map Aj)=SS;generalize Bo M M.ds.length=τ at *
  let(Y,e,y,rfl):=Ey (b:=AD 3) (body:=QM) (ts:=M.nm.map T.str) (Y:=[↑(.oob p Ae Af [.str a,.own W,.osd M.nm SS,.osd M.nm τ,.osd [] []]),↑(A9 M),↑(.lst<|P.map<|BC<|M.ws.length+1),none]) (λi Y=>∃y,Y=[↑(.oob p Ae Af [.str a,.own W,.osd M.nm SS,.osd M.nm τ,.osd (M.nm.take i)<|(M.nm.take i).map (Cp M P)]),↑(A9 M),↑(.lst<|P.map<|BC<|M.ws.length+1),y]) {(none),rfl} λi t Y f B=>by
   let(y,rfl):=B;have g:i<M.nm.length:=by simpa using (É.mp f).1
   rw[Î,Á g]at f;have w:=(Ù f).symm;subst w
   have K:M.nm[i]∉M.nm.take i:=λz=>by
    let(j,Q,e):=Ţ.mp z;have:=(ö nd).mp e
    lia
   have lk:(M.nm.take i).length<100000:=by rw[û];lia
   have L:=nz_ok (n:=M.ws.length+1) (by lia) G F<|h.tn _<|ç g
   refine{[↑(.oob p Ae Af [.str a,.own W,.osd M.nm SS,.osd M.nm τ,.osd (M.nm.take i)<|(M.nm.take i).map (Cp M P)]),↑(A9 M),↑(.lst<|P.map<|BC<|M.ws.length+1),↑(.str M.nm[i])],by simp![],[↑(.oob p Ae Af [.str a,.own W,.osd M.nm SS,.osd M.nm τ,.osd (M.nm.take i++[M.nm[i]])<|(M.nm.take i).map (Cp M P)++[Cp M P M.nm[i]]]),↑(A9 M),↑(.lst<|P.map<|BC<|M.ws.length+1),↑(.str M.nm[i])],?_,↑(.str M.nm[i]),?_};unfold QM;have sz:=IC (M.ws.length+1)<|BH (M.ws.length+1) P M.nm[i];have A:Cp M P M.nm[i]=.lst ((BH (M.ws.length+1) P M.nm[i]).map (zT<|M.ws.length+1)):=rfl;rw[A];change (BH (M.ws.length+1) P M.nm[i]).map (zT<|M.ws.length+1)=ZS;change (M.nm.take i).map (Cp M P)=V;change M.nm[i]=x;change M.nm.take i=l;change P.map (BC<|M.ws.length+1)=PP
   simp![m,AI _ m,L,K,lk,ž,sz,AI _ sz]
   rw[Į g,ß];rfl
  rw[À,ē]at e;refine{y,?_};change P.map (BC<|M.ws.length+1)=PP;refine sq (by simp![-Ao,FX,c,AO _ c,k,D,BX,Av];rfl) ?_;refine sq (by simp![-Ao,FX,c,AO _ c,J,BX,Av,À,O,H];rfl) ?_;refine sq (by simp![c,AO _ c,ps];rfl) ?_;refine sq (by simp![c,AO _ c,o];rfl) ?_;refine sq (by simp![];rfl) ?_
  simp![-Ao,FX,c,AO _ c,k,BX,Av,À,N,e]
 let(y,d):=d;unfold Fw;unfold Gh FE;rw[E];change (M.ws.map λϊ=>fr 0 1)=W;change (M.nm.map λx=>T.own<|(An M.ws M.rs x).map Aj)=SS;generalize Bo M M.ds.length=τ at *;change M.nm.map (Cp M P)=ZZ
 simp![d,q,s,u,v]
abbrev SE:Stmt:=BY 76 1
def WW:AG:=
 (AJ Iz<|AB (AA 0)<|AB (AU Ae Af 1<|AA 1) AE)
def UQ:AH:=
 (AF (A4 (BQ<|AJ PU<|AB (Cs (Aw (AU Ac Ad 1<|AA 0)<|Aw (AU Ae Af 2<|AA 0)<|AU A8 Aa 3<|AA 0)<|Aw (AU Ae Af 0<|AA 0)<|AU A8 Aa 2<|AA 0)<|AB (AU Ae Af 1<|AA 0) AE) (AN<|mC<|.bl true) Ab)
 (AN<|m1 Hx<|Ax 1 [0] (Au<|Cs (AU Ae Af 4<|AA 0)<|Aw (AU Ae Af 0<|AA 0)<|AU A8 Aa 2<|AA 0) (AD 0) (mC<|.bl true) WW))
def Pd:qF->Option Ru:=AZ 1 1 UQ
abbrev jC:=fA 5 1 SE Pd
abbrev za6:Gx:={ B9 with cl:=[("Machine",Ac,Ad),("Sheet",Ae,Af),("Walk",A8,Aa)] }
abbrev za7:Gm:=gA SE 4 [("holds",iO),("lies_in",iF)] ["any"] (ox:=za6)
theorem za8:Ck za7 jC SE UQ:={}
def zk2(M:Mc)(P:List<|Str×Db.Z):Ao Ae Af (Gh M P)=↑(FE M P):=(show Ao Ae Af (Gh M P)=(if Ae=Ae/\Af=Af then ↑(FE M P) else none) from rfl).trans (if_pos {(rfl),rfl})
def zn4(M:Mc)(P:List<|Str×Db.Z):Ao Ac Ad (Gh M P)=none:=(show Ao Ac Ad (Gh M P)=(if Ae=Ac/\Af=Ad then ↑(FE M P) else none) from rfl).trans (if_neg λz=>by
 have:=z.1;revert this
 decide)
structure ShK(M:Mc)(P:List<|Str×Db.Z)(S:T):Prop where
 i:Ao Ae Af S=↑(FE M P)
 n:Ao Ac Ad S=none
 s:S.sh=true
 v:AX (M.ws.map λϊ=>fr 0 1)=true
 t:AX (M.nm.map<|DI M)=true
 w:AX (M.nm.map<|DQ M)=true
 z:AX (M.nm.map<|Cp M P)=true
def shK(M:Mc)(P:List<|Str×Db.Z):ShK M P<|Gh M P:=by
 have a:AX (M.ws.map λϊ=>fr 0 1)=true:=CU λϊ ϊ=>rfl;have b:AX (M.nm.map<|DI M)=true:=CU λx ϊ=>JR M x;have c:AX (M.nm.map<|DQ M)=true:=CU λx ϊ=>Mq M x;have d:AX (M.nm.map<|Cp M P)=true:=CU λx ϊ=>JQ M P x;refine{zk2 M P,zn4 M P,?_,a,b,c,d};unfold Gh FE;change (M.ws.map λϊ=>fr 0 1)=A;change M.nm.map (DI M)=B;change M.nm.map (DQ M)=C;change M.nm.map (Cp M P)=D
 simp![a,b,c,d]
def GZ{m mk:AG}{Y:AM}{a:ky}{f:Str->T}{r:Str}{b b2:Bool}(g:m Y=↑(.v (.obj (.sdc a)<|a.map f) b))(h:mk Y=↑(.v (.str r) b2))(l:r∈a)(i:(f r).sh=true):Cs m mk Y=↑(.v (f r) false):=by
 let(j,d,k,e):=Hm l;have c:(a.map f)[j]?=↑(f r):=by rw[Î,Á k,e];rfl
 unfold Cs;erw[g,h,Kh,d,c,i,Å]
def NY{M:Mc}(h:McOk M):M.nm.headD ""∈M.nm:=by
 have l1:=h.r.l1;have b:M.nm.length=M.rs.length:=À _;cases e:M.nm with
 |nil=>rw[e,ģ]at b;lia|cons a r=>exact .head _
section
variable {M:Mc}{P:List<|Str×Db.Z}{S:T}(k:ShK M P S)
include k
def ShK.f0{Y:AM}{m:AG}{b:Bool}(e:m Y=↑(.v S b)):Aw (AU Ae Af 0 m) (AU A8 Aa 2 m) Y=↑(.v (.str<|M.nm.headD "") false):=by simp![-Ao,e,k.i,FE]
def ShK.f1{Y:AM}{m:AG}{b:Bool}(e:m Y=↑(.v S b)):AU Ae Af 1 m Y=↑(.v (.lst<|M.ws.map λϊ=>fr 0 1) false):=by simp![-Ao,e,k.i,FE,k.v]
def ShK.f2{Y:AM}{m:AG}{b:Bool}(e:m Y=↑(.v S b)):Aw (AU Ac Ad 1 m) (Aw (AU Ae Af 2 m)<|AU A8 Aa 3 m) Y=↑(.v (.obj (.sdc M.nm)<|M.nm.map<|DI M) false):=by simp![-Ao,e,k.i,k.n,FE,k.t]
def ShK.f3{Y:AM}{m:AG}{b:Bool}(e:m Y=↑(.v S b)):Aw (AU Ae Af 3 m) (AU A8 Aa 4 m) Y=↑(.v (.obj (.sdc M.nm)<|M.nm.map<|DQ M) false):=by simp![-Ao,e,k.i,FE,k.w]
def ShK.f4{Y:AM}{m:AG}{b:Bool}(e:m Y=↑(.v S b)):AU Ae Af 4 m Y=↑(.v (.obj (.sdc M.nm)<|M.nm.map<|Cp M P) false):=by simp![-Ao,e,k.i,FE,k.z]
end
open Classical in
def Ic(n:Nat)(f:Db.Z):Bool:=decide (∀i j,i<n->j<n->Db.le ↑1 (f i j))
open Classical in
def li0{m:Nat}(o:m<=500)(f:Db.Z):Iz [zT (m+1) f,vT m λϊ=>(0,1)]=↑(.ok<|.bl<|Ic (m+1) f):=by
 have a:∀i,IE (λϊ=>(0,1)) i=(0,1):=λi=>by cases i<;>rfl
 have l:∀b,Bq 0 b=true:=λb=>HZ<|DR (by decide)<|by decide
 have k:∀c,Db.sat 1 c (0 - 0) ↔ Db.le ↑1 c:=λc=>by
  cases c with
  |none=>exact Iff.rfl|some c=>
   show _<=_ ↔ (1:Int)<=c;lia
 have h:=li_ok (m:=m) (by lia) (f:=f) (v:=λϊ=>(0,1)) {λi ϊ=>(by rw[a];decide),λi j ϊ ϊ=>(by
  rw[a,a]
  exact{l _,HZ<|DR (by decide)<|by decide,by decide}),λi j c ϊ ϊ e b n bl=>(by
  rw[a,a]at bl
  have:b=1:=by
   have:b<=1 * 1:=bl;lia
  subst this;exact J5<|DR (by decide)<|by decide)} (D:=1) (X:=λϊ=>0) (by decide) λi ϊ=>by rw[a]
 unfold Ic;by_cases q:∀i j,i<m+1->j<m+1->Db.le ↑1 (f i j);rw[Ì q];exact h.1 λi j d g=>(k _).mpr (q i j d g);rw[Ý q];exact h.2 λz=>q λi j d g=>(k _).mp (z i j d g)
def X8(l:ky):(l.map λϊ=>fr 0 1)=(List.range l.length).map λϊ=>fr 0 1:=by
 rw[List.map_const',List.map_const',ĥ]
def Jm(M:Mc)(P:List<|Str×Db.Z):Bool:=!(An M.ws M.rs<|M.nm.headD "").all zB || (BH (M.ws.length+1) P<|M.nm.headD "").any (Ic<|M.ws.length+1)
def zk0{M:Mc}(h:McOk M)(x:Str):(An M.ws M.rs x).length<=1000:=by
 unfold An;cases e:M.rs.find? λq=>decide (q.1=x) with
 |none=>exact ò _|some r=>rw[À];exact(h.r.lk r<|š e).2
def XS(n:Nat)(P:List<|Str×Db.Z)(x:Str):(BH n P x).length<=P.length:=Õ (List.length_filterMap_le _ _)<|ŋ _ _
def hs_ok{M:Mc}(h:McOk M){P:List<|Str×Db.Z}(r:P.length<=1000){S:T}(k:ShK M P S):Pd [S]=↑(.ok<|.bl<|Jm M P):=by
 have s:=h.wl;have c:=k.s;have a:AA 0 [↑S]=↑(.v S false):=by simp![c]
 have g2:=GZ (k.f2 a) (k.f0 a) (NY h)<|JR M _;have g:=GZ (k.f4 a) (k.f0 a) (NY h)<|JQ M P _;have hd:=hd0 (Gf h<|M.nm.headD "") (zk0 h _)<|X8 M.ws
 have c3:=Ct (b:=AD 0) (me:=WW) (zT<|M.ws.length+1) (λf=>.bl<|Ic (M.ws.length+1) f) (λY=>∃x,Y=[x,↑S]) (BH (M.ws.length+1) P<|M.nm.headD "") [none,↑S] {(none),rfl} λf ϊ Y o=>by
  let(x,rfl):=o;have d:=Bl (M.ws.length+1) f;have i:=li0 (m:=M.ws.length) (by lia) f
  rw[show(vT M.ws.length λϊ=>(0,1))=T.lst (M.ws.map λϊ=>fr 0 1) by rw[X8];rfl]at i;change zT (M.ws.length+1) f=Z;have q:AA 1 [↑Z,↑S]=↑(.v S false):=by simp![c]
  have f1:=k.f1 q;refine{[↑Z,↑S],by simp![d,AO _ d],?_,_,rfl};unfold WW;have sv:=k.v;change (M.ws.map λϊ=>fr 0 1)=V
  simp![d,AO _ d,-AU,f1,sv,AI _ sv,i]
 have f1:=k.f1 a;have sv:=k.v;have j:=HA (Ic<|M.ws.length+1)<|BH (M.ws.length+1) P<|M.nm.headD "";have l:=zr1 (Ic<|M.ws.length+1)<|BH (M.ws.length+1) P<|M.nm.headD "";have n:=HB (Ic<|M.ws.length+1)<|BH (M.ws.length+1) P<|M.nm.headD "";have t:=XS (M.ws.length+1) P<|M.nm.headD "";have p:((BH (M.ws.length+1) P<|M.nm.headD "").map (zT<|M.ws.length+1)).length<=100000:=by rw[À];lia
 have sz:=IC (M.ws.length+1)<|BH (M.ws.length+1) P<|M.nm.headD "";have e:=Dq<|An M.ws M.rs<|M.nm.headD "";unfold Jm;unfold DI at g2;unfold Cp at g;change (M.ws.map λϊ=>fr 0 1)=V
 change (An M.ws M.rs<|M.nm.headD "").map Aj=SL;change (An M.ws M.rs<|M.nm.headD "").all zB=b1;change (BH (M.ws.length+1) P<|M.nm.headD "").map (zT<|M.ws.length+1)=ZS;unfold Pd UQ;cases b1 with
 |false=>simp![-AU,-Aw,g2,e,AI _ e,f1,sv,AI _ sv,hd]|true=>simp![-AU,-Aw,g2,e,AI _ e,f1,sv,AI _ sv,hd,g,sz,AI _ sz,p,c,AO _ c,c3,n,j,l]
abbrev Rz:Stmt:=BY 76 2
def IF:AH:=
 (A4 (AJ Hy<|AB (AA 2)<|AB (AA 3) AE) (AN<|mC<|.bl true) Ab)
def Ni:AH:=
 (AF (A4 (m2 (BB false) (AA 2)<|mC .non) (AN<|mC<|.bl true) Ab)
 (AF (Bc (Au<|Cs (AU Ae Af 4<|AA 0)<|AA 1) (AD 3) IF)
 (AN<|mC<|.bl false)))
def IA:qF->Option Ru:=AZ 3 4 Ni
abbrev VU:=fA 3 3 Rz IA
abbrev za3:Gx:={ B9 with cl:=[("Sheet",Ae,Af)] }
abbrev za4:Gm:=gA Rz 2 [("within",VA)] [] (ox:=za3)
theorem za5:Ck za4 VU Rz Ni:={}
def Ip(n:Nat)(a:List Db.Z)(o:Option Db.Z):Bool:=match o with
 |none=>true|some f=>a.any<|E5 n f
def f7{M:Mc}{P:List<|Str×Db.Z}{S:T}(k:ShK M P S){r:Str}(s:r∈M.nm)(o:Option Db.Z):IA [S,.str r,oT (M.ws.length+1) o]=↑(.ok<|.bl<|Ip (M.ws.length+1) (BH (M.ws.length+1) P r) o):=by
 have x:=k.s;have B:=ET (M.ws.length+1) o;have i:=Gk (M.ws.length+1) o false;cases o with
 |none=>
  show IA [S,.str r,.non]=↑(.ok<|.bl true);unfold IA Ni
  simp![]
 |some f=>
  have c:=Bl (M.ws.length+1) f;show IA [S,.str r,zT (M.ws.length+1) f]=_;have i:BB false (zT (M.ws.length+1) f) .non=↑(.bl false):=i
  have d:∀(L:List Db.Z) (y:qB),(L.any (E5 (M.ws.length+1) f)=true->BK (AD 3) IF (L.map<|zT<|M.ws.length+1) [↑S,↑(.str r),↑(zT (M.ws.length+1) f),y]=↑(.rt<|.bl true))/\(L.any (E5 (M.ws.length+1) f)=false->∃l,BK (AD 3) IF (L.map<|zT<|M.ws.length+1) [↑S,↑(.str r),↑(zT (M.ws.length+1) f),y]=↑(.nx [↑S,↑(.str r),↑(zT (M.ws.length+1) f),l])):=by
   intro L
   induction L with
   |nil=>exact λy=>{λh=>(by cases h),λϊ=>{(y),rfl}}|cons g L v=>
    intro y;have a:=Bl (M.ws.length+1) g;have j:=X0 (n:=M.ws.length+1) f g;let(t,u):=v<|↑(zT (M.ws.length+1) g);rw[Ö,ė];unfold BK;change zT (M.ws.length+1) f=F;change zT (M.ws.length+1) g=G;cases q:E5 (M.ws.length+1) f g with
    |true=>
     rw[q]at j;refine{λϊ=>?_,λh=>by cases h}
     have w:IF [↑S,↑(.str r),↑F,↑G]=↑(.rt<|.bl true):=by
      unfold IF
      simp![c,AO _ c,a,AO _ a,j]
     simp![a,AO _ a,w]
    |false=>
     rw[q]at j
     have w:IF [↑S,↑(.str r),↑F,↑G]=↑(.nx [↑S,↑(.str r),↑F,↑G]):=by
      unfold IF
      simp![c,AO _ c,a,AO _ a,j]
     rw[ķ];refine{λh=>?_,λh=>?_};have:=t h
     simp![a,AO _ a,w,this]
     let(l,e):=u h;exact{l,by simp![a,AO _ a,w,e]}
  let(l1,p):=d (BH (M.ws.length+1) P r) none;have z:AA 0 [↑S,↑(.str r),↑(zT (M.ws.length+1) f),none]=↑(.v S false):=by simp![x]
  have A:AA 1 [↑S,↑(.str r),↑(zT (M.ws.length+1) f),none]=↑(.v (.str r) false):=by simp![]
  have m:=GZ (k.f4 z) A s<|JQ M P r;have sz:=IC (M.ws.length+1)<|BH (M.ws.length+1) P r;unfold Cp at m;show _=↑(Ru.ok<|.bl<|(BH (M.ws.length+1) P r).any (E5 (M.ws.length+1) f));change zT (M.ws.length+1) f=F;change (BH (M.ws.length+1) P r).any (E5 (M.ws.length+1) f)=b;change (BH (M.ws.length+1) P r).map (zT<|M.ws.length+1)=ZS;unfold IA Ni;cases b with
  |true=>
   have l1:=l1 rfl
   simp![-AU,-BB,c,AO _ c,i,m,sz,AI _ sz,l1]
  |false=>
   let(l,p):=p rfl
   simp![-AU,-BB,c,AO _ c,i,m,sz,AI _ sz,p]
abbrev SD:Stmt:=BY 76 3
def UP:AH:=
 (AN<|BU Ae Af IA (AA 0)<|AB (AA 1)<|AB (AJ DO<|AB (AJ Lu<|AB (AA 2) AE)<|AB (Cs (Aw (AU Ac Ad 1<|AA 0)<|Aw (AU Ae Af 2<|AA 0)<|AU A8 Aa 3<|AA 0)<|AA 1) AE) AE)
def Pc:qF->Option Ru:=AZ 3 3 UP
abbrev jB:=fA 5 3 SD Pc
abbrev zaa:Gx:={ B9 with cl:=[("Machine",Ac,Ad),("Sheet",Ae,Af),("Walk",A8,Aa)],mt:=[("holds_within",Ae,Af,VU)] }
abbrev zae:Gm:=gA SD 4 [("met",Ik),("waited",VB)] [] (ox:=zaa)
theorem zai:Ck zae jB SD UP:={}
def GW(M:Mc)(P:List<|Str×Db.Z)(r:Str)(f:Db.Z):Bool:=Ip (M.ws.length+1) (BH (M.ws.length+1) P r)<|BD (An M.ws M.rs r)<|Dm.wtd f
def zq7{M:Mc}(h:McOk M){P:List<|Str×Db.Z}{S:T}(k:ShK M P S){r:Str}(c:r∈M.nm){f:Db.Z}(l:Db.Nar (M.ws.length+1) f):Pc [S,.str r,zT (M.ws.length+1) f]=↑(.ok<|.bl<|GW M P r f):=by
 have t:=h.wl;have a:=k.s;have d:=Bl (M.ws.length+1) f;have nw:=Dm.wtd_nar l;have s:=X7 (m:=M.ws.length) (by lia) f
 have e:(T.own<|oZ (M.ws.length+1)<|Dm.wtd f).share=zT (M.ws.length+1) (Dm.wtd f):=by rw[T.share,Gj]
 have mt:=H9 (m:=M.ws.length) (by lia) nw<|Gf h r
 have n:=f7 k c<|BD (An M.ws M.rs r)<|Dm.wtd f;have i:=ET (M.ws.length+1)<|BD (An M.ws M.rs r)<|Dm.wtd f;have p:AA 0 [↑S,↑(.str r),↑(zT (M.ws.length+1) f)]=↑(.v S false):=by simp![a]
 have q:AA 1 [↑S,↑(.str r),↑(zT (M.ws.length+1) f)]=↑(.v (.str r) false):=by simp![]
 have g2:=GZ (k.f2 p) q c<|JR M r;have j:=Bl (M.ws.length+1)<|Dm.wtd f;have g:=Dq<|An M.ws M.rs r;have o:=k.i;unfold DI at g2;unfold GW;change Ip (M.ws.length+1) (BH (M.ws.length+1) P r) (BD (An M.ws M.rs r)<|Dm.wtd f)=b;change oT (M.ws.length+1) (BD (An M.ws M.rs r)<|Dm.wtd f)=A;change (An M.ws M.rs r).map Aj=SL;change zT (M.ws.length+1) (Dm.wtd f)=W;generalize T.own (oZ (M.ws.length+1)<|Dm.wtd f)=σ at *;change zT (M.ws.length+1) f=Z;unfold Pc UP
 simp![-AU,-Aw,-Ao,o,a,AO _ a,d,AO _ d,s,e,g2,g,AI _ g,mt,j,AO _ j,i,AO _ i,n]
abbrev SA:Stmt:=BY 76 4
def Nj:AH:=
 (AF (A3 (AW (AA 2)<|mC<|.int 1)<|AD 3)
 (AF (A3 (AJ DO<|AB (AA 1)<|AB (AW (AA 2)<|mC<|.int 2) AE)<|AD 4)
 (AF (A4 (m2 (BB false) (AA 4)<|mC .non) (AN<|mC<|.bl true) Ab)
 (AN<|BU Ae Af IA (AA 0)<|AB (AA 3)<|AB (AJ DO<|AB (AJ Iv<|AB (AA 4)<|AB (AW (AA 2)<|mC<|.int 3) AE)<|AB (Cs (Aw (AU Ac Ad 1<|AA 0)<|Aw (AU Ae Af 2<|AA 0)<|AU A8 Aa 3<|AA 0)<|AA 3) AE) AE))))
def MP:qF->Option Ru:=AZ 3 5 Nj
abbrev jA:=fA 5 3 SA MP
abbrev zam:Gx:={ B9 with cl:=[("Machine",Ac,Ad),("Sheet",Ae,Af),("Walk",A8,Aa)],mt:=[("holds_within",Ae,Af,VU)] }
abbrev zas:Gm:=gA SA 4 [("met",Ik),("put_back",VF)] [] (ox:=zam)
theorem zay:Ck zas jA SA Nj:={}
def W7(ws:ky)(rs:List<|Str×qF)(f:Db.Z)(d:Dr):Option Db.Z:=(BD (gK ws d) f).bind λl=>BD (An ws rs d.e)<|Dm.pbk l<|BW<|BJ ws d.n
def EY(M:Mc)(P:List<|Str×Db.Z)(f:Db.Z)(d:Dr):Bool:=Ip (M.ws.length+1) (BH (M.ws.length+1) P d.e)<|W7 M.ws M.rs f d
theorem Kt{m:Nat}{f:Db.Z}(a:Db.Nar (m+1) f)(ps:qA):Db.Nar (m+1)<|Dm.pbk f<|BW ps:=Dm.pbk_nar a (λi b=>by unfold BW;split<;>lia) (by unfold BW;split<;>rfl)
def zq6{M:Mc}(h:McOk M){P:List<|Str×Db.Z}{S:T}(k:ShK M P S){f:Db.Z}(u:Db.Nar (M.ws.length+1) f){p:Nat×Dr}(C:p.2∈M.ds):MP [S,zT (M.ws.length+1) f,Bx M.ws p]=↑(.ok<|.bl<|EY M P f p.2):=by
 have L:=h.wl;have q:=k.s;have D:=h.d _ C;have v:p.2.e∈M.nm:=D.e;have a:=Bl (M.ws.length+1) f;have t:Eh M.ws.length<|gK M.ws p.2:=IS D.g;have m1:=H9 (m:=M.ws.length) (by lia) u t
 have l:=ET (M.ws.length+1)<|BD (gK M.ws p.2) f;have j:=Gk (M.ws.length+1) (BD (gK M.ws p.2) f) false;have c:=Dq<|gK M.ws p.2;have d:=NZ<|BJ M.ws p.2.n;have r:∀A B G N,Ar [T.int A,T.str B,T.lst G,T.lst N] 1=↑(T.str B):=λϊ ϊ ϊ ϊ=>Iq (by decide) rfl
 have s:∀A B G N,Ar [T.int A,T.str B,T.lst G,T.lst N] 2=↑(T.lst G):=λϊ ϊ ϊ ϊ=>Iq (by decide) rfl;have z:∀A B G N,Ar [T.int A,T.str B,T.lst G,T.lst N] 3=↑(T.lst N):=λϊ ϊ ϊ ϊ=>Iq (by decide) rfl;unfold EY W7;cases i:BD (gK M.ws p.2) f with
 |none=>
  rw[i]at m1 j;have m1:DO [zT (M.ws.length+1) f,.lst<|(gK M.ws p.2).map Aj]=↑(.ok .non):=m1;show _=↑(Ru.ok<|.bl true);unfold Bx;change zT (M.ws.length+1) f=Z;change (gK M.ws p.2).map Aj=G;change Dj (BJ M.ws p.2.n)=N;unfold MP Nj
  simp![r,s,a,AO _ a,c,AI _ c,d,AI _ d,m1]
 |some g=>
  rw[i]at m1 j l;have H:=Ha u t i;have o:=ZQ (n:=M.ws.length+1) (by lia) (by lia) g<|BJ M.ws p.2.n
  have I:=Kt H<|BJ M.ws p.2.n;have e:(T.own<|oZ (M.ws.length+1)<|Dm.pbk g<|BW<|BJ M.ws p.2.n).share=zT (M.ws.length+1) (Dm.pbk g<|BW<|BJ M.ws p.2.n):=by rw[T.share,Gj]
  have mt:=H9 (m:=M.ws.length) (by lia) I<|Gf h p.2.e
  have E:=f7 k v<|BD (An M.ws M.rs p.2.e)<|Dm.pbk g<|BW<|BJ M.ws p.2.n;have x:=ET (M.ws.length+1)<|BD (An M.ws M.rs p.2.e)<|Dm.pbk g<|BW<|BJ M.ws p.2.n;have y:=Bl (M.ws.length+1)<|Dm.pbk g<|BW<|BJ M.ws p.2.n;have w:=Dq<|An M.ws M.rs p.2.e;have o:Iv [oT (M.ws.length+1) ↑g,.lst<|Dj<|BJ M.ws p.2.n]=↑(.ok<|.own<|oZ (M.ws.length+1)<|Dm.pbk g<|BW<|BJ M.ws p.2.n):=o;have F:=k.i;show _=↑(Ru.ok<|.bl<|Ip (M.ws.length+1) (BH (M.ws.length+1) P p.2.e)<|BD (An M.ws M.rs p.2.e)<|Dm.pbk g<|BW<|BJ M.ws p.2.n);change Ip (M.ws.length+1) (BH (M.ws.length+1) P p.2.e) (BD (An M.ws M.rs p.2.e)<|Dm.pbk g<|BW<|BJ M.ws p.2.n)=b;change oT (M.ws.length+1) (BD (An M.ws M.rs p.2.e)<|Dm.pbk g<|BW<|BJ M.ws p.2.n)=A;change zT (M.ws.length+1) (Dm.pbk g<|BW<|BJ M.ws p.2.n)=W;generalize T.own (oZ (M.ws.length+1)<|Dm.pbk g<|BW<|BJ M.ws p.2.n)=σ at *;change oT (M.ws.length+1) ↑g=G1;unfold Bx;change zT (M.ws.length+1) f=Z;change (gK M.ws p.2).map Aj=G;change Dj (BJ M.ws p.2.n)=N;have J:AA 0 [↑S,↑Z,↑(.tup [.int (p.1:Nat),.str p.2.e,.lst G,.lst N]),↑(.str p.2.e),↑G1]=↑(.v S false):=by simp![q]
  have K:AA 3 [↑S,↑Z,↑(.tup [.int (p.1:Nat),.str p.2.e,.lst G,.lst N]),↑(.str p.2.e),↑G1]=↑(.v (.str p.2.e) false):=by simp![]
  have g2:=GZ (k.f2 J) K v<|JR M p.2.e;unfold DI at g2;change (An M.ws M.rs p.2.e).map Aj=SL;unfold MP Nj
  simp![-AU,-Aw,-Ao,-BB,r,s,z,F,q,AO _ q,a,AO _ a,c,AI _ c,d,AI _ d,m1,j,Option.isNone,bne,l,AO _ l,o,e,g2,w,AI _ w,mt,y,AO _ y,x,AO _ x,E]
abbrev SF:Stmt:=BY 76 5
def WX:AG:=
 (BU Ae Af MP (AA 1)<|AB (AA 2)<|AB (AA 0) AE)
def K5:AH:=
 (AF (A4 (BQ<|BU Ae Af Pc (AA 0)<|AB (AA 1)<|AB (AA 2) AE) (AN<|mC<|.bl false) Ab)
 (A4 (BQ<|m1 Dw<|Ax 1 [0,2] (Au<|Cs (Aw (AU Ae Af 3<|AA 0)<|AU A8 Aa 4<|AA 0)<|AA 1) (AD 0) (mC<|.bl true) WX) (AN<|mC<|.bl false) Ab))
def UR:AH:=
 (AF (Bc (Au<|Cs (AU Ae Af 4<|AA 0)<|AA 1) (AD 2) K5)
 (AN<|mC<|.bl true))
def Pe:qF->Option Ru:=AZ 2 3 UR
abbrev jD:=fA 6 2 SF Pe
abbrev zab:Gx:={ B9 with cl:=[("Sheet",Ae,Af),("Walk",A8,Aa)],mt:=[("holds_wait",Ae,Af,jB),("holds_way",Ae,Af,jA)] }
abbrev zaf:Gm:=gA SF 5 [] ["all"] (ox:=zab)
theorem zaj:Ck zaf jD SF UR:={}
def JE{n:Nat}{P:List<|Str×Db.Z}{x:Str}{f:Db.Z}(h:f∈BH n P x):Db.Nar n f:=by
 let(p,_,e):=Ē.mp h;exact Sv e
def GX(M:Mc)(P:List<|Str×Db.Z)(r:Str):Bool:=(BH (M.ws.length+1) P r).all λf=>GW M P r f && (B0 r 0 M.ds).all λp=>EY M P f p.2
def hr_ok{M:Mc}(h:McOk M){P:List<|Str×Db.Z}{S:T}(k:ShK M P S){r:Str}(n:r∈M.nm):Pe [S,.str r]=↑(.ok<|.bl<|GX M P r):=by
 have c:=k.s;have o:=k.i;have dl:=h.dl;have u:AX ((B0 r 0 M.ds).map (Bx M.ws))=true:=CU λp ϊ=>JF _ p
 have wl:((B0 r 0 M.ds).map (Bx M.ws)).length<=100000:=by
  have:=MV r M.ds 0;rw[À];lia
 have U:∀f,Db.Nar (M.ws.length+1) f->K5 [↑S,↑(.str r),↑(zT (M.ws.length+1) f)]=↑(if (GW M P r f && (B0 r 0 M.ds).all λp=>EY M P f p.2)=true then .nx [↑S,↑(.str r),↑(zT (M.ws.length+1) f)] else .rt (.bl false)):=λf i=>by
  have a:=Bl (M.ws.length+1) f;have v:=zq7 h k n i
  have K:=Ct (b:=AD 0) (me:=WX) (Bx M.ws) (λp=>.bl<|EY M P f p.2) (λY=>∃x,Y=[x,↑S,↑(zT (M.ws.length+1) f)]) (B0 r 0 M.ds) [none,↑S,↑(zT (M.ws.length+1) f)] {(none),rfl} λp E Y C=>by
   let(x,rfl):=C;have V:=zq6 h k i (p:=p)<|K1 E;have j:=JF M.ws p;change Bx M.ws p=W;change zT (M.ws.length+1) f=Z;refine{[↑W,↑S,↑Z],by simp![j,AO _ j],?_,_,rfl}
   unfold WX
   simp![-Ao,o,c,AO _ c,a,AO _ a,j,AO _ j,V]
  have z:=HA (λp=>EY M P f p.2)<|B0 r 0 M.ds
  have A:=Lo (λp=>EY M P f p.2)<|B0 r 0 M.ds
  have B:=HB (λp=>EY M P f p.2)<|B0 r 0 M.ds
  change zT (M.ws.length+1) f=Z;have Q:AA 0 [↑S,↑(.str r),↑Z]=↑(.v S false):=by simp![c]
  have R:AA 1 [↑S,↑(.str r),↑Z]=↑(.v (.str r) false):=by simp![]
  have s:=GZ (k.f3 Q) R n<|Mq M r;unfold DQ at s;change (B0 r 0 M.ds).map (Bx M.ws)=WY;change ((B0 r 0 M.ds).map λp=>T.bl<|EY M P f p.2)=BL
  change ((B0 r 0 M.ds).all λp=>EY M P f p.2)=b2;unfold K5;change GW M P r f=b1;cases b1 with
  |false=>simp![-AU,-Ao,o,c,AO _ c,a,AO _ a,v]|true=>cases b2<;>simp![-AU,-Ao,o,c,AO _ c,a,AO _ a,v,s,u,AI _ u,wl,K,B,z,A]
 have d:∀(L:List Db.Z) (y:qB),(∀f∈L,Db.Nar (M.ws.length+1) f)->((L.all λf=>GW M P r f && (B0 r 0 M.ds).all λp=>EY M P f p.2)=true->∃l,BK (AD 2) K5 (L.map<|zT<|M.ws.length+1) [↑S,↑(.str r),y]=↑(.nx [↑S,↑(.str r),l]))/\((L.all λf=>GW M P r f && (B0 r 0 M.ds).all λp=>EY M P f p.2)=false->BK (AD 2) K5 (L.map<|zT<|M.ws.length+1) [↑S,↑(.str r),y]=↑(.rt<|.bl false)):=by
  intro L
  induction L with
  |nil=>exact λy ϊ=>{λϊ=>{(y),rfl},λh=>(by cases h)}|cons f L I=>
   intro y t;have a:=Bl (M.ws.length+1) f;have w:=U f<|t f<|.head _;let(G,H):=I (↑(zT (M.ws.length+1) f)) λg D=>t g<|.tail _ D
   rw[Ö,List.all_cons];unfold BK;change zT (M.ws.length+1) f=F;cases q:(GW M P r f && (B0 r 0 M.ds).all λp=>EY M P f p.2) with
   |false=>
    rw[q]at w;refine{λh=>(by cases h),λϊ=>?_}
    simp![a,AO _ a,w]
   |true=>
    rw[q]at w;rw[Bool.true_and];refine{λh=>?_,λh=>?_};let(l,e):=G h;exact{l,by simp![a,AO _ a,w,e]};have e:=H h
    simp![a,AO _ a,w,e]
 let(l1,J):=d (BH (M.ws.length+1) P r) none λf i=>JE i;have N:AA 0 [↑S,↑(.str r),none]=↑(.v S false):=by simp![c]
 have O:AA 1 [↑S,↑(.str r),none]=↑(.v (.str r) false):=by simp![]
 have m:=GZ (k.f4 N) O n<|JQ M P r;have sz:=IC (M.ws.length+1)<|BH (M.ws.length+1) P r;unfold Cp at m;unfold GX;change ((BH (M.ws.length+1) P r).all λf=>GW M P r f && (B0 r 0 M.ds).all λp=>EY M P f p.2)=b
 change (BH (M.ws.length+1) P r).map (zT<|M.ws.length+1)=ZS;unfold Pe UR;cases b with
 |true=>
  let(l,e):=l1 rfl
  simp![-AU,m,sz,AI _ sz,e]
 |false=>
  have e:=J rfl
  simp![-AU,m,sz,AI _ sz,e]
abbrev Ry:Stmt:=BY 76 6
def WU:AG:=
 (m2 (BB false) (AJ DO<|AB (AA 0)<|AB (AA 1) AE)<|mC .non)
def UO:AH:=
 (AN<|m1 Dw<|Ax 1 [2] (Au<|Cs (AU Ae Af 4<|AA 0)<|AA 1) (AD 0) (mC<|.bl true) WU)
def Pb:qF->Option Ru:=AZ 3 3 UO
abbrev i9:=fA 5 3 Ry Pb
abbrev zal:Gx:={ B9 with cl:=[("Sheet",Ae,Af)] }
abbrev zar:Gm:=gA Ry 4 [("met",Ik)] ["all"] (ox:=zal)
theorem zax:Ck zar i9 Ry UO:={}
def Eu(M:Mc)(P:List<|Str×Db.Z)(r:Str)(L:List<|Nat×Nat×Int):Bool:=(BH (M.ws.length+1) P r).all λf=>(BD L f).isNone
def ko_ok{M:Mc}(h:McOk M){P:List<|Str×Db.Z}(y:P.length<=1000){S:T}(k:ShK M P S){r:Str}(q:r∈M.nm){L:List<|Nat×Nat×Int}(o:Eh M.ws.length L):Pb [S,.str r,.lst<|L.map Aj]=↑(.ok<|.bl<|Eu M P r L):=by
 have z:=h.wl;have u:=k.s;have a:=Dq L
 have s:=Ct (b:=AD 0) (me:=WU) (zT<|M.ws.length+1) (λf=>.bl (BD L f).isNone) (λY=>∃x,Y=[x,↑(.lst<|L.map Aj)]) (BH (M.ws.length+1) P r) [none,↑(.lst<|L.map Aj)] {(none),rfl} λf p Y n=>by
  let(x,rfl):=n;have c:=Bl (M.ws.length+1) f;have mt:=H9 (m:=M.ws.length) (by lia) (JE p) o
  have g:=ET (M.ws.length+1)<|BD L f;have e:=Gk (M.ws.length+1) (BD L f) false;rw[show(false != (BD L f).isNone)=(BD L f).isNone by cases (BD L f).isNone<;>rfl]at e
  change (BD L f).isNone=b;generalize oT (M.ws.length+1) (BD L f)=σ at *;change zT (M.ws.length+1) f=Z;change L.map Aj=LL;refine{[↑Z,↑(.lst LL)],by simp![c,AO _ c],?_,_,rfl};unfold WU
  simp![-BB,c,AO _ c,a,AI _ a,mt,g,AO _ g,e]
 have i:=HA (λf=>(BD L f).isNone)<|BH (M.ws.length+1) P r
 have j:=Lo (λf=>(BD L f).isNone)<|BH (M.ws.length+1) P r
 have l:=HB (λf=>(BD L f).isNone)<|BH (M.ws.length+1) P r
 have A:=XS (M.ws.length+1) P r;have t:((BH (M.ws.length+1) P r).map (zT<|M.ws.length+1)).length<=100000:=by rw[À];lia
 have sz:=IC (M.ws.length+1)<|BH (M.ws.length+1) P r;unfold Eu;change L.map Aj=LL;have v:AA 0 [↑S,↑(.str r),↑(.lst LL)]=↑(.v S false):=by simp![u]
 have w:AA 1 [↑S,↑(.str r),↑(.lst LL)]=↑(.v (.str r) false):=by simp![]
 have d:=GZ (k.f4 v) w q<|JQ M P r;unfold Cp at d;change (BH (M.ws.length+1) P r).map (zT<|M.ws.length+1)=ZS;unfold Pb UO
 simp![-AU,d,a,AI _ a,sz,AI _ sz,t,s,l,i,j]
abbrev RE:Stmt:=AK 78
def Vw:AG:=
 (m2 EJ (AA 0)<|AA 2)
def Vv:AG:=
 (BU Ae Af Pb (AA 2)<|AB (AA 0)<|AB (AA 1) AE)
def Vu:AG:=
 (BU Ae Af Pe (AA 1)<|AB (AA 0) AE)
def N8:AH:=
 (AF (A3 (AJ G3<|AB (AA 0)<|AB (AA 1) AE)<|AD 3)
 (AF (A3 (BU Ac Ad E3 (AA 0) AE)<|AD 4)
 (AF (A4 (BQ<|m1 Dw<|Ax 2 [4] (Au<|AA 2) (Ay 2<|AQ (AD 0)<|AQ (AD 1) BA) (mC<|.bl true) Vw) (C4 "NoRoom"<|AB (mC<|.str "a paper tells of the machine's rooms") AE) Ab)
 (AF (A3 (Hc Wm []<|AB (AA 0)<|AB (AA 2) AE)<|AD 5)
 (AF (A4 (CA (BQ<|BU Ae Af Pd (AA 5) AE)<|BQ<|m1 Dw<|Ax 2 [5] (Au<|AA 3) (Ay 2<|AQ (AD 0)<|AQ (AD 1) BA) (mC<|.bl true) Vv) (AN<|mC<|.bl false) Ab)
 (AN<|m1 Dw<|Ax 1 [5] (Au<|AA 4) (AD 0) (mC<|.bl true) Vu))))))
def KC:qF->Option Ru:=AZ 3 6 N8
abbrev iG:=fA 9 3 RE KC
abbrev zfb:Gx:={ B9 with mt:=[("rooms",Ac,Ad,Hq),("holds_start",Ae,Af,jC),("keeps_off",Ae,Af,i9),("holds_room",Ae,Af,jD)],nw:=[("Sheet",VT,[(2,[])])] }
abbrev zfd:Gm:=gA RE 8 [("placed_goal",OP)] ["all"] (ex:=["NoRoom"]) (ox:=zfb)
theorem zfo:Ck zfd iG RE N8:={}
abbrev CV(g:Str×List (Nat×Nat×Int)):T:=.tup [.str g.1,.lst<|g.2.map Aj]
def Hj(M:Mc)(P:List<|Str×Db.Z)(gs:List<|Str×List (Nat×Nat×Int)):Bool:=(Jm M P && gs.all λg=>Eu M P g.1 g.2) && M.nm.all (GX M P)
def N3(gs:List<|Str×List (Nat×Nat×Int)):AX (gs.map CV)=true:=CU λg ϊ=>by
 have:=Dq g.2;unfold CV;change g.2.map Aj=L
 simp![this]
def zpn{M:Mc}(h:McOk M){P:List<|Str×Db.Z}(u:P.length<=1000)(n:∀p∈P,p.1∈M.nm){G:T}{gs:List<|Str×List (Nat×Nat×Int)}(D:G.sh=true)(d:G3 [A9 M,G]=↑(.ok<|.own<|gs.map CV))(z:∀g∈gs,g.1∈M.nm/\Eh M.ws.length g.2)(V:gs.length<=1000):KC [A9 M,G,.lst<|P.map<|BC<|M.ws.length+1]=↑(.ok<|.bl<|Hj M P gs):=by
 have i:=GN h;have l64:=h.r.l64;have W:M.nm.length=M.rs.length:=À _;have A:∀p∈P,PyData.strOk p.1=true:=λp d=>h.tn _<|n p d
 have N:=Ct (b:=Ay 2<|AQ (AD 0)<|AQ (AD 1) BA) (me:=Vw) (BC<|M.ws.length+1) (λϊ=>.bl true) (λY=>∃x y,Y=[x,y,↑(.lst<|M.nm.map T.str)]) P [none,none,↑(.lst<|M.nm.map T.str)] {_,_,rfl} λp d Y j=>by
  let(a,b,rfl):=j;have e:=Jk (o:=false) (k:=.lst) (ys:=M.nm) h.tn<|A p d;rw[Ì<|n p d]at e;have E:=Bl (M.ws.length+1) p.2;unfold BC;change zT (M.ws.length+1) p.2=Z;refine{[↑(.str p.1),↑Z,↑(.lst<|M.nm.map T.str)],by simp![E,AO _ E],?_,_,_,rfl}
  unfold Vw
  simp![BX,Av,e]
 have R:E3 [A9 M]=↑(.ok<|.own<|M.nm.map T.str):=IZ h;have I:=HA (λϊ=>true) P
 have J:(P.map λϊ=>true).all id=true:=by
  rw[ř,Ò];exact λϊ ϊ=>rfl
 have s:=J0 (M.ws.length+1) P;have sb:=HB (λϊ=>true) P
 have l1:M.nm.length<=100000:=by lia
 have st:=zn3 h A u;have k:=shK M P;have c:=k.s;change Gh M P=S;have t:=hs_ok h u k;have m:=k.i;have f:=N3 gs
 have lk:=Ct (b:=Ay 2<|AQ (AD 0)<|AQ (AD 1) BA) (me:=Vv) CV (λg=>.bl<|Eu M P g.1 g.2) (λY=>∃x y,Y=[x,y,↑S]) gs [none,none,↑S] {_,_,rfl} λg l Y j=>by
  let(a,b,rfl):=j;have q:=Dq g.2;have K:=ko_ok h u k (z g l).1 (z g l).2;unfold CV;change g.2.map Aj=LL;refine{[↑(.str g.1),↑(.lst LL),↑S],by simp![q,AI _ q],?_,_,_,rfl}
  unfold Vv
  simp![-Ao,m,c,AO _ c,q,AI _ q,K]
 have Q:=Ct (b:=AD 0) (me:=Vu) T.str (λr=>.bl<|GX M P r) (λY=>∃x,Y=[x,↑S]) M.nm [none,↑S] {_,rfl} λr n Y j=>by
  let(a,rfl):=j;have L:=hr_ok h k n;refine{[↑(.str r),↑S],by simp![],?_,_,rfl}
  unfold Vu
  simp![-Ao,m,c,AO _ c,L]
 have w:=HA (λg:Str×List (Nat×Nat×Int)=>Eu M P g.1 g.2) gs;have H:=HA (GX M P) M.nm;have C:=HB (λg:Str×List (Nat×Nat×Int)=>Eu M P g.1 g.2) gs
 have U:=HB (GX M P) M.nm;have v:=Lo (λg:Str×List (Nat×Nat×Int)=>Eu M P g.1 g.2) gs
 have F:=Lo (GX M P) M.nm;have O:(P.map<|BC<|M.ws.length+1).length<=100000:=by rw[À];lia
 have B:(gs.map CV).length<=100000:=by rw[À];lia
 have e:N8 [↑(A9 M),↑G,↑(.lst<|P.map<|BC<|M.ws.length+1),none,none,none]=↑(.rt<|.bl<|Hj M P gs):=by
  unfold N8;unfold Hj;change P.map (BC<|M.ws.length+1)=PP;change gs.map CV=GG;change (gs.all λg=>Eu M P g.1 g.2)=b1;change M.nm.all (GX M P)=b2;change Jm M P=b0;refine sq (by simp![i,AO _ i,D,AO _ D,d,f,AI _ f];rfl) ?_;refine sq (by simp![-Ao,FX,i,AO _ i,R,BX,Av];rfl) ?_;refine Fd (by simp![s,AI _ s,BX,Av,O,N,sb,I,J]) ?_;refine sq (by simp![i,AO _ i,s,AI _ s,st,c,AO _ c];rfl) ?_;cases b0 with
  |false=>exact sr (by simp![-Ao,m,c,AO _ c,t])|true=>
   cases b1 with
   |false=>exact sr (by simp![-Ao,m,c,AO _ c,t,f,AI _ f,B,lk,C,w,v])|true=>
    refine Fd (by simp![-Ao,m,c,AO _ c,t,f,AI _ f,B,lk,C,w,v]) ?_
    simp![c,AO _ c,BX,Av,À,l1,Q,U,H,F]
 unfold KC
 simp![e]
abbrev Qt:Stmt:=AK 48
def Vo:AG:=
 (AJ Fo<|AB (mC<|.int 0) AE)
def Vn:AG:=
 (Ax 1 [] (Cw<|AB (m2 B5 (AA 1)<|mC<|.int 1) AE) (AD 0) (mC<|.bl true) Vo)
def T6:AH:=
 (AN<|Ax 1 [0] (Cw<|AB (m2 B5 (AA 0)<|mC<|.int 1) AE) (AD 0) (mC<|.bl true) Vn)
def Ly:qF->Option Ru:=AZ 1 1 T6
abbrev hU:=fA 2 1 Qt Ly
abbrev zgs:Gm:=gA Qt 1 [("at_most",Il)] ["range"]
theorem zh8:Ck zgs hU Qt T6:={}
def zpb{m:Nat}(k:m<=1000):Ly [.int m]=↑(.ok<|.own<|mT (m+1) λϊ=>.own<|mT (m+1) λϊ=>.int 1):=by
 have b:m+1<=100000:=by lia
 have c:Cg ((m:Int)+1)=true:=Ea (n:=m+1)<|by lia
 have o2:((m:Int)+1).toNat=m+1:=by lia
 have d:=Cj (n:=m+1) (me:=Vo) (x:=none) (cs:=[]) (g:=λj=>.int (j:Int)) (f:=λϊ=>.int 1) λj h=>by
  unfold Vo
  simp![Jx]
 have a:=Cj (n:=m+1) (me:=Vn) (x:=none) (cs:=[↑(.int (m:Int))]) (g:=λj=>.int (j:Int)) (f:=λϊ=>.own<|mT (m+1) λϊ=>.int 1) λi e=>by
  unfold Vn
  simp![c,o2,E8,d,b]
 unfold Ly T6
 simp![c,o2,E8,a,b]
abbrev R7:Stmt:=AK 65
def Tz:AH:=
 (AF (A3 (AW (AW (AA 0)<|AA 2)<|AA 3)<|AD 4)
 (AF (A4 (CA (m2 (BB false) (AA 4)<|mC .non)<|m2 BM (AA 2)<|AA 3) (AN<|AA 4) Ab)
 (AF (A3 (AJ Iw<|AB (AA 4) AE)<|AD 5)
 (AF (A4 (Cc (m2 (BB true) (AW (AA 1)<|AA 2)<|mC .non)<|m2 (C0 λi j=>decide (j<i)) (AA 5)<|AW (AA 1)<|AA 2) (AN<|mC .non) Ab)
 (AF (A4 (Cc (m2 (BB true) (AW (AA 1)<|AA 3)<|mC .non)<|m2 (C0 λi j=>decide (i<j)) (AA 5)<|m1 EV<|AW (AA 1)<|AA 3) (AN<|AJ JA<|AB (m1 EV<|AW (AA 1)<|AA 3) AE) Ab)
 (AN<|AA 4))))))
def PZ:qF->Option Ru:=AZ 4 6 Tz
abbrev iU:=fA 2 4 R7 PZ
abbrev zbp:Gm:=gA R7 1 [("number_of",OQ),("below",OV)] []
theorem zbw:Ck zbp iU R7 Tz:={}
def zqm{n:Nat}{f:Db.Z}{M:Nat->Db.B}{i j:Nat}(t:i<n)(hj:j<n):PZ [zT n f,rT n M,.int i,.int j]=↑(.ok<|bT<|Db.fld f M i j):=by
 have l:=CH (n:=n) (g:=λj=>bT<|M j) t;have d:=CH (n:=n) (g:=λj=>bT<|M j) hj;have m:=CH (n:=n) (g:=λj=>bT<|f i j) hj;have k:=CH (n:=n) (g:=λi=>rT n<|f i) t;unfold PZ Tz Db.fld;by_cases e:i=j;subst e;rw[if_pos rfl];cases q:f i i with
 |none=>
  rw[q]at m
  simp![k,m]
 |some c=>
  rw[q]at m
  simp![k,m,DW]
 rw[if_neg e];have p:((i:Int) == (j:Int))=false:=by simp;lia
 cases q:f i j with
 |none=>
  rw[q]at m
  simp![k,m,Db.fldB]
 |some c=>
  rw[q]at m;unfold Db.fldB;cases r:M i with
  |none=>
   rw[r]at l;cases o:M j with
   |none=>
    rw[o]at d
    simp![k,m,DW,p,GF,l,d]
   |some b=>
    rw[o]at d;by_cases h:c / 2 < -b
    .simp![k,m,DW,p,GF,l,d,h,Ot]
    .simp![k,m,DW,p,GF,l,d,h]
  |some a=>
   rw[r]at l;by_cases s:a<c / 2
   .simp![k,m,DW,p,GF,l,s]
   cases o:M j with
   |none=>
    rw[o]at d
    simp![k,m,DW,p,GF,l,d,s]
   |some b=>
    rw[o]at d;by_cases h:c / 2 < -b
    .simp![k,m,DW,p,GF,l,d,h,s,Ot]
    .simp![k,m,DW,p,GF,l,d,h,s]
abbrev R8:Stmt:=AK 64
def WH:AG:=
 (AJ PZ<|AB (AA 3)<|AB (AA 2)<|AB (AA 1)<|AB (AA 0) AE)
def Ol:AG:=
 (Ax 1 [0,1,2] (Cw<|AB (m1 Bd<|AA 2) AE) (AD 0) (mC<|.bl true) WH)
def UA:AH:=
 (AF (A3 (m2 B5 (BE<|Ah (mC<|.int 0) AE)<|AA 1)<|AD 2)
 (AF (A3 (Ax 1 [2,0] (Cw<|AB (m1 Bd<|AA 0) AE) (AD 0) (mC<|.bl true) Ol)<|AD 3)
 (AN<|AJ G5<|AB (AA 3) AE)))
def MH:qF->Option Ru:=AZ 2 4 UA
abbrev iW:=fA 4 2 R8 MH
abbrev zgu:Gm:=gA R8 3 [("folded_bound",iU),("narrowest",VH)] ["range","len"]
theorem zha:Ck zgu iW R8 UA:={}
def zjr(m:Nat)(M:Nat->Db.B):(T.int 0)::mT m (λi=>bT<|M i)=mT (m+1) λi=>bT<|Db.zm M i:=by
 rw[kD];refine EF λi ϊ=>?_;cases i<;>rfl
def fo_ok{m:Nat}(q:m<=1000)(f:Db.Z)(M:Nat->Db.B):MH [zT (m+1) f,rT m M]=G5 [zT (m+1)<|Db.fld f<|Db.zm M]:=by
 have k:=zjr m M;have l1:1+m<=100000:=by lia
 have a:m+1<=100000:=by lia
 have d:Cg ((m+1:Nat):Int)=true:=Ea<|by lia
 have b:∀i,i<m+1->Ol [↑(.int (i:Int)),↑(rT (m+1)<|Db.zm M),↑(zT (m+1) f)]=↑(.v (.own<|mT (m+1) λj=>bT<|Db.fld f (Db.zm M) i j) false):=λi l=>by
  have p:=Cj (n:=m+1) (me:=WH) (x:=none) (cs:=[↑(.int (i:Int)),↑(rT (m+1)<|Db.zm M),↑(zT (m+1) f)]) (g:=λj=>.int (j:Int)) (f:=λj=>bT<|Db.fld f (Db.zm M) i j) λj o=>by
   have e:=zqm (n:=m+1) (f:=f) (M:=Db.zm M) l o;unfold WH
   simp![e]
  unfold Ol
  simp![d,E8,p,a]
 have c:=Cj (n:=m+1) (me:=Ol) (x:=none) (cs:=[↑(rT (m+1)<|Db.zm M),↑(zT (m+1) f)]) (g:=λj=>.int (j:Int)) (f:=λi=>.own<|mT (m+1) λj=>bT<|Db.fld f (Db.zm M) i j) b
 rcases(by
  by_cases h:Db.Sound (m+1)<|Db.fld f<|Db.zm M
  exact⟨_,(Su a _).1 h⟩
  exact⟨_,(Su a _).2 h⟩:∃r,G5 [zT (m+1)<|Db.fld f<|Db.zm M]=↑(.ok r)) with ⟨r,hr⟩
 rw[hr];unfold MH UA
 simp![l1,k,d,E8,c,a,hr]
abbrev R5:Stmt:=AK 63
def M1:AH:=
 (A4 (m2 DV (AA 3)<|AA 1) (Gi 2 (AA 1) (AA 3)<|mC .non) Ab)
def Tu:AH:=
 (AF (Cb 2<|AJ KI<|AB (AA 0) AE)
 (AF (Bc (Cw<|AB (m1 Bd<|AA 2) AE) (AD 3) M1)
 (AN<|AA 2)))
def MG:qF->Option Ru:=AZ 2 4 Tu
abbrev iR:=fA 2 2 R5 MG
abbrev zj2:Gm:=gA R5 1 [("copied",OU)] ["range","len"] ["rows"]
theorem zjf:Ck zj2 iR R5 Tu:={}
def zqf{n:Nat}(B:n<=500)(f:Db.Z){p:Nat}(r:p<n):MG [zT n f,.int (p:Int)]=↑(.ok<|.own<|oZ n<|Dm.frd f p):=by
 have co:=Vb (n:=n) (by lia) f
 have m:=L9 (b:=AD 3) (body:=M1) (n:=n) (g:=λi=>.int (i:Int)) (Y:=[↑(zT n f),↑(.int (p:Int)),↑(.own<|oZ n f),none])
  (λk Y=>∃x,Y=[↑(zT n f),↑(.int (p:Int)),↑(.own (oZ n λi j=>if i=p/\j≠p/\j<k then none else f i j)),x])
  {none,by rw[show oZ n f=oZ n (λi j=>if i=p/\j≠p/\j<0 then none else f i j) from Fg λi j ϊ ϊ=>by rw[if_neg<|by lia]]} (by
   rintro k Y hk ⟨x,rfl⟩;refine{_,by simp![];rfl,?_};have v:Bk n (p:Int)=↑p:=OB r;have u:Bk n (k:Int)=↑k:=OB hk;generalize t:(λi j=>if i=p/\j≠p/\j<k then none else f i j:Db.Z)=g
   have l:∀i j,g i j=if i=p/\j≠p/\j<k then none else f i j:=λi j=>by rw[<- t]
   have g1:(oZ n g)[p]?=↑(.own<|mT n λj=>bT<|g p j):=ED r;have st:=NU (n:=n) (f:=g) (a:=p) (b:=k) (c:=none);rw[Wa]at st;by_cases e:k=p;have q:(!((k:Int) == (p:Int)))=false:=by simp[e]
   refine{_,by unfold M1;simp![HX,q];rfl,↑(.int (k:Int)),?_};rw[Fg λi j ϊ ϊ=>?_];rw[l i j];by_cases d:i=p/\j≠p/\j<k;rw[if_pos d,if_pos<|by lia];rw[if_neg d,if_neg<|by lia];have q:(!((k:Int) == (p:Int)))=true:=by simp;lia
   refine{[↑(zT n f),↑(.int (p:Int)),↑(.own (oZ n λi j=>if i=p/\j=k then none else g i j)),↑(.int (k:Int))],?_,↑(.int (k:Int)),?_};unfold M1
   simp![HX,q,v,u,g1,st]
   rw[Fg λi j ϊ ϊ=>?_];rw[l i j];by_cases o:i=p/\j=k;rw[if_pos o,if_pos<|by lia];rw[if_neg o];by_cases d:i=p/\j≠p/\j<k;rw[if_pos d,if_pos<|by lia]
   rw[if_neg d,if_neg<|by lia])
 let(y,e,x,rfl):=m;have w:Cg (n:Int)=true:=Ea<|by lia
 have s:(oZ n λi j=>if i=p/\j≠p/\j<n then none else f i j)=oZ n (Dm.frd f p):=Fg λi j z A=>by
  unfold Dm.frd;by_cases h:i=p/\j≠p;rw[if_pos h,if_pos<|by lia];rw[if_neg h];rw[if_neg<|by lia]
 rw[s]at e;unfold MG Tu
 simp![co,w,E8,e]
abbrev Rm:Stmt:=AK 70
def WR:AG:=
 (AA 1)
def WQ:AG:=
 (AJ G4<|AB (AA 1)<|AB (BU Ac Ad KO (AA 1)<|AB (AA 0) AE) AE)
def WO:AG:=
 (AJ G4<|AB (AA 1)<|AB (BU B8 Be KS (AA 0) AE) AE)
def UL:AH:=
 (AF (Cb 2<|Ax 2 [] (Au<|AJ G3<|AB (AA 0)<|AB (AA 1) AE) (Ay 2<|AQ (AD 0)<|AQ (AD 1) BA) (mC<|.bl true) WR)
 (AF (JT 2<|Ax 1 [0] (Au<|BU Ac Ad E3 (AA 0) AE) (AD 0) (mC<|.bl true) WQ)
 (AF (JT 2<|Ax 1 [0] (Au<|BU Ac Ad KP (AA 0) AE) (AD 0) (mC<|.bl true) WO)
 (AN<|AA 2))))
def P9:qF->Option Ru:=AZ 2 3 UL
abbrev i4:=fA 8 2 Rm P9
abbrev zd0:Gx:={ B9 with mt:=[("rooms",Ac,Ad,Hq),("stay",Ac,Ad,VV),("doors",Ac,Ad,VX),("asks",B8,Be,V0)] }
abbrev zdd:Gm:=gA Rm 7 [("placed_goal",OP),("placed",La)] [] ["told"] (ox:=zd0)
theorem zdr:Ck zdd i4 Rm UL:={}
def FA(M:Mc)(gl:List<|Str×qF):List<|qF:=gl.map (·.2)++(M.rs.map (·.2)++M.ds.map (·.g))
def Q8:∀y∈FD,y∈CB:=by decide +kernel
def J1(ws:ky)(l:qF):AX (l.map<|Ba ws)=true:=by
 rw[CM,Ò];intro t a;let(u,_,rfl):=Ê.mp a
 rfl
def Qc{α:Type}(ws:ky)(f:α->qF)(o:Bool)(L:List α):BP (L.map λx=>T.nd o .lst<|(f x).map (Ba ws))=(L.map f).map λl=>T.lst<|l.map<|Ba ws:=by
 rw[EA,ä,ä];refine ÿ λx ϊ=>?_;show T.nd false .lst (BP _)=_;rw[AI _<|J1 ws _];rfl
def al_ok{M:Mc}(h:McOk M){gl:List<|Str×qF}(m:Dy M.ws (M.rs.map (·.1)) gl)(u:gl.length<=1000):P9 [CO M,.lst<|gl.map AL]=↑(.ok<|.own<|(FA M gl).map λl=>.lst<|l.map<|Ba M.ws):=by
 have gs:=m.sh;have pg:=Sl h m u;have E:=IZ h;have md:=dZ h;have v:=h.r.l64;have q:=h.dl
 have Cj:=Ct (b:=Ay 2<|AQ (AD 0)<|AQ (AD 1) BA) (me:=WR) (λg:Str×qF=>.tup [.str g.1,.lst<|g.2.map<|Ba M.ws]) (λg=>.lst<|g.2.map<|Ba M.ws) (λY=>∃x y,Y=[x,y]) gl [none,none] {(none),none,rfl} λg e Y c=>by
  let(x,y,rfl):=c;refine{[↑(.str g.1),↑(.lst<|g.2.map<|Ba M.ws)],by simp![],?_,_,_,rfl};unfold WR
  simp![J1]
 have EW:=Ct (b:=AD 0) (me:=WQ) (λr:Str×qF=>.str r.1) (λr=>.own<|r.2.map<|Ba M.ws) (λY=>∃x,Y=[x,↑(CO M)]) M.rs [none,↑(CO M)] {(none),rfl} λr e Y c=>by
  let(x,rfl):=c;let(i,s,rfl):=Ō.mp e;have ms:=dM h s;have k:=h.r.lk _ e;have j:=Kr h k.1 Q8 k.2;have a:=k.1.sh;refine{[↑(.str M.rs[i].1),↑(CO M)],by simp![],?_,_,rfl}
  unfold WQ
  simp![BX,Av,h.ss,h.sd,AI _ h.ss,AI _ h.sd,ms,a,AI _ a,j]
 have f:=Ct (b:=AD 0) (me:=WO) BG (λd=>.own<|d.g.map<|Ba M.ws) (λY=>∃x,Y=[x,↑(CO M)]) M.ds [none,↑(CO M)] {(none),rfl} λd e Y c=>by
  let(x,rfl):=c;have k:=h.d d e;have a:AX d.g=true:=k.g.sh;have n:=j5 a;have j:=Kr h k.g (λy z=>z) k.gl
  have sd:=Js k;refine{[↑(BG d),↑(CO M)],by simp![],?_,_,rfl};unfold WO
  simp![BX,Av,h.ss,h.sd,AI _ h.ss,AI _ h.sd,n,a,AI _ a,j]
 have I:AX (gl.map λg=>T.tup [.str g.1,.lst<|g.2.map<|Ba M.ws])=true:=by
  rw[CM,Ò];intro t w;let(g,_,rfl):=Ê.mp w
  simp![J1]
 have p:(M.rs.map (·.1)).map T.str=M.rs.map λr=>T.str r.1:=by rw[ä];rfl
 rw[<- p]at EW;have l1:gl.length<=100000:=by lia
 have A:M.rs.length<=100000:=by lia
 have B:M.ds.length<=100000:=by lia
 have C:gl.length+M.rs.length<=100000:=by lia
 have D:gl.length+M.rs.length+M.ds.length<=100000:=by lia
 have F:=Qc M.ws (λg:Str×qF=>g.2) false gl;have G:=Qc M.ws (λg:Str×qF=>g.2) true M.rs;have H:=Qc M.ws (λd:Dr=>d.g) true M.ds;have o:(gl.map λg=>T.lst<|g.2.map<|Ba M.ws)=(gl.map (·.2)).map λl=>T.lst<|l.map<|Ba M.ws:=by rw[ä];rfl
 unfold P9 UL FA;rw[ß,ß,<- ú]
 simp![BX,Av,h.ss,h.sd,AI _ h.ss,AI _ h.sd,gs,AI _ gs,pg,E,md,Cj,EW,f,F,G,H,o,AI _ I,À,Ü,l1,A,B,C,D]
abbrev RY:Stmt:=AK 69
def kP:AG:=
 (mC<|.int 0)
def MZ:AH:=
 (Ki 2 (m2 Fc (AA 4)<|mC<|.int 1)<|Bm L6<|AB (AW (AA 2)<|m2 Fc (AA 4)<|mC<|.int 1)<|AB (AA 6) AE)
def M0:AH:=
 (Bc (Au<|AA 3) (Ay 3<|AQ (AD 4)<|AQ (AD 5)<|AQ (AD 6) BA) MZ)
def Tt:AH:=
 (AF (Cb 2<|Ax 1 [] (Au<|BU Ac Ad JB (AA 0) AE) (AD 0) (mC<|.bl true) kP)
 (AF (Bc (Au<|AJ P9<|AB (AA 0)<|AB (AA 1) AE) (AD 3) M0)
 (AN<|AA 2)))
def MF:qF->Option Ru:=AZ 2 7 Tt
abbrev iQ:=fA 9 2 RY MF
abbrev ze7:Gx:={ B9 with mt:=[("watches",Ac,Ad,OY)] }
abbrev zei:Gm:=gA RY 8 [("all_looks",i4)] ["max"] ["numbers"] (ox:=ze7)
theorem zex:Ck zei iQ RY Tt:={}
def By(x:Str):qF->Int
 |[]=>0|t::r=>if Ed t=x then max (Ce t) (By x r) else By x r
def N0(x:Str):∀l:qF,0<=By x l
 |[]=>Ľ 0|t::r=>by
  have:=N0 x r;unfold By;split;lia;exact this
theorem N1(x:Str)(t:T)(r:qF):By x (t::r)=if Ed t=x then max (Ce t) (By x r) else By x r:=rfl
def dF(x:Str)(m:qF):∀l:qF,By x (l++m)=max (By x l) (By x m)
 |[]=>by
  have:=N0 x m;rw[ŏ];show _=max 0 _
  lia
 |t::r=>by
  have:=dF x m r;rw[ũ,N1,N1];split;rw[this];lia;exact this
abbrev Eb(ws:ky)(f:Str->Int):qF:=ws.map λx=>.int<|f x
def zpc{ws:ky}(hd:ws.Nodup)(f:Str->Int){j:Nat}(hj:j<ws.length){v:Int}:(Eb ws f).set j (.int v)=Eb ws λx=>if x=ws[j] then v else f x:=by
 apply Ÿ;intro i;by_cases a:i<ws.length;rw[Î,Á a];by_cases e:i=j;subst e;rw[å (by rw[À];exact a)];simp;rw[á<|Ë e,Î,Á a];have:ws[i]≠ws[j]:=λq=>e<|(ö hd).mp q
 simp[this];rw[ć (by rw[Ā,À];lia),ć (by rw[À];lia)]
def ix_lt{n i:Nat}(h:i<n):Bk n (i:Int)=↑i:=by unfold Bk;simp;lia
def gG{M:Mc}(h:McOk M){wd:ky}{l:qF}(c:Ca M.ws wd l){a0 a1 a3:qB}:∀(m:qF) (f:Str->Int) (x4 x5 x6:qB),(∀x,0<=f x)->(∀t∈m,t∈l)->∃y4 y5 y6,BK (Ay 3<|AQ (AD 4)<|AQ (AD 5)<|AQ (AD 6) BA) MZ (m.map<|Ba M.ws) [a0,a1,↑(.own<|Eb M.ws f),a3,x4,x5,x6]=↑(.nx [a0,a1,↑(.own<|Eb M.ws λx=>max (f x)<|By x m),a3,y4,y5,y6])
 |[],f,x4,x5,x6,a,ϊ=>{x4,x5,x6,by
  have e:(λx=>max (f x)<|By x [])=f:=funext λx=>by
   have:=a x;show max (f x) 0=f x
   lia
  rw[e]
  rfl}
 |t::m,f,x4,x5,x6,a,d=>by
  let(B,y,C,D):=Nr<|c t<|d t (Ï ..);let(j,n,b,p):=Hm y
  let(y4,y5,y6,e):=gG h c (a0:=a0) (a1:=a1) (a3:=a3) m (λx=>if x=M.ws[j] then (if Ce t > f M.ws[j] then Ce t else f M.ws[j]) else f x) (↑(.int<|(j:Int)+1)) (↑(.str<|Ec t)) (↑(.int<|Ce t)) (λx=>by
   have r:=a x;have A:=a M.ws[j];split
   split<;>lia
   exact r) λu s=>d u<|Í _ s
  refine{y4,y5,y6,?_};have g:((j:Int)+1 - 1)=j:=by lia
  have i:Ar (Eb M.ws f) (j:Int)=↑(.int<|f M.ws[j]):=G2 (by rw[Î,Á b];rfl);have v:=ix_lt b
  have w:MZ [a0,a1,↑(.own<|Eb M.ws f),a3,↑(.int<|(j:Int)+1),↑(.str<|Ec t),↑(.int<|Ce t)]=↑(.nx [a0,a1,↑(.own (Eb M.ws λx=>if x=M.ws[j] then (if Ce t > f M.ws[j] then Ce t else f M.ws[j]) else f x)),a3,↑(.int<|(j:Int)+1),↑(.str<|Ec t),↑(.int<|Ce t)]):=by
   rw[<- zpc h.wd f b];unfold MZ
   simp![g,i,v,À]
  have o:Ba M.ws t=.tup [.int<|(j:Int)+1,.str<|Ec t,.int<|Ce t]:=by
   unfold Ba;rw[n];rfl
  have k:(λx=>max (if x=M.ws[j] then (if Ce t > f M.ws[j] then Ce t else f M.ws[j]) else f x)<|By x m)=λx=>max (f x)<|By x<|t::m:=funext λx=>by
   rw[N1,<- p];by_cases q:x=M.ws[j];subst q;rw[if_pos rfl,if_pos rfl];split<;>lia;rw[if_neg q,if_neg<|λz=>q z.symm]
  rw[k]at e;rw[Ö,o]
  conv=>lhs;unfold BK
  simp![w,e]
def gE{M:Mc}(h:McOk M){a0 a1:qB}:∀(L:List<|qF) (f:Str->Int) (x3 x4 x5 x6:qB),(∀x,0<=f x)->(∀l∈L,Ca M.ws CB l)->∃y3 y4 y5 y6,BK (AD 3) M0 (L.map λl=>.lst<|l.map<|Ba M.ws) [a0,a1,↑(.own<|Eb M.ws f),x3,x4,x5,x6]=↑(.nx [a0,a1,↑(.own<|Eb M.ws λx=>max (f x)<|By x L.flatten),y3,y4,y5,y6])
 |[],f,x3,x4,x5,x6,a,ϊ=>{x3,x4,x5,x6,by
  have e:(λx=>max (f x)<|By x ([]:List<|qF).flatten)=f:=funext λx=>by
   have:=a x;show max (f x) 0=f x
   lia
  rw[e]
  rfl}
 |l::L,f,x3,x4,x5,x6,a,c=>by
  let(d,g,i,j):=gG h (c l (Ï ..)) (a0:=a0) (a1:=a1) (a3:=↑(.lst<|l.map<|Ba M.ws)) l f x4 x5 x6 a λt n=>n;let(y3,y4,y5,y6,b):=gE h (a0:=a0) (a1:=a1) L (λx=>max (f x)<|By x l) (↑(.lst<|l.map<|Ba M.ws)) d g i (λx=>by have:=a x;lia) λl m=>c l<|Í _ m
  refine{y3,y4,y5,y6,?_}
  have w:M0 [a0,a1,↑(.own<|Eb M.ws f),↑(.lst<|l.map<|Ba M.ws),x4,x5,x6]=↑(.nx [a0,a1,↑(.own<|Eb M.ws λx=>max (f x)<|By x l),↑(.lst<|l.map<|Ba M.ws),d,g,i]):=by
   unfold M0
   simp![J1,AI _<|J1 _ _,j]
  have k:(λx=>max (max (f x)<|By x l)<|By x L.flatten)=λx=>max (f x)<|By x (l::L).flatten:=funext λx=>by
   rw[List.flatten_cons,dF];lia
  rw[k]at b;rw[Ö]
  conv=>lhs;unfold BK
  simp![w,b]
def gr_ok{M:Mc}(h:McOk M){gl:List<|Str×qF}(f:Dy M.ws (M.rs.map (·.1)) gl)(s:gl.length<=1000):MF [CO M,.lst<|gl.map AL]=↑(.ok<|.own<|Eb M.ws λx=>By x (FA M gl).flatten):=by
 have gs:=f.sh;have j:=al_ok h f s;have w:=TF h;have u:=h.wl
 have v:=Ct (b:=AD 0) (me:=kP) T.str (λϊ=>.int 0) (λY=>∃x,Y=[x]) M.ws [none] {(none),rfl} λg c Y q=>by
  let(x,rfl):=q;exact{[↑(.str g)],by simp![],rfl,_,rfl}
 let(z,A,B,C,e):=gE h (a0:=↑(CO M)) (a1:=↑(.lst<|gl.map AL)) (FA M gl) (λϊ=>0) none none none none (λϊ=>Ľ 0) λl a=>by
  unfold FA at a;rcases Ø.mp a with a|a;let(g,c,rfl):=Ê.mp a;exact(f g c).2.1;rcases Ø.mp a with a|a;let(r,c,rfl):=Ê.mp a;intro t i;let(x,y,n,e,m,o,p):=(h.r.lk r c).1 t i;exact{x,y,n,e,m,Q8 y o,p}
  let(d,c,rfl):=Ê.mp a;exact(h.d d c).g
 have k:(λx=>max 0<|By x (FA M gl).flatten)=λx=>By x (FA M gl).flatten:=funext λx=>by
  have:=N0 x (FA M gl).flatten;lia
 rw[k]at e;have l1:M.ws.length<=100000:=by lia
 have sa:AX ((FA M gl).map λl=>T.lst<|l.map<|Ba M.ws)=true:=by
  rw[CM,Ò];intro t i;let(l,_,rfl):=Ê.mp i
  simp![J1]
 unfold MF Tt
 simp![BX,Av,h.ss,h.sd,AI _ h.ss,AI _ h.sd,w,gs,AI _ gs,À,l1,v,j,AI _ sa,e]
abbrev RU:Stmt:=AK 82
def QG:AH:=
 (A4 (Cc (m2 BM (AW (AA 2)<|mC<|.int 0)<|AW (AA 1)<|mC<|.int 0)<|AJ Hy<|AB (AW (AA 1)<|mC<|.int 1)<|AB (AW (AA 2)<|mC<|.int 1) AE) (AN<|mC<|.bl true) Ab)
def Tp:AH:=
 (AF (Bc (Gu<|AB (AA 0) AE) (AD 2) QG)
 (AN<|mC<|.bl false))
def PN:qF->Option Ru:=AZ 2 3 Tp
abbrev iM:=fA 3 2 RU PN
abbrev zci:Gm:=gA RU 2 [("within",VA)] ["reversed"]
theorem zcp:Ck zci iM RU Tp:={}
structure Nd where
 r:Str
 z:Db.Z
 p:Option Nat
 k:Option Nat
def Bb:Option Nat->T
 |some i=>.int (i:Int)|none=>.non
def AS(m:Nat)(n:Nd):T:=.tup [.str n.r,zT (m+1) n.z,Bb n.p,Bb n.k]
def EB(o:Option Nat):(Bb o).sh=true:=by cases o<;>rfl
def GJ(m:Nat)(n:Nd):(AS m n).sh=true:=by
 have a:=EB n.p;have b:=EB n.k;have c:=Bl (n:=m+1) (f:=n.z);unfold AS;change Bb n.p=P;change Bb n.k=K;change zT (m+1) n.z=Z
 simp![a,b,c]
def FO(m:Nat)(L:List Nd):AX (L.map<|AS m)=true:=CU λn ϊ=>GJ m n
def E1(m:Nat)(L:List Nd)(n:Nd):Bool:=L.any λo=>decide (o.r=n.r) && E5 (m+1) n.z o.z
def gR{α:Type}{b:T->AM->Option AM}{body:AH}(f:α->T)(p:α->Bool)(a:T)(I:AM->Prop):∀(L:List α) (Y:AM),I Y->(∀x∈L,∀Y,I Y->∃τ1,b (f x) Y=↑τ1/\(p x=false->∃τ2,body τ1=↑(.nx τ2)/\I τ2)/\(p x=true->body τ1=↑(.rt a)))->(L.any p=false->∃Y',BK b body (L.map f) Y=↑(.nx Y')/\I Y')/\(L.any p=true->BK b body (L.map f) Y=↑(.rt a))
 |[],Y,h,ϊ=>{λϊ=>{(Y),rfl,h},λz=>by cases z}|x::L,Y,h,d=>by
  let(τ1,e,i,j):=d x (Ï ..) Y h;rw[Ö,ė];unfold BK;rw[e];cases c:p x with
  |true=>simp[j c]|false=>let(τ2,g,l):=i c;erw[g,ķ];exact gR f p a I L τ2 l λy k=>d y<|Í _ k
def zq2{m:Nat}{L:List Nd}{n:Nd}(A:L.length<=100000)(y:∀o∈L,PyData.strOk o.r=true)(B:PyData.strOk n.r=true):PN [.lst<|L.map<|AS m,AS m n]=↑(.ok<|.bl<|E1 m L n):=by
 have l:=FO m L;have r:=AI _ l;have p:=GJ m n;have en:=AO _ p
 have g:=gR (b:=AD 2) (body:=QG) (AS m) (λo=>decide (o.r=n.r) && E5 (m+1) n.z o.z) (.bl true) (λY=>∃x,Y=[↑(.lst<|L.map<|AS m),↑(AS m n),x]) L.reverse [↑(.lst<|L.map<|AS m),↑(AS m n),none] {(none),rfl} λo C Y w=>by
  let(x,rfl):=w;have q:=X0 (n:=m+1) n.z o.z;have s:=Hr (y o<|Ż.mp C) B;have d:=Bl (m+1) n.z;have f:=Bl (m+1) o.z;have f1:=AO _ d;have f2:=AO _ f;have h:=EB n.p;have i:=EB n.k;have j:=EB o.p;have k:=EB o.k;refine{[↑(.lst<|L.map<|AS m),↑(AS m n),↑(AS m o)],rfl,?_};change L.map (AS m)=LT;change E5 (m+1) n.z o.z=bb;unfold AS at *;change zT (m+1) n.z=Z1;change zT (m+1) o.z=Z2;change Bb n.p=P1;change Bb n.k=P2;change Bb o.p=P3;change Bb o.k=P4;unfold QG
  by_cases c:o.r=n.r;have a:BM (.str o.r) (.str n.r)=↑(.bl true):=by rw[s,Ì c]
  rw[Ì c,Bool.true_and];cases bb with
  |true=>exact{λz=>(by cases z),λϊ=>by simp![h,i,j,k,d,f,f1,f2,a,q]}|false=>exact{λϊ=>{_,by simp![h,i,j,k,d,f,f1,f2,a,q];rfl,_,rfl},λz=>by cases z}
  have a:BM (.str o.r) (.str n.r)=↑(.bl false):=by rw[s,Ý c]
  rw[Ý c,ĵ];exact{λϊ=>{_,by simp![h,i,j,k,d,f,f1,f2,a,q];rfl,_,rfl},λz=>by cases z}
 have v:L.reverse.any (λo=>decide (o.r=n.r) && E5 (m+1) n.z o.z)=E1 m L n:=List.any_reverse;rw[v]at g;have u:(L.map<|AS m).reverse=L.reverse.map (AS m):=List.map_reverse.symm;have t:(L.map<|AS m).length<=100000:=by rw[À];exact A
 unfold PN Tp;cases c:E1 m L n with
 |true=>
  have e:=g.2 c;rw[<- u]at e;change L.map (AS m)=LT;change AS m n=NT
  simp![Gu,l,r,p,en,t,e]
 |false=>
  let(D,e,x,rfl):=g.1 c;rw[<- u]at e;change L.map (AS m)=LT;change AS m n=NT
  simp![Gu,l,r,p,en,t,e]
abbrev Rx:Stmt:=BY 80 1
def J8:AH:=
 (AF (A3 (Cs (Aw (AU Ac Ad 1<|AA 0)<|Aw (AU Ae Af 2<|AA 0)<|AU A8 Aa 3<|AA 0)<|AA 1)<|AD 3)
 (AF (A3 (AJ DO<|AB (AA 2)<|AB (AA 3) AE)<|AD 4)
 (AF (A4 (m2 (BB false) (AA 4)<|mC .non) (AN<|mC .non) Ab)
 (AF (A3 (AJ MH<|AB (AJ DO<|AB (AJ Lu<|AB (AA 4) AE)<|AB (AA 3) AE)<|AB (AU A8 Aa 1<|AA 0) AE)<|AD 5)
 (AF (A4 (m2 (BB false) (AU A8 Aa 5<|AA 0)<|mC .non) (AN<|AA 5) Ab)
 (AN<|AJ MG<|AB (AA 5)<|AB (AU A8 Aa 5<|AA 0) AE))))))
def MN:qF->Option Ru:=AZ 3 6 J8
abbrev VS:=fA 5 3 Rx MN
abbrev zbk:Gx:={ B9 with cl:=[("Machine",Ac,Ad),("Sheet",Ae,Af),("Walk",A8,Aa)] }
abbrev zbq:Gm:=gA Rx 4 [("met",Ik),("folded",iW),("waited",VB),("freed",iR)] [] (ox:=zbk)
theorem zbx:Ck zbq VS Rx J8:={}
def Fv{k n:Nat}{u:AH}{ts:qF}{t:T}(hk:ts.length=k)(h:u (ts.map some++List.replicate (n - ts.length) none)=↑(.rt t)):AZ k n u ts=↑(.ok t):=by
 unfold AZ Kn;lia
def Ei(M:Mc)(mk:qF)(mo:(Nat->Db.B)×Option Nat):qF:=[.lst mk,rT M.ws.length mo.1,.str<|M.nm.headD "",.obj (.sdc M.nm)<|M.nm.map<|DI M,.obj (.sdc M.nm)<|M.nm.map<|DQ M,Bb mo.2]
def HG(M:Mc)(mk:qF)(mo:(Nat->Db.B)×Option Nat):T:=.obj (.ins A8 Aa)<|Ei M mk mo
structure WkK(M:Mc)(mk:qF)(mo:(Nat->Db.B)×Option Nat)(S:T):Prop where
 i:Ao A8 Aa S=↑(Ei M mk mo)
 n:Ao Ac Ad S=none
 n2:Ao Ae Af S=none
 s:S.sh=true
 k:AX mk=true
 o:(rT M.ws.length mo.1).sh=true
 t:AX (M.nm.map<|DI M)=true
 w:AX (M.nm.map<|DQ M)=true
 q:(Bb mo.2).sh=true
 p:∀p∈mo.2,0<p/\p<M.ws.length+1
def zo5(m:Nat)(mo:Nat->Db.B):(rT m mo).sh=true:=by
 have:AX (mT m λi=>bT<|mo i)=true:=Fu λi=>Jw _;show((!false) && AX (mT m λi=>bT<|mo i))=true;rw[this];rfl
def wkK(M:Mc){mk:qF}(hk:AX mk=true)(mo:(Nat->Db.B)×Option Nat)(e:∀p∈mo.2,0<p/\p<M.ws.length+1):WkK M mk mo<|HG M mk mo:=by
 have a:=zo5 M.ws.length mo.1;have d:=EB mo.2;have b:AX (M.nm.map<|DI M)=true:=CU λx ϊ=>JR M x
 have c:AX (M.nm.map<|DQ M)=true:=CU λx ϊ=>Mq M x
 refine{(show Ao A8 Aa (HG M mk mo)=(if A8=A8/\Aa=Aa then ↑(Ei M mk mo) else none) from rfl).trans (if_pos {(rfl),rfl}),(show Ao Ac Ad (HG M mk mo)=(if A8=Ac/\Aa=Ad then ↑(Ei M mk mo) else none) from rfl).trans (if_neg λz=>by
  have:=z.1;revert this
  decide),(show Ao Ae Af (HG M mk mo)=(if A8=Ae/\Aa=Af then ↑(Ei M mk mo) else none) from rfl).trans (if_neg λz=>by
  have:=z.1;revert this
  decide),?_,hk,a,b,c,d,e}
 unfold HG Ei;change rT M.ws.length mo.1=A;change M.nm.map (DI M)=B;change M.nm.map (DQ M)=C;change Bb mo.2=D
 simp![a,b,c,hk,d]
section
variable {M:Mc}{mk:qF}{mo:(Nat->Db.B)×Option Nat}{S:T}(k:WkK M mk mo S)
include k
def WkK.f0{Y:AM}{m:AG}{b:Bool}(e:m Y=↑(.v S b)):AU A8 Aa 0 m Y=↑(.v (.lst mk) false):=by simp![-Ao,e,k.i,Ei,k.k]
def WkK.f1{Y:AM}{m:AG}{b:Bool}(e:m Y=↑(.v S b)):AU A8 Aa 1 m Y=↑(.v (rT M.ws.length mo.1) false):=by
 have o:=k.o;have i:=k.i;unfold Ei at i;change rT M.ws.length mo.1=A
 simp![-Ao,e,i,o]
def WkK.f2{Y:AM}{m:AG}{b:Bool}(e:m Y=↑(.v S b)):Aw (AU Ae Af 0 m) (AU A8 Aa 2 m) Y=↑(.v (.str<|M.nm.headD "") false):=by simp![-Ao,e,k.i,k.n2,Ei]
def WkK.f3{Y:AM}{m:AG}{b:Bool}(e:m Y=↑(.v S b)):Aw (AU Ac Ad 1 m) (Aw (AU Ae Af 2 m)<|AU A8 Aa 3 m) Y=↑(.v (.obj (.sdc M.nm)<|M.nm.map<|DI M) false):=by simp![-Ao,e,k.i,k.n,k.n2,Ei,k.t]
def WkK.f4{Y:AM}{m:AG}{b:Bool}(e:m Y=↑(.v S b)):Aw (AU Ae Af 3 m) (AU A8 Aa 4 m) Y=↑(.v (.obj (.sdc M.nm)<|M.nm.map<|DQ M) false):=by simp![-Ao,e,k.i,k.n2,Ei,k.w]
def WkK.f5{Y:AM}{m:AG}{b:Bool}(e:m Y=↑(.v S b)):AU A8 Aa 5 m Y=↑(.v (Bb mo.2) false):=by
 have o:=k.q;have i:=k.i;unfold Ei at i;change Bb mo.2=A
 simp![-Ao,e,i,o]
end
def X6{m:Nat}{L:List<|Nat×Nat×Int}(a:Eh m L){f h:Db.Z}(k:Db.Nar (m+1) f)(e:BD L f=↑h):∃g,BD L (Dm.wtd h)=↑g/\Db.Nar (m+1) g/\Dk.Und (m+1) h g:=by
 let(b,_,d,_):=(Dk.met_ok _ f k<|Hg a).1 h e;have n2:=Dm.wtd_nar b;have u:Dk.Und (m+1) h<|Dm.wtd h:=λi j ϊ ϊ=>Dm.wtd_le h i j
 cases c:BD L (Dm.wtd h) with
 |none=>exact((Dk.met_ok _ _ n2<|Hg a).2 c h b u d).elim|some g=>let(l,_,_,w):=(Dk.met_ok _ _ n2<|Hg a).1 g c;exact{g,rfl,l,w h b u d}
def gW{m:Nat}{g:Db.Z}(n:Db.Nar (m+1) g)(mo:Nat->Db.B):Db.Sound (m+1)<|Db.fld g<|Db.zm mo:=by
 let(h,v):=Dv.low_feas n<|by lia
 let(q,s,c):=Dv.vals_of n h (u:=((m+1:Nat):Int))<|Ľ _;generalize t:(λi=>Dv.low g i * ((m+1:Nat):Int)+q i)=w at *
 have f:(0:Int)<((m+1:Nat):Int):=by lia
 refine Db.lie_sound (D:=((m+1:Nat):Int)) (X:=λk=>w k - w 0) f (Int.sub_self _) (λk hk=>?_) λi j p r=>?_;have a:=n.row k hk;have b:=c 0 k (by lia) hk
 cases e:g 0 k with
 |none=>rw[e]at a;exact a.elim|some d=>
  rw[e]at a b;have l:d<=1:=a;have o:w 0 - w k<=d / 2 * ((m+1:Nat):Int) - 1+d % 2:=b;have:d / 2 * ((m+1:Nat):Int)<=0:=ſ (by lia)<|by lia
  show 0<=w k - w 0;lia
 have:=Db.sat_le f (c i j p r)<|Db.fld_le g (Db.zm mo) i j
 rwa[show w i - w 0 - (w j - w 0)=w i - w j by lia]
def L8(o:Option Nat)(z:Db.Z):Db.Z:=match o with
 |some p=>Dm.frd z p|none=>z
def DF(M:Mc)(mo:(Nat->Db.B)×Option Nat)(x:Str)(f:Db.Z):Option Db.Z:=(BD (An M.ws M.rs x) f).bind λh=>(BD (An M.ws M.rs x)<|Dm.wtd h).bind λg=>(Bv (M.ws.length+1)<|Db.fld g<|Db.zm mo.1).map (L8 mo.2)
def lC{M:Mc}(h:McOk M){mk:qF}{mo:(Nat->Db.B)×Option Nat}{S:T}(k:WkK M mk mo S){r:Str}(U:r∈M.nm){f:Db.Z}(A:Db.Nar (M.ws.length+1) f):∃t,MN [S,.str r,zT (M.ws.length+1) f]=↑(.ok t)/\t.share=oT (M.ws.length+1) (DF M mo r f):=by
 have hm:=h.wl;have I:=k.s;have eS:=AO _ I;have D:=Bl (M.ws.length+1) f;have F:=AO _ D;have u:=Gf h r;have mt:=H9 (m:=M.ws.length) (by lia) A u
 have j:=Dq<|An M.ws M.rs r;have l:=AI _ j;have E:∀a b d,AA 0 [↑S,↑(.str r),↑(zT (M.ws.length+1) f),a,b,d]=↑(.v S false):=λϊ ϊ ϊ=>by simp![I]
 have v1:AA 1 [↑S,↑(.str r),↑(zT (M.ws.length+1) f),none,none,none]=↑(.v (.str r) false):=by simp![]
 have g2:=GZ (k.f3<|E none none none) v1 U<|JR M r;unfold DI at g2
 suffices H:∃t,J8 [↑S,↑(.str r),↑(zT (M.ws.length+1) f),none,none,none]=↑(.rt t)/\t.share=oT (M.ws.length+1) (DF M mo r f) by
  let(t,O,P):=H;exact{t,by unfold MN;exact Fv rfl O,P}
 unfold DF;cases c:BD (An M.ws M.rs r) f with
 |none=>
  rw[c]at mt;have i:DO [zT (M.ws.length+1) f,.lst<|(An M.ws M.rs r).map Aj]=↑(.ok .non):=mt;refine{.non,?_,rfl};change (An M.ws M.rs r).map Aj=SL;unfold J8;refine sq (by simp![-Cs,g2,j,l];rfl)<|sq (by simp![D,F,j,l,i];rfl)<|sr ?_
  simp![]
 |some hh=>
  rw[c]at mt;let(g,G,X,_):=X6 u A c;have W:=Ha A u c;have wa:=X7 (m:=M.ws.length) (by lia) hh
  have e:(T.own<|oZ (M.ws.length+1)<|Dm.wtd hh).share=zT (M.ws.length+1) (Dm.wtd hh):=by rw[T.share,Gj]
  have q:=H9 (m:=M.ws.length) (by lia) (Dm.wtd_nar W) u;rw[G]at q;have fo:=fo_ok (m:=M.ws.length) (by lia) g mo.1
  rw[cW<|by lia]at fo;rw[Č,G,Č];have i:DO [zT (M.ws.length+1) f,.lst<|(An M.ws M.rs r).map Aj]=↑(.ok<|zT (M.ws.length+1) hh):=mt;have s:DO [zT (M.ws.length+1)<|Dm.wtd hh,.lst<|(An M.ws M.rs r).map Aj]=↑(.ok<|zT (M.ws.length+1) g):=q;have sh:=Bl (M.ws.length+1) hh;have x:=AO _ sh;have K:=Bl (M.ws.length+1)<|Dm.wtd hh;have N:=AO _ K;have J:=Bl (M.ws.length+1) g;have w:=AO _ J
  have fs:Bv (M.ws.length+1) (Db.fld g<|Db.zm mo.1)=↑(Db.fw (Db.fld g<|Db.zm mo.1)<|M.ws.length+1):=by
   unfold Bv;rw[if_pos<|gW X mo.1]
  rw[fs]at fo ⊢;change Db.fw (Db.fld g<|Db.zm mo.1) (M.ws.length+1)=Z;have z:MH [zT (M.ws.length+1) g,rT M.ws.length mo.1]=↑(.ok<|zT (M.ws.length+1) Z):=fo;have v:=Bl (M.ws.length+1) Z;have y:=AO _ v;have V:BB false (zT (M.ws.length+1) hh) .non=↑(.bl false):=Gk (M.ws.length+1) ↑hh false;have f1:=λa b d=>k.f1<|E a b d
  have f5:=λa b d=>k.f5<|E a b d
  have o:=k.o;have C:=AO _ o;have kp:=k.p
  have pre:∀R,AF (A4 (m2 (BB false) (AU A8 Aa 5<|AA 0)<|mC .non) (AN<|AA 5) Ab) (AN<|AJ MG<|AB (AA 5)<|AB (AU A8 Aa 5<|AA 0) AE) [↑S,↑(.str r),↑(zT (M.ws.length+1) f),↑(.lst<|(An M.ws M.rs r).map Aj),↑(zT (M.ws.length+1) hh),↑(zT (M.ws.length+1) Z)]=R->J8 [↑S,↑(.str r),↑(zT (M.ws.length+1) f),none,none,none]=R:=λR Q=>by
   change T.own (oZ (M.ws.length+1)<|Dm.wtd hh)=OW;change zT (M.ws.length+1) (Dm.wtd hh)=ZW;change zT (M.ws.length+1) hh=ZH;change zT (M.ws.length+1) g=ZG;change zT (M.ws.length+1) f=ZF;change zT (M.ws.length+1) Z=ZZ;change rT M.ws.length mo.1=MO;change (An M.ws M.rs r).map Aj=SL;unfold J8;refine sq (by simp![-Cs,g2,j,l];rfl)<|sq (by simp![D,F,j,l,i,sh,x];rfl)<|Fd (by simp![-BB,sh,x,V]) ?_
   exact sq (by simp![-AU,f1,sh,x,wa,e,K,N,j,l,s,J,w,o,C,z,v,y]) Q
  cases B:mo.2 with
  |none=>
   rw[B]at f5;have f5:∀a b d,AU A8 Aa 5 (AA 0) [↑S,↑(.str r),↑(zT (M.ws.length+1) f),a,b,d]=↑(.v .non false):=f5;refine{zT (M.ws.length+1) Z,pre _<|sr ?_,y};change zT (M.ws.length+1) hh=ZH;change zT (M.ws.length+1) f=ZF;change zT (M.ws.length+1) Z=ZZ;change (An M.ws M.rs r).map Aj=SL
   simp![-AU,f5,v]
  |some p=>
   rw[B]at f5;have f5:∀a b d,AU A8 Aa 5 (AA 0) [↑S,↑(.str r),↑(zT (M.ws.length+1) f),a,b,d]=↑(.v (.int (p:Int)) false):=f5;let(_,Y):=kp p B;have fr:=zqf (n:=M.ws.length+1) (by lia) Z Y
   have L:(T.own<|oZ (M.ws.length+1)<|Dm.frd Z p).share=zT (M.ws.length+1) (Dm.frd Z p):=by rw[T.share,Gj]
   refine{T.own<|oZ (M.ws.length+1)<|Dm.frd Z p,pre _ ?_,L};change T.own (oZ (M.ws.length+1)<|Dm.frd Z p)=OF;change zT (M.ws.length+1) hh=ZH;change zT (M.ws.length+1) f=ZF;change zT (M.ws.length+1) Z=ZZ;change (An M.ws M.rs r).map Aj=SL;refine Fd (by simp![-AU,f5]) ?_
   simp![-AU,f5,v,y,fr]
abbrev Rw:Stmt:=BY 80 2
def Ng:AH:=
 (AF (A3 (BU A8 Aa MN (AA 0)<|AB (Aw (AU Ae Af 0<|AA 0)<|AU A8 Aa 2<|AA 0)<|AB (AJ Ly<|AB (m1 Bd<|AU A8 Aa 1<|AA 0) AE) AE)<|AD 1)
 (AN<|EH (m2 (BB false) (AA 1)<|mC .non) (BE AE)<|BE<|Ah (Bw<|AB (Aw (AU Ae Af 0<|AA 0)<|AU A8 Aa 2<|AA 0)<|AB (AA 1)<|AB (mC .non)<|AB (mC .non) AE) AE))
def ML:qF->Option Ru:=AZ 1 2 Ng
abbrev i8:=fA 6 1 Rw ML
abbrev za9:Gx:={ B9 with cl:=[("Sheet",Ae,Af),("Walk",A8,Aa)],mt:=[("arrived",A8,Aa,VS)] }
abbrev zad:Gm:=gA Rw 5 [("nought",hU)] ["len"] (ox:=za9)
theorem zah:Ck zad i8 Rw Ng:={}
def nN:Db.Z:=λϊ ϊ=>↑1
theorem J4(n:Nat):Db.Nar n nN:={λϊ ϊ=>rfl,λϊ ϊ=>Ľ _,λϊ ϊ ϊ ϊ ϊ ϊ=>Ľ _}
def C8(M:Mc)(mo:(Nat->Db.B)×Option Nat):List Nd:=match DF M mo (M.nm.headD "") nN with
 |some z=>[{M.nm.headD "",z,none,none}]|none=>[]
def zqe{M:Mc}(h:McOk M){mk:qF}{mo:(Nat->Db.B)×Option Nat}{S:T}(k:WkK M mk mo S):ML [S]=↑(.ok<|.own<|(C8 M mo).map (AS M.ws.length)):=by
 have v:=h.wl;have g:=k.s;have q:=AO _ g;have no:Ly [.int (M.ws.length:Int)]=_:=zpb (m:=M.ws.length)<|by lia
 have e:(T.own<|mT (M.ws.length+1) λϊ=>T.own<|mT (M.ws.length+1) λϊ=>T.int 1).share=zT (M.ws.length+1) nN:=by
  show(T.own<|oZ (M.ws.length+1) nN).share=_;rw[T.share,Gj]
 let(t,p,b):=lC h k (NY h)<|J4<|M.ws.length+1;have u:∀f,AA 0 [↑S,f]=↑(.v S false):=λϊ=>by simp![g]
 have f1:=λf=>k.f1<|u f
 have f2:=λf=>k.f2<|u f
 have le:Bd (rT M.ws.length mo.1)=↑(.int (M.ws.length:Int)):=by
  show ↑(T.int ((mT M.ws.length λi=>bT<|mo.1 i).length:Int))=_;rw[Bj]
 have a:=k.o;have d:=AO _ a;have sz:=Bl (M.ws.length+1) nN;have r:=AO _ sz;have j:=ET (M.ws.length+1)<|DF M mo (M.nm.headD "") nN;have l:=AO _ j;have n:=Gk (M.ws.length+1) (DF M mo (M.nm.headD "") nN) false;have s:=k.i;unfold ML;refine Fv rfl ?_;show Ng [↑S,none]=_;unfold Ng C8;change (T.own<|mT (M.ws.length+1) λϊ=>T.own<|mT (M.ws.length+1) λϊ=>T.int 1)=NO
 change zT (M.ws.length+1) nN=ZN;change rT M.ws.length mo.1=MO;cases c:DF M mo (M.nm.headD "") nN with
 |none=>
  rw[c]at b n;have b:t.share=.non:=b;refine sq (by simp![-AU,-Aw,-Ao,-Bd,f1,f2,a,d,le,no,e,sz,r,g,q,s,p,b];rfl) ?_
  simp![]
 |some z=>
  rw[c]at b n j l;have o:BB false (oT (M.ws.length+1) ↑z) .non=↑(.bl false):=n;show _=↑(Out.rt<|.own [.tup [.str<|M.nm.headD "",oT (M.ws.length+1) ↑z,.non,.non]]);change oT (M.ws.length+1) ↑z=OT;refine sq (by simp![-AU,-Aw,-Ao,-Bd,f1,f2,a,d,le,no,e,sz,r,g,q,s,p,b,j,l];rfl) ?_
  simp![-AU,-Aw,-BB,f2,j,l,o]
abbrev Ro:Stmt:=BY 80 3
def JH:AH:=
 (AF (A3 (AJ DO<|AB (AW (AA 1)<|mC<|.int 1)<|AB (AA 6) AE)<|AD 8)
 (AF (A4 (m2 (BB true) (AA 8)<|mC .non) (A3 (BU A8 Aa MN (AA 0)<|AB (AA 5)<|AB (AJ Iv<|AB (AA 8)<|AB (AA 7) AE) AE)<|AD 8) Ab)
 (A4 (m2 (BB true) (AA 8)<|mC .non) (DJ 3<|Bw<|AB (AA 5)<|AB (AA 8)<|AB (AA 2)<|AB (AA 4) AE) Ab)))
def Nb:AH:=
 (AF (Cb 3<|BE AE)
 (AF (Bc (Au<|Cs (Aw (AU Ae Af 3<|AA 0)<|AU A8 Aa 4<|AA 0)<|AW (AA 1)<|mC<|.int 0) (Ay 4<|AQ (AD 4)<|AQ (AD 5)<|AQ (AD 6)<|AQ (AD 7) BA) JH)
 (AN<|AA 3)))
def MJ:qF->Option Ru:=AZ 3 9 Nb
abbrev i6:=fA 6 3 Ro MJ
abbrev zak:Gx:={ B9 with cl:=[("Sheet",Ae,Af),("Walk",A8,Aa)],mt:=[("arrived",A8,Aa,VS)] }
abbrev zaq:Gm:=gA Ro 5 [("met",Ik),("put_back",VF)] [] ["told"] (ox:=zak)
theorem zaw:Ck zaq i6 Ro Nb:={}
def Ss(M:Mc)(mo:(Nat->Db.B)×Option Nat)(f:Db.Z)(d:Dr):Option Db.Z:=(BD (gK M.ws d) f).bind λz=>DF M mo d.e<|Dm.pbk z<|BW<|BJ M.ws d.n
def Gn(M:Mc)(mo:(Nat->Db.B)×Option Nat)(f:Db.Z)(a:Nat)(p:Nat×Dr):Option Nd:=(Ss M mo f p.2).map λz=>{p.2.e,z,↑a,↑p.1}
def Fh(M:Mc)(mo:(Nat->Db.B)×Option Nat)(n:Nd)(a:Nat):List Nd:=(B0 n.r 0 M.ds).flatMap λp=>(Gn M mo n.z a p).toList
abbrev Kx(S N:T)(a:Nat)(A:qF)(b c d e f:qB):AM:=[↑S,↑N,↑(.int (a:Int)),↑(.own A),b,c,d,e,f]
def zik{M:Mc}(h:McOk M){mk:qF}{mo:(Nat->Db.B)×Option Nat}{S:T}(k:WkK M mk mo S){n:Nd}(I:Db.Nar (M.ws.length+1) n.z){a:Nat}{p:Nat×Dr}(O:p.2∈M.ds){A:List Nd}(L:A.length<100000)(X:qB) :
  ∃y8,JH (Kx S (AS M.ws.length n) a (A.map<|AS M.ws.length) (↑(.int (p.1:Nat))) (↑(.str p.2.e)) (↑(.lst<|(gK M.ws p.2).map Aj)) (↑(.lst<|Dj<|BJ M.ws p.2.n)) X)=↑(.nx<|Kx S (AS M.ws.length n) a ((A++(Gn M mo n.z a p).toList).map (AS M.ws.length)) (↑(.int (p.1:Nat))) (↑(.str p.2.e)) (↑(.lst<|(gK M.ws p.2).map Aj)) (↑(.lst<|Dj<|BJ M.ws p.2.n)) y8):=by
 have Y:=h.wl;have x:=k.s;have E:=AO _ x;have D:=h.d _ O;have P:p.2.e∈M.nm:=D.e;have l:=Bl (M.ws.length+1) n.z;have s:=AO _ l;have H:Eh M.ws.length<|gK M.ws p.2:=IS D.g;have m1:=H9 (m:=M.ws.length) (by lia) I H
 have o:=Dq<|gK M.ws p.2;have t:=AI _ o;have c:=NZ<|BJ M.ws p.2.n;have en:=AI _ c;have v:=EB n.p;have w:=EB n.k;have K:=k.i;have sA:=FO M.ws.length A;have Q:(A.map<|AS M.ws.length).length<100000:=by rw[À];exact L
 unfold Gn Ss;cases r:BD (gK M.ws p.2) n.z with
 |none=>
  rw[r]at m1;have m1:DO [zT (M.ws.length+1) n.z,.lst<|(gK M.ws p.2).map Aj]=↑(.ok .non):=m1;rw[Option.bind_none,Option.map_none,Option.toList_none,è];refine{↑.non,?_};change A.map (AS M.ws.length)=AT;unfold AS;change zT (M.ws.length+1) n.z=Z;change (gK M.ws p.2).map Aj=G;change Dj (BJ M.ws p.2.n)=N;change Bb n.p=P1;change Bb n.k=P2;unfold JH
  simp![v,w,l,s,o,t,c,en,m1]
 |some g=>
  rw[r]at m1;have R:=Ha I H r;have j:=ZQ (n:=M.ws.length+1) (by lia) (by lia) g<|BJ M.ws p.2.n
  have U:=Kt R<|BJ M.ws p.2.n;have e:(T.own<|oZ (M.ws.length+1)<|Dm.pbk g<|BW<|BJ M.ws p.2.n).share=zT (M.ws.length+1) (Dm.pbk g<|BW<|BJ M.ws p.2.n):=by rw[T.share,Gj]
  let(V,B,b):=lC h k P U;have y:=Bl (M.ws.length+1)<|Dm.pbk g<|BW<|BJ M.ws p.2.n;have F:=AO _ y;have j:Iv [oT (M.ws.length+1) ↑g,.lst<|Dj<|BJ M.ws p.2.n]=↑(.ok<|.own<|oZ (M.ws.length+1)<|Dm.pbk g<|BW<|BJ M.ws p.2.n):=j;have d:=ET (M.ws.length+1) ↑g;have f:=AO _ d;have J:BB true (oT (M.ws.length+1) ↑g) .non=↑(.bl true):=Gk (M.ws.length+1) ↑g true;rw[Č];have q:=ET (M.ws.length+1)<|DF M mo p.2.e<|Dm.pbk g<|BW<|BJ M.ws p.2.n;have u:=AO _ q;have i:=Gk (M.ws.length+1) (DF M mo p.2.e<|Dm.pbk g<|BW<|BJ M.ws p.2.n) true;change zT (M.ws.length+1) (Dm.pbk g<|BW<|BJ M.ws p.2.n)=W;generalize T.own (oZ (M.ws.length+1)<|Dm.pbk g<|BW<|BJ M.ws p.2.n)=σ at *;change oT (M.ws.length+1) ↑g=G1;cases C:DF M mo p.2.e (Dm.pbk g<|BW<|BJ M.ws p.2.n) with
  |none=>
   rw[C]at b;have b:V.share=.non:=b;rw[Option.map_none,Option.toList_none,è];refine{↑.non,?_};change A.map (AS M.ws.length)=AT;unfold AS;change zT (M.ws.length+1) n.z=Z;change (gK M.ws p.2).map Aj=G;change Dj (BJ M.ws p.2.n)=N;change Bb n.p=P1;change Bb n.k=P2;unfold JH;refine sq (by simp![v,w,l,s,o,t,c,en,m1,d,f];rfl)<|sq (by simp![-BB,-Ao,J,d,f,c,en,j,e,y,F,x,E,K,B,b];rfl) ?_
   simp![]
  |some z=>
   rw[C]at b i q u;have i:BB true (oT (M.ws.length+1) ↑z) .non=↑(.bl true):=i;refine{↑(oT (M.ws.length+1) ↑z),?_};rw[Ċ,Option.toList_some,ß,show [({p.2.e,z,↑a,↑p.1}:Nd)].map (AS M.ws.length)=[.tup [.str p.2.e,oT (M.ws.length+1) ↑z,.int (a:Int),.int (p.1:Int)]] from rfl];change A.map (AS M.ws.length)=AT;unfold AS;change oT (M.ws.length+1) ↑z=OT;change zT (M.ws.length+1) n.z=Z;change (gK M.ws p.2).map Aj=G;change Dj (BJ M.ws p.2.n)=N;change Bb n.p=P1;change Bb n.k=P2;unfold JH;refine sq (by simp![v,w,l,s,o,t,c,en,m1,d,f];rfl)<|sq (by simp![-BB,-Ao,J,d,f,c,en,j,e,y,F,x,E,K,B,b,q,u];rfl) ?_
   simp![-BB,i,q,u,Q]
def zp6{M:Mc}(h:McOk M){mk:qF}{mo:(Nat->Db.B)×Option Nat}{S:T}(k:WkK M mk mo S){n:Nd}(t:n.r∈M.nm)(q:Db.Nar (M.ws.length+1) n.z)(a:Nat):MJ [S,AS M.ws.length n,.int (a:Int)]=↑(.ok<|.own<|(Fh M mo n a).map (AS M.ws.length)):=by
 have j:=k.s;have F:=AO _ j;have y:=GJ M.ws.length n;have E:=AO _ y;have l1:=MV n.r M.ds 0;have J:=h.dl
 have K:(Fh M mo n a).length<=M.ds.length:=by
  refine Õ ?_ l1;unfold Fh;generalize B0 n.r 0 M.ds=L
  induction L with
  |nil=>exact Ä _|cons x r I=>
   rw[List.flatMap_cons,Ü,ñ];have:((Gn M mo n.z a x).toList).length<=1:=by cases Gn M mo n.z a x<;>simp
   lia
 let(D,e,d,f,g,i,c,rfl):=gS (b:=Ay 4<|AQ (AD 4)<|AQ (AD 5)<|AQ (AD 6)<|AQ (AD 7) BA) (body:=JH) (Bx M.ws) (λ(B:List Nd) Y=>∃d f g i c,Y=Kx S (AS M.ws.length n) a (B.map<|AS M.ws.length) d f g i c) (λp=>(Gn M mo n.z a p).toList) 99999 (B0 n.r 0 M.ds) [] (Kx S (AS M.ws.length n) a [] none none none none none) {_,_,_,_,_,rfl} (by
   show 0+(Fh M mo n a).length<=99999
   lia) λp s B Y o H=>by
  let(d,f,g,i,c,rfl):=o;let(O,e):=zik h k q (a:=a) (p:=p) (K1 s) (A:=B) (by lia) c
  exact{_,by unfold Bx;change (gK M.ws p.2).map Aj=G;change Dj (BJ M.ws p.2.n)=N;simp![],_,e,_,_,_,_,_,rfl}
 rw[ŏ]at e
 have gt:Cs (Aw (AU Ae Af 3<|AA 0)<|AU A8 Aa 4<|AA 0) (AW (AA 1)<|mC<|.int 0) [↑S,↑(AS M.ws.length n),↑(.int (a:Int)),↑(.own []),none,none,none,none,none]=↑(.v (DQ M n.r) false):=by
  have C:AA 0 [↑S,↑(AS M.ws.length n),↑(.int (a:Int)),↑(.own []),none,none,none,none,none]=↑(.v S false):=by simp![j]
  refine GZ (b2:=false) (k.f4 C) ?_ t<|Mq M n.r;have u:=Bl (M.ws.length+1) n.z;have v:=EB n.p;have w:=EB n.k;unfold AS;change zT (M.ws.length+1) n.z=Z;change Bb n.p=P1;change Bb n.k=P2
  simp![u,v,w]
 have l:AX ((B0 n.r 0 M.ds).map (Bx M.ws))=true:=CU λp ϊ=>JF _ p;have m:=AI _ l;unfold DQ at gt;unfold Fh;unfold MJ;refine Fv rfl ?_;show Nb [↑S,↑(AS M.ws.length n),↑(.int (a:Int)),none,none,none,none,none,none]=_;unfold Nb;have z:=FO M.ws.length<|(B0 n.r 0 M.ds).flatMap λp=>(Gn M mo n.z a p).toList
 unfold Kx at e;change ((B0 n.r 0 M.ds).flatMap λp=>(Gn M mo n.z a p).toList).map (AS M.ws.length)=RT;change (B0 n.r 0 M.ds).map (Bx M.ws)=WT;change AS M.ws.length n=NT;refine sq (by simp![];rfl)<|sq (by simp![-Cs,gt,l,m,e];rfl) ?_
 simp![z]
abbrev Rv:Stmt:=BY 80 4
def OI:AG:=
 (m2 BM (AA 0)<|AW (AA 2)<|mC<|.int 0)
def Oo:AG:=
 (AJ DO<|AB (AW (AA 2)<|mC<|.int 1)<|AB (AA 1) AE)
def OH:AG:=
 (m2 (BB true) (AA 0)<|mC .non)
def Om:AG:=
 (AA 0)
def Nf:AH:=
 (AF (A3 (Ax 2 [1] (Au<|AU A8 Aa 0<|AA 0) (Ay 2<|AQ (AD 0)<|AQ (AD 1) BA) OI Oo)<|AD 2)
 (AN<|Ax 1 [] (Au<|AA 2) (AD 0) OH Om))
def Pa:qF->Option Ru:=AZ 2 3 Nf
abbrev i7:=fA 5 2 Rv Pa
abbrev zb0:Gx:={ B9 with cl:=[("Walk",A8,Aa)] }
abbrev zb1:Gm:=gA Rv 4 [("met",Ik)] [] (ox:=zb0)
theorem zb2:Ck zb1 i7 Rv Nf:={}
def G8(m:Nat)(K:List<|Str×List (Nat×Nat×Int)):Prop:=∀k∈K,PyData.strOk k.1=true/\Eh m k.2
def EZ(K:List<|Str×List (Nat×Nat×Int))(n:Nd):List<|Option Db.Z:=(K.filter λk=>decide (k.1=n.r)).map λk=>BD k.2 n.z
def hz_ok{M:Mc}(h:McOk M){K:List<|Str×List (Nat×Nat×Int)}(i:G8 M.ws.length K)(J:K.length<=1000){mo:(Nat->Db.B)×Option Nat}{S:T}(k:WkK M (K.map CV) mo S){n:Nd}(C:PyData.strOk n.r=true)(B:Db.Nar (M.ws.length+1) n.z):Pa [S,AS M.ws.length n]=↑(.ok<|.own<|((EZ K n).filter Option.isSome).map (oT<|M.ws.length+1)):=by
 have H:=h.wl;have F:=k.s;have E:=GJ M.ws.length n;have g:=Bl (M.ws.length+1) n.z;have v:=AO _ g;have p:=EB n.p;have r:=EB n.k
 have Cj:CW (Ay 2<|AQ (AD 0)<|AQ (AD 1) BA) OI Oo (K.map CV) [none,none,↑(AS M.ws.length n)]=↑((EZ K n).map (oT<|M.ws.length+1)):=by
  have c:=Jd (b:=Ay 2<|AQ (AD 0)<|AQ (AD 1) BA) (mt:=OI) (me:=Oo) CV (λk=>oT (M.ws.length+1)<|BD k.2 n.z) (λk=>decide (k.1=n.r)) (λY=>∃x y,Y=[x,y,↑(AS M.ws.length n)]) K [none,none,↑(AS M.ws.length n)] {_,_,rfl} λq j Y d=>by
   let(x,y,rfl):=d;have A:=Hr (i q j).1 C;have mt:=H9 (m:=M.ws.length) (by lia) B (i q j).2
   have t:=Dq q.2;have w:=AI _ t;have a:=ET (M.ws.length+1)<|BD q.2 n.z;refine{[↑(.str q.1),↑(.lst<|q.2.map Aj),↑(AS M.ws.length n)],false,by unfold AS;change zT (M.ws.length+1) n.z=Z;change Bb n.p=P1;change Bb n.k=P2;simp![],?_,λϊ=>?_,_,_,rfl}
   unfold AS OI;change q.2.map Aj=L;change zT (M.ws.length+1) n.z=Z;change Bb n.p=P1;change Bb n.k=P2;change decide (q.1=n.r)=bb
   simp![p,r,g,A]
   unfold AS Oo;generalize oT (M.ws.length+1) (BD q.2 n.z)=σ at *;change q.2.map Aj=L;change zT (M.ws.length+1) n.z=Z;change Bb n.p=P1;change Bb n.k=P2
   simp![p,r,g,v,t,w,mt,a]
  rw[c];unfold EZ;rw[ä];rfl
 have EW:CW (AD 0) OH Om ((EZ K n).map (oT<|M.ws.length+1)) [none]=↑(((EZ K n).filter Option.isSome).map (oT<|M.ws.length+1)):=
  Jd (b:=AD 0) (mt:=OH) (me:=Om) (oT<|M.ws.length+1) (oT<|M.ws.length+1) Option.isSome (λY=>∃x,Y=[x]) (EZ K n) [none] {_,rfl} λo I Y d=>by
   let(x,rfl):=d;have a:=ET (M.ws.length+1) o;have z:=AO _ a;have l:=Gk (M.ws.length+1) o true;have e:(true != o.isNone)=o.isSome:=by cases o<;>rfl
   rw[e]at l;refine{[↑(oT (M.ws.length+1) o)],false,rfl,?_,λϊ=>?_,_,rfl};unfold OH;generalize oT (M.ws.length+1) o=σ at *
   simp![-BB,a,z,l]
   unfold Om;generalize oT (M.ws.length+1) o=σ at *
   simp![a]
 have s:=N3 K;have u:=AI _ s;have D:(K.map CV).length<=100000:=by rw[À];lia
 have f:AX ((EZ K n).map (oT<|M.ws.length+1))=true:=CU λo ϊ=>ET _ o;have c:=AI _ f
 have l1:((EZ K n).map (oT<|M.ws.length+1)).length<=100000:=by
  have:=ŋ (λk:Str×List (Nat×Nat×Int)=>decide (k.1=n.r)) K;unfold EZ;rw[À,À];lia
 have G:∀x2,AA 0 [↑S,↑(AS M.ws.length n),x2]=↑(.v S false):=λϊ=>by simp![F]
 have f0:=λx2=>k.f0<|G x2
 unfold Pa;refine Fv rfl ?_;show Nf [↑S,↑(AS M.ws.length n),none]=_;unfold Nf;change ((EZ K n).filter Option.isSome).map (oT<|M.ws.length+1)=R2;change (EZ K n).map (oT<|M.ws.length+1)=R1;change AS M.ws.length n=NT;change K.map CV=KT;refine sq (by simp![-AU,f0,s,u,D,E,Cj,f,c];rfl) ?_
 simp![f,c,l1,EW]
abbrev Rt:Stmt:=BY 80 5
def UN:AH:=
 (AN<|m2 (C0 λi j=>decide (j<i)) (m1 Bd<|BU A8 Aa Pa (AA 0)<|AB (AA 1) AE)<|mC<|.int 0)
def KN:qF->Option Ru:=AZ 2 2 UN
abbrev VR:=fA 6 2 Rt KN
abbrev zd2:Gx:={ B9 with mt:=[("hit_zones",A8,Aa,i7)] }
abbrev zdf:Gm:=gA Rt 5 [] ["len"] (ox:=zd2)
theorem zdt:Ck zdf VR Rt UN:={}
def CQ(K:List<|Str×List (Nat×Nat×Int))(n:Nd):Bool:=K.any λk=>decide (k.1=n.r) && (BD k.2 n.z).isSome
def zq8(K:List<|Str×List (Nat×Nat×Int))(n:Nd):decide (0<(((EZ K n).filter Option.isSome).length:Int))=CQ K n:=by
 unfold EZ CQ
 induction K with
 |nil=>rfl|cons q K a=>
  rw[ė,<- a,ź];by_cases c:q.1=n.r;rw[Ì c,if_pos rfl,Ö,ź];cases (BD q.2 n.z).isSome with
  |true=>rw[if_pos rfl,ñ];simp|false=>simp
  rw[Ý c];simp
def Uq{M:Mc}(h:McOk M){K:List<|Str×List (Nat×Nat×Int)}(i:G8 M.ws.length K)(q:K.length<=1000){mo:(Nat->Db.B)×Option Nat}{S:T}(k:WkK M (K.map CV) mo S){n:Nd}(l:PyData.strOk n.r=true)(j:Db.Nar (M.ws.length+1) n.z):KN [S,AS M.ws.length n]=↑(.ok<|.bl<|CQ K n):=by
 have m:=hz_ok h i q k l j;have c:=k.s;have g:=AO _ c;have b:=GJ M.ws.length n;have e:=AO _ b;have p:=k.i;have le:=zq8 K n;have a:AX (((EZ K n).filter Option.isSome).map (oT<|M.ws.length+1))=true:=CU λo ϊ=>ET _ o
 have d:=AI _ a;rw[<- À (f:=oT<|M.ws.length+1)]at le;unfold KN UN;change ((EZ K n).filter Option.isSome).map (oT<|M.ws.length+1)=R2;change AS M.ws.length n=NT;change CQ K n=bb
 simp![-Ao,c,g,b,e,p,m,a,d,le]
abbrev RC:Stmt:=AK 81
def Lj:AG:=
 (BU A8 Aa KN (AA 1)<|AB (AA 0) AE)
def JL:AG:=
 (m2 (C0 λi j=>decide (i<j)) (AA 4)<|m1 Bd<|AA 3)
def FC:AH:=
 (AF (A4 (AJ PN<|AB (AA 3)<|AB (AA 5) AE) Mv Ab)
 (AF (A4 (m2 (C0 λi j=>decide (j<=i)) (m1 Bd<|AA 3)<|AA 1) (C4 "TooMany"<|AB (mC<|.str "the search would list more nodes than told") AE) Ab)
 (AF (DJ 3<|AA 5)
 (A4 (Cc (AA 2)<|BU A8 Aa KN (AA 0)<|AB (AA 5) AE) (AN<|AA 3) Ab))))
def K4:AH:=
 (AF (Bc (Au<|BU A8 Aa MJ (AA 0)<|AB (AW (AA 3)<|AA 4)<|AB (AA 4) AE) (AD 5) FC)
 (Kl 4<|mC<|.int 1))
def J7:AH:=
 (AF (Cb 3<|BU A8 Aa ML (AA 0) AE)
 (AF (A4 (Dp 3<|Cc (AA 2)<|m1 Hx<|Ax 1 [0] (Au<|AA 3) (AD 0) (mC<|.bl true) Lj) (AN<|AA 3) Ab)
 (AF (A3 (mC<|.int 0)<|AD 4)
 (AF (Em JL K4)
 (AN<|AA 3)))))
def Hz:qF->Option Ru:=AZ 3 6 J7
abbrev iE:=fA 7 3 RC Hz
abbrev zgo:Gx:={ B9 with mt:=[("first_nodes",A8,Aa,i8),("hits",A8,Aa,VR),("next_nodes",A8,Aa,i6)] }
abbrev zgt:Gm:=gA RC 6 [("is_covered",iM)] ["any","len"] ["nodes"] (ex:=["TooMany"]) (ox:=zgo) (mv:=["nodes"]) (N:=["walk","most","ends","nodes","at","node"])
theorem zh9:Ck zgt iE RC J7:={}
def wh_ex{mc:AG}{body:AH}(I:AM->Prop)(Q:Out->Prop)(μ:AM->Nat){Y:AM}(f:I Y)(i:∀Y,I Y->(∃bb,mc Y=↑(.v (.bl true) bb)/\((∃τ2,body Y=↑(.nx τ2)/\I τ2/\μ τ2<μ Y)\/(∃t,body Y=↑(.rt t)/\Q (.rt t))\/∃c τ2,body Y=↑(.xc c τ2)/\Q (.xc c τ2)))\/∃bb,mc Y=↑(.v (.bl false) bb)/\Q (.nx Y)):∃o,Em mc body Y=↑o/\Q o:=by
 have d:∀(n:Nat) (Y:AM),μ Y<n->I Y->∃o,Cz mc body n Y=↑o/\Q o:=by
  intro n
  induction n with
  |zero=>intro Y h;exact absurd h (Nat.not_lt_zero _)|succ n k=>
   intro Y l g;unfold Cz;rcases i Y g with ⟨bb,a,⟨τ2,b,j,m⟩|⟨t,b,q⟩|⟨c,τ2,b,q⟩⟩|⟨bb,a,q⟩;erw[a,b];exact k τ2 (by lia) j;erw[a,b];exact{_,rfl,q};erw[a,b];exact{_,rfl,q};erw[a];exact{_,rfl,q}
 let(o,e,q):=d (μ Y+1) Y (by lia) f;exact{o,Y2 e,q}
def Uy{α:Type}{b:T->AM->Option AM}{body:AH}(f:α->T)(I:List α->AM->Prop)(Q:Out->Prop):∀(L D:List α) (Y:AM),I D Y->(∀x∈L,∀D Y,I D Y->∃τ1,b (f x) Y=↑τ1/\((∃τ2,(body τ1=↑(.nx τ2)\/body τ1=↑(.ct τ2))/\I (D++[x]) τ2)\/(∃t,body τ1=↑(.rt t)/\Q (.rt t))\/∃c τ2,body τ1=↑(.xc c τ2)/\Q (.xc c τ2)))->(∃Y',BK b body (L.map f) Y=↑(.nx Y')/\I (D++L) Y')\/(∃t,BK b body (L.map f) Y=↑(.rt t)/\Q (.rt t))\/∃c τ2,BK b body (L.map f) Y=↑(.xc c τ2)/\Q (.xc c τ2)
 |[],D,Y,h,ϊ=>.inl {Y,rfl,by rw[è];exact h}|x::L,D,Y,h,d=>by
  let(τ1,i,k):=d x (Ï ..) D Y h;rw[Ö];unfold BK;rw[i];rcases k with ⟨τ2,a|a,g⟩|⟨t,a,q⟩|⟨c,τ2,a,q⟩;erw[a];have:=Uy f I Q L (D++[x]) τ2 g λy e=>d y<|Í _ e
  rwa[ú]at this;erw[a];have:=Uy f I Q L (D++[x]) τ2 g λy e=>d y<|Í _ e
  rwa[ú]at this;erw[a];exact .inr<|.inl {(t),rfl,q}
  erw[a];exact .inr<|.inr {(c),τ2,rfl,q}
structure NdOk(M:Mc)(mo:(Nat->Db.B)×Option Nat)(n:Nd):Prop where
 r:n.r∈M.nm
 z:Db.Nar (M.ws.length+1) n.z
 a:∃f,Db.Nar (M.ws.length+1) f/\DF M mo n.r f=↑n.z
def lF{M:Mc}{mo:(Nat->Db.B)×Option Nat}{x:Str}{f z:Db.Z}(c:∀p∈mo.2,0<p/\p<M.ws.length+1)(e:DF M mo x f=↑z):Db.Nar (M.ws.length+1) z:=by
 unfold DF at e;let(h,_,e):=ĝ.mp e;let(g,_,e):=ĝ.mp e;let(y,b,rfl):=Ú.mp e;have a:=Sv b;unfold L8;cases d:mo.2 with
 |none=>exact a|some p=>exact Dm.frd_nar a (c p d).1
def zqh{M:Mc}(h:McOk M){mo:(Nat->Db.B)×Option Nat}(b:∀p∈mo.2,0<p/\p<M.ws.length+1):∀n∈C8 M mo,NdOk M mo n:=λn a=>by
 unfold C8 at a;cases e:DF M mo (M.nm.headD "") nN with
 |none=>rw[e]at a;cases a|some z=>rw[e]at a;rw[È.mp a];exact{NY h,lF b e,nN,J4 _,e}
def zp7{M:Mc}(h:McOk M){mo:(Nat->Db.B)×Option Nat}(d:∀p∈mo.2,0<p/\p<M.ws.length+1){n:Nd}(f:Db.Nar (M.ws.length+1) n.z){a:Nat}:∀s∈Fh M mo n a,NdOk M mo s:=λs b=>by
 let(p,i,b):=Ĕ.mp b;have b:=Option.mem_toList.mp b;let(z,e,rfl):=Ú.mp b;let(g,c,e):=ĝ.mp e;have D:=h.d _<|K1 i;exact{D.e,lF d e,_,Kt (Ha f (IS D.g) c) _,e}
def XN(M:Mc)(mo:(Nat->Db.B)×Option Nat)(L:List Nd)(a:Nat):Prop:=∀i n,i<a->L[i]?=↑n->∀s∈Fh M mo n i,E1 M.ws.length L s=true
def j8{m:Nat}{L:List Nd}{s:Nd}(A:List Nd)(e:E1 m L s=true):E1 m (L++A) s=true:=by
 unfold E1 at *;rw[List.any_append,e];rfl
def Pm(M:Mc)(mo:(Nat->Db.B)×Option Nat)(L:List Nd):Prop:=C8 M mo <+: L/\(C8 M mo=[]->L=[])
structure Lst45(M:Mc)(K:List<|Str×List (Nat×Nat×Int))(mo:(Nat->Db.B)×Option Nat)(L:List Nd):Prop where
 ok:∀n∈L,NdOk M mo n
 fr:Pm M mo L
 hit:(∃n,L.getLast?=↑n/\CQ K n=true)\/((∀n∈L,CQ K n=false)/\XN M mo L L.length)
abbrev CP(m:Nat)(S:T)(mx:Nat)(L:List Nd)(a:Nat)(x:qB):AM:=[↑S,↑(.int (mx:Int)),↑(.bl true),↑(.own<|L.map<|AS m),↑(.int (a:Int)),x]
def zlm{M:Mc}(h:McOk M){K:List<|Str×List (Nat×Nat×Int)}(w:G8 M.ws.length K)(C:K.length<=1000){mo:(Nat->Db.B)×Option Nat}{S:T}(k:WkK M (K.map CV) mo S){mx:Nat}{L:List Nd}(y:∀n∈L,NdOk M mo n)(E:L.length<100000){a:Nat}{s:Nd}(l:NdOk M mo s) :
  (E1 M.ws.length L s=true->FC (CP M.ws.length S mx L a<|↑(AS M.ws.length s))=↑(.ct<|CP M.ws.length S mx L a<|↑(AS M.ws.length s)))/\(E1 M.ws.length L s=false->(mx<=L.length->∃Y,FC (CP M.ws.length S mx L a<|↑(AS M.ws.length s))=↑(.xc "TooMany" Y))/\(L.length<mx->(CQ K s=true->FC (CP M.ws.length S mx L a<|↑(AS M.ws.length s))=↑(.rt<|.own<|(L++[s]).map (AS M.ws.length)))/\(CQ K s=false->FC (CP M.ws.length S mx L a<|↑(AS M.ws.length s))=↑(.nx<|CP M.ws.length S mx (L++[s]) a<|↑(AS M.ws.length s))))):=by
 have tn:∀x∈M.nm,PyData.strOk x=true:=λx B=>h.tn x B;have g:=zq2 (m:=M.ws.length) (L:=L) (n:=s) (by lia) (λo A=>tn _ (y o A).r)<|tn _ l.r
 have j:=Uq h w C k (tn _ l.r) l.z;have r:=k.s;have t:=AO _ r;have b:=GJ M.ws.length s;have e:=AO _ b;have i:=FO M.ws.length L;have f:=AI _ i;have u:=k.i;have D:(L.map<|AS M.ws.length).length=L.length:=À _;have l1:(L.map<|AS M.ws.length).length<100000:=by lia
 have p:=FO M.ws.length<|L++[s];have v:(L++[s]).map (AS M.ws.length)=L.map (AS M.ws.length)++[AS M.ws.length s]:=ß;unfold CP;rw[v]at p ⊢;change L.map (AS M.ws.length)=LT;change AS M.ws.length s=ST;unfold FC;refine{λc=>?_,λc=>?_}
 rw[c]at g
 simp![i,f,b,e,g]
 rw[c]at g;refine{λq=>?_,λq=>?_};have d:decide ((mx:Int)<=(LT.length:Int))=true:=Ì<|by lia
 refine{_,Fd (by simp![i,f,b,e,g]) (by simp![f,d];rfl)};have d:decide ((mx:Int)<=(LT.length:Int))=false:=Ý<|by lia
 refine{λz=>?_,λz=>?_};rw[z]at j;refine Fd (by simp![i,f,b,e,g])<|Fd (by simp![f,d])<|sq (by simp![b,e,l1];rfl) ?_
 simp![-Ao,r,t,b,e,u,j,p]
 rw[z]at j;refine Fd (by simp![i,f,b,e,g])<|Fd (by simp![f,d])<|sq (by simp![b,e,l1];rfl) ?_
 simp![-Ao,r,t,b,e,u,j,p]
def zjs(n:Nat)(f:Db.Z):E5 n f f=true:=by
 unfold E5;exact @decide_eq_true _ (Classical.propDecidable _) λi j ϊ ϊ=>Db.le_refl _
def zja{m:Nat}(L:List Nd)(s:Nd):E1 m (L++[s]) s=true:=by
 unfold E1;rw[List.any_append,ė,Ì rfl,zjs];simp
def QL(M:Mc)(K:List<|Str×List (Nat×Nat×Int))(mo:(Nat->Db.B)×Option Nat)(S:T)(mx:Nat):Out->Prop
 |.rt t=>∃L,t=.own (L.map<|AS M.ws.length)/\L.length<=max mx 1/\Lst45 M K mo L|.xc c ϊ=>c="TooMany"|.nx Y=>∃L a x,Y=CP M.ws.length S mx L a x/\L.length<=max mx 1/\Lst45 M K mo L|ϊ=>False
def zph{M:Mc}(h:McOk M){K:List<|Str×List (Nat×Nat×Int)}(H:G8 M.ws.length K)(J:K.length<=1000){mo:(Nat->Db.B)×Option Nat}{S:T}(k:WkK M (K.map CV) mo S){mx:Nat}(Q:mx<=1000){L:List Nd}(I:∀n∈L,NdOk M mo n)(fr:Pm M mo L)(ne:C8 M mo≠[])(O:∀n∈L,CQ K n=false)(N:L.length<=max mx 1){a:Nat}(W:List Nd)(r:∀s∈W,NdOk M mo s)(x:qB) :
  (∃A y,BK (AD 5) FC (W.map<|AS M.ws.length) (CP M.ws.length S mx L a x)=↑(.nx<|CP M.ws.length S mx (L++A) a y)/\(∀n∈L++A,NdOk M mo n)/\(∀n∈L++A,CQ K n=false)/\(L++A).length<=max mx 1/\∀s∈W,E1 M.ws.length (L++A) s=true)\/(∃t,BK (AD 5) FC (W.map<|AS M.ws.length) (CP M.ws.length S mx L a x)=↑(.rt t)/\QL M K mo S mx (.rt t))\/∃c τ2,BK (AD 5) FC (W.map<|AS M.ws.length) (CP M.ws.length S mx L a x)=↑(.xc c τ2)/\QL M K mo S mx (.xc c τ2):=by
 have o:=Uy (b:=AD 5) (body:=FC) (AS M.ws.length) (λD Y=>∃A y,Y=CP M.ws.length S mx (L++A) a y/\(∀n∈L++A,NdOk M mo n)/\(∀n∈L++A,CQ K n=false)/\(L++A).length<=max mx 1/\∀s∈D,E1 M.ws.length (L++A) s=true) (QL M K mo S mx) W [] (CP M.ws.length S mx L a x) {[],x,by rw[è],by rw[è];exact I,by rw[è];exact O,by rw[è];exact N,λs g=>by cases g} λs g D Y G=>by
  let(A,y,rfl,i,j,m,l):=G;let(v,w):=zlm h H J k (mx:=mx) i (by lia) (a:=a)<|r s g
  refine{CP M.ws.length S mx (L++A) a<|↑(AS M.ws.length s),rfl,?_};cases c:E1 M.ws.length (L++A) s with
  |true=>
   refine .inl {_,.inr<|v c,A,_,rfl,i,j,m,λp d=>?_};rcases Ø.mp d with d|d;exact l p d;rw[È.mp d];exact c
  |false=>
   let(B,C):=w c;by_cases q:mx<=(L++A).length;let(τ2,e):=B q;exact .inr<|.inr {_,_,e,rfl}
   let(E,F):=C<|by lia
   have u:(L++A++[s]).length<=max mx 1:=by
    rw[Ü];show _+1<=_
    lia
   have o2:∀n∈L++A++[s],NdOk M mo n:=λn f=>by
    rcases Ø.mp f with f|f;exact i n f;rw[È.mp f];exact r s g
   cases z:CQ K s with
   |true=>exact .inr (.inl {_,E z,_,rfl,u,o2,by rw[ú];exact{List.IsPrefix.trans fr.1 (List.prefix_append ..),λz=>absurd z ne},.inl {s,by simp,z}})|false=>
    refine .inl {_,.inl<|F z,A++[s],_,by rw[<- ú],by rw[<- ú];exact o2,?_,by rw[<- ú];exact u,λp d=>?_};rw[<- ú];intro n f;rcases Ø.mp f with f|f;exact j n f;rw[È.mp f];exact z;rw[<- ú];rcases Ø.mp d with d|d;exact j8 _<|l p d
    rw[È.mp d];exact zja _ _
 rcases o with ⟨P,e,A,y,rfl,i,j,m,l⟩|q;exact .inl {A,y,e,i,j,m,λs g=>l s (by rw[ŏ];exact g)};exact .inr q
def ls_wh{M:Mc}(h:McOk M){K:List<|Str×List (Nat×Nat×Int)}(Q:G8 M.ws.length K)(Z:K.length<=1000){mo:(Nat->Db.B)×Option Nat}{S:T}(k:WkK M (K.map CV) mo S){mx:Nat}(V:mx<=1000){L:List Nd}(R:∀n∈L,NdOk M mo n)(fr:Pm M mo L)(nh:∀n∈L,CQ K n=false)(ll:L.length<=max mx 1) :
  ∃o,Em JL K4 (CP M.ws.length S mx L 0 none)=↑o/\QL M K mo S mx o:=by
 refine wh_ex (mc:=JL) (body:=K4) (λY=>∃L a x,Y=CP M.ws.length S mx L a x/\(∀n∈L,NdOk M mo n)/\Pm M mo L/\(∀n∈L,CQ K n=false)/\L.length<=max mx 1/\a<=L.length/\XN M mo L a) (QL M K mo S mx) (λY=>match Y with|[ϊ,ϋ,ό,ύ,↑(.int a),ώ]=>max mx 1+1 - a.toNat|ϊ=>0) {L,0,none,rfl,R,fr,nh,ll,ò _,λi n U=>by lia} λY P=>?_;let(L,a,x,rfl,b,f,p,u,h5,v):=P;have D:=k.s;have H:=AO _ D;have B:=FO M.ws.length L;have m:=AI _ B;have X:=k.i;have e1:(L.map<|AS M.ws.length).length=L.length:=À _
 by_cases c:a<L.length;left;have d:decide ((a:Int)<((L.map<|AS M.ws.length).length:Int))=true:=Ì<|by lia
 refine{false,by unfold JL CP;change L.map (AS M.ws.length)=LT;simp![m,d],?_};have w:=b _<|ç c;have nx:=zp6 h k w.r w.z a;have C:=GJ M.ws.length L[a];have G:=AO _ C;have Hw:Ar (L.map<|AS M.ws.length) (a:Int)=↑(AS M.ws.length L[a]):=G2 (by rw[Î,Á c];rfl)
 have E:=FO M.ws.length<|Fh M mo L[a] a;have I:=AI _ E
 have ne:C8 M mo≠[]:=λz=>by
  rw[f.2 z]at c;exact absurd c<|Nat.not_lt_zero _
 have lf:=zph h Q Z k V b f ne p u (a:=a) (Fh M mo L[a] a) (λs g=>zp7 h k.p (b _<|ç _).z s g) x
 have head:∀r,BK (AD 5) FC ((Fh M mo L[a] a).map (AS M.ws.length)) (CP M.ws.length S mx L a x)=↑r->Bc (Au<|BU A8 Aa MJ (AA 0)<|AB (AW (AA 3)<|AA 4)<|AB (AA 4) AE) (AD 5) FC (CP M.ws.length S mx L a x)=↑r:=λr J=>by
  unfold CP at *;change (Fh M mo L[a] a).map (AS M.ws.length)=WT;change AS M.ws.length L[a]=NT;change L.map (AS M.ws.length)=LT
  simp![-Ao,D,H,X,B,Hw,C,G,nx,E,I,J]
 unfold K4;rcases lf with ⟨A,y,e,g1,g2,N,O⟩|⟨t,e,q⟩|⟨F,l,e,q⟩;left;refine{CP M.ws.length S mx (L++A) (a+1) y,sq (head _ e) ?_,{L++A,a+1,y,rfl,g1,{List.IsPrefix.trans f.1 (List.prefix_append ..),λz=>absurd z ne},g2,N,by rw[Ü];lia,λi n U j s g=>?_},?_};unfold CP;change (L++A).map (AS M.ws.length)=LT
 simp![Kl]
 rfl;by_cases W:i<a;refine j8 _<|v i n W ?_ s g;rw[<- j,ô<|by lia]
 have:i=a:=by lia
 subst this;rw[ô c,Á c]at j;cases j;exact O s g;show max mx 1+1 - ((a+1:Nat):Int).toNat<max mx 1+1 - (a:Int).toNat;rw[Ĉ,Ĉ];lia;right;left;exact{t,by unfold AF;rw[head _ e],q};right;right;exact{F,l,by unfold AF;rw[head _ e],q};right;have d:decide ((a:Int)<((L.map<|AS M.ws.length).length:Int))=false:=Ý<|by lia
 have:a=L.length:=by lia
 subst this;refine{false,by unfold JL CP;change L.map (AS M.ws.length)=LT;simp![m,d],L,_,x,rfl,u,b,f,.inr {(p),v}}
def zni{k n:Nat}{u:AH}{ts:qF}{c:Str}{Y:AM}(hk:ts.length=k)(h:u (ts.map some++List.replicate (n - ts.length) none)=↑(.xc c Y)):AZ k n u ts=↑(.exc c):=by
 subst hk;unfold AZ Kn;simp[h]
def zpg{M:Mc}(h:McOk M){K:List<|Str×List (Nat×Nat×Int)}(p:G8 M.ws.length K)(v:K.length<=1000){mo:(Nat->Db.B)×Option Nat}{S:T}(k:WkK M (K.map CV) mo S){mx:Nat}(C:mx<=1000) :
  Hz [S,.int (mx:Int),.bl true]=↑(.exc "TooMany")\/∃L,Hz [S,.int (mx:Int),.bl true]=↑(.ok<|.own<|L.map<|AS M.ws.length)/\L.length<=max mx 1/\Lst45 M K mo L:=by
 have f:=k.s;have g:=AO _ f;have u:=k.i;have fs:=zqe h k;have fo:=zqh h (mo:=mo) k.p
 have one:∃b:Bool,(b=(C8 M mo).any (CQ K))/\Dp 3 (Cc (AA 2)<|m1 Hx<|Ax 1 [0] (Au<|AA 3) (AD 0) (mC<|.bl true) Lj) [↑S,↑(.int (mx:Int)),↑(.bl true),↑(.own<|(C8 M mo).map (AS M.ws.length)),none,none]=↑(.v (.bl b) false):=by
  unfold C8 at fo ⊢;cases e:DF M mo (M.nm.headD "") nN with
  |none=>
   refine{false,rfl,?_};show Dp 3 _ [↑S,↑(.int (mx:Int)),↑(.bl true),↑(.own []),none,none]=_;have l:CW (AD 0) (mC<|.bl true) Lj [] [none,↑S]=↑[]:=rfl
   simp![Dp,T.lnd,GO,T.lend,Hh,T.noR,f,g,l,List.any_nil]
   rfl
  |some z=>
   rw[e]at fo;have o:=fo _<|È.mpr rfl;have B:=Uq h p v k (n:={M.nm.headD "",z,none,none}) (h.tn _ o.r) o.z;have i:=GJ M.ws.length {M.nm.headD "",z,none,none};have m:=AO _ i;refine{CQ K {M.nm.headD "",z,none,none},by simp,?_}
   show Dp 3 _ [↑S,↑(.int (mx:Int)),↑(.bl true),↑(.own [AS M.ws.length {M.nm.headD "",z,none,none}]),none,none]=_
   have D:(AS M.ws.length {M.nm.headD "",z,none,none}).lnd=true:=by
    have:=i;unfold AS at this ⊢;rw[T.sh]at this;rw[T.lnd];exact(ğ.mp this).2
   have le:(AS M.ws.length {M.nm.headD "",z,none,none}).lend=AS M.ws.length {M.nm.headD "",z,none,none}:=rfl;change CQ K {M.nm.headD "",z,none,none}=b;change AS M.ws.length {M.nm.headD "",z,none,none}=ST
   have l:CW (AD 0) (mC<|.bl true) Lj [ST] [none,↑S]=↑[.bl b]:=by
    unfold CW Lj
    simp![-Ao,f,g,i,m,u,B,CW]
   cases b<;>(simp![Dp,T.lnd,GO,T.lend,Hh,T.noR,f,g,i,m,D,le,l];rfl)
 let(b,s,lt):=one
 have fl:(C8 M mo).length<=1:=by
  unfold C8;cases DF M mo (M.nm.headD "") nN with
  |none=>exact ò _|some z=>exact Ä _
 have y:=FO M.ws.length<|C8 M mo;have G:=AI _ y
 have w:Cb 3 (BU A8 Aa ML (AA 0) AE) [↑S,↑(.int (mx:Int)),↑(.bl true),none,none,none]=↑(.nx [↑S,↑(.int (mx:Int)),↑(.bl true),↑(.own<|(C8 M mo).map (AS M.ws.length)),none,none]):=by
  change (C8 M mo).map (AS M.ws.length)=FT
  simp![-Ao,f,g,u,fs]
 cases b with
 |true=>
  right;refine{C8 M mo,?_,by lia,fo,{List.prefix_refl _,id},.inl ?_};unfold Hz;refine Fv rfl ?_;show J7 [↑S,↑(.int (mx:Int)),↑(.bl true),none,none,none]=_;unfold J7;refine sq w<|sr ?_;unfold A4;rw[lt];change (C8 M mo).map (AS M.ws.length)=FT
  simp![y]
  let(n,d,hh):=ø.mp s.symm
  match hf:C8 M mo,d,fl with
  |[q],d,ϊ=>rw[È.mp d]at hh;exact{(q),rfl,hh}
 |false=>
  have E:∀n∈C8 M mo,CQ K n=false:=λn d=>by
   cases c:CQ K n with
   |false=>rfl|true=>exact absurd (ø.mpr {(n),d,c}) (by rw[<- s];decide)
  let(o,e,q):=ls_wh h p v k C fo {List.prefix_refl _,id} E<|by lia
  have pre:∀r,AF (Em JL K4) (AN<|AA 3) (CP M.ws.length S mx (C8 M mo) 0 none)=r->J7 [↑S,↑(.int (mx:Int)),↑(.bl true),none,none,none]=r:=λr A=>by
   unfold J7;refine sq w<|Fd ?_<|sq ?_ A
   unfold A4;rw[lt];rfl;unfold CP;change (C8 M mo).map (AS M.ws.length)=FT
   simp![]
  cases o with
  |rt t=>let(L,rfl,l1,j):=q;right;refine{L,?_,l1,j};unfold Hz;exact Fv rfl<|pre _ (by unfold AF;rw[e])
  |xc c Y=>have q:c="TooMany":=q;subst q;left;unfold Hz;exact zni rfl (pre _ (by unfold AF;rw[e]))|nx Y=>
   let(L,a,x,rfl,l1,j):=q;right;refine{L,?_,l1,j};have F:=FO M.ws.length L;unfold Hz;refine Fv rfl<|pre _<|sq e ?_;unfold CP;change L.map (AS M.ws.length)=LT
   simp![F]
  |ct Y=>symm|bk Y=>symm
abbrev YY:Stmt:=BY 80 0
def Nc:AH:=
 (AF (CN A8 Aa 0 0<|AJ G3<|AB (AA 1)<|AB (AA 2) AE)
 (AF (CN A8 Aa 1 0<|AJ MF<|AB (AA 1)<|AB (AA 2) AE)
 (AF (CN A8 Aa 2 0<|AW (BU Ac Ad E3 (AA 1) AE)<|mC<|.int 0)
 (AF (CN A8 Aa 3 0<|AJ Lw<|AB (AA 1) AE)
 (AF (CN A8 Aa 4 0<|AJ MI<|AB (AA 1) AE)
 (AF (CN A8 Aa 5 0<|mC .non)
 (A4 (m2 (BB true) (AA 3)<|mC .non) (AF (Km (CN A8 Aa 5 0<|BU Ac Ad HF (AA 1)<|AB (AA 3) AE)<|JS A8 Aa 5 0<|BU Ac Ad HF (AA 1)<|AB (AA 3) AE)
 (Kj A8 Aa 1 0 (m2 Fc (Aw (AU A8 Aa 5<|AA 0)<|LI A8 Aa 5 0)<|mC<|.int 1)<|mC .non)) Ab)))))))
def Wl:qF->Option Ru:=E7 A8 Aa 4 4 Nc
abbrev VQ:Fn:={10,["self","machine","goal","free"],Wl}
abbrev zd1:Gx:={ B9 with cl:=[("Walk",A8,Aa)],mt:=[("rooms",Ac,Ad,Hq),("watch_number",Ac,Ad,O0)],sf:=↑(A8,Aa) }
abbrev zde:Gm:=gA YY 9 [("placed_goal",OP),("greatest",iQ),("placed_stays",VG),("doors_out",VP)] [] (ox:=zd1)
theorem zds:Ck zde VQ YY Nc:={}
def LY{c:AG}{a b:AH}{Y:AM}{r:Option Out}(h:c Y=↑(.v (.bl true) false))(d:a Y=r):A4 c a b Y=r:=by
 unfold A4;rw[h];exact d
def LZ{c:AG}{a b:AH}{Y:AM}{r:Option Out}(h:c Y=↑(.v (.bl false) false))(d:b Y=r):A4 c a b Y=r:=by
 unfold A4;rw[h];exact d
def LQ{n a:Nat}(h:a<n):Bk n (a:Int)=↑a:=by
 unfold Bk;simp_all
def Bz(M:Mc)(gl:List<|Str×qF):List<|Str×List (Nat×Nat×Int):=gl.map λg=>(g.1,g.2.map<|Eo M.ws)
def FV(M:Mc)(gl:List<|Str×qF):Nat->Db.B:=λi=>↑(By (M.ws.getD i Str.empty) (FA M gl).flatten)
def Cr(M:Mc)(gl:List<|Str×qF):Option Nat->(Nat->Db.B)×Option Nat
 |none=>(FV M gl,none)|some j=>(λi=>if i=j then none else FV M gl i,↑(j+1))
def DE(M:Mc):Option Nat->T
 |none=>.non|some j=>.str<|M.ws.getD j Str.empty
def zmk{M:Mc}(h:McOk M){gl:List<|Str×qF}(m:Dy M.ws (M.rs.map (·.1)) gl)(D:gl.length<=1000){o:Option Nat}(O:∀j∈o,j<M.ws.length):Wl [A9 M,.lst<|gl.map AL,DE M o]=↑(.ok<|HG M ((Bz M gl).map CV)<|Cr M gl o):=by
 have b:=GN h;have em:=AO _ b;have nd:M.nm.Nodup:=h.r.nd;have l1:=h.r.l1;have R:M.nm.length=M.rs.length:=À _;have E:E3 [A9 M]=↑(.ok<|.own<|M.nm.map T.str):=IZ h;have ps:=ZA h;have B:=jZ h;have pg:G3 [A9 M,.lst<|gl.map AL]=↑(.ok<|.own<|gl.map λg=>.tup [.str g.1,.lst<|g.2.map<|Ba M.ws]):=Sl h m D
 have u:MF [A9 M,.lst<|gl.map AL]=↑(.ok<|.own<|Eb M.ws λx=>By x (FA M gl).flatten):=gr_ok h m D;have f:=m.sh;have l:=AI _ f
 let(a,C,N):∃a,Ar (M.nm.map T.str) 0=↑(.str a)/\M.nm.headD ""=a:=by
  cases e:M.nm with
  |nil=>rw[e,ģ]at R;lia|cons a r=>exact{a,G2 rfl,rfl}
 have q:(gl.map λg=>T.tup [.str g.1,.lst<|g.2.map<|Ba M.ws])=(Bz M gl).map CV:=by
  unfold Bz;rw[ä];refine ÿ λg v=>?_;show T.tup [.str g.1,.lst<|g.2.map<|Ba M.ws]=.tup [.str g.1,.lst<|(g.2.map<|Eo M.ws).map Aj];rw[NF (m g v).2.1]
 have s:(Eb M.ws λx=>By x (FA M gl).flatten)=mT M.ws.length λi=>bT<|FV M gl i:=by
  refine Es (À _) λi d=>?_;rw[Î,Á d];unfold FV;rw[Þ,Á d];rfl
 rw[q]at pg;rw[s]at u;have S:=N3<|Bz M gl;have F:=AI _ S;have U:AX (mT M.ws.length λi=>bT<|FV M gl i)=true:=Fu λi=>Jw _
 have G:=AI _ U;have n:BP (M.nm.map λx=>T.own<|(An M.ws M.rs x).map Aj)=M.nm.map (DI M):=JO _ _ (λx=>by rw[T.share,AI _<|Dq _];rfl) _
 have H:BP (Bo M M.ds.length)=M.nm.map (DQ M):=JO _ _ (λx=>by rw[ē,T.share,AI _<|CU λp ϊ=>JF _ p];rfl) _;have V:AX (mT M.ws.length λi=>bT<|(Cr M gl o).1 i)=true:=Fu λi=>Jw _;have I:=AI _ V;have W:=EB (Cr M gl o).2;have J:=AO _ W;refine Mx λp=>?_
 have A:Nc [↑(.oob p A8 Aa []),↑(A9 M),↑(.lst<|gl.map AL),↑(DE M o)]=↑(.nx [↑(.oob p A8 Aa [.own<|(Bz M gl).map CV,.own<|mT M.ws.length λi=>bT<|(Cr M gl o).1 i,.str a,.osd M.nm<|M.nm.map λx=>.own<|(An M.ws M.rs x).map Aj,.osd M.nm<|Bo M M.ds.length,Bb (Cr M gl o).2]),↑(A9 M),↑(.lst<|gl.map AL),↑(DE M o)]):=by
  unfold Nc;change (M.nm.map λx=>T.own<|(An M.ws M.rs x).map Aj)=SS;generalize Bo M M.ds.length=τ at *;change (Bz M gl).map CV=MK;cases o with
  |none=>
   show _=↑(Out.nx [↑(.oob p A8 Aa [.own MK,.own<|mT M.ws.length λi=>bT<|FV M gl i,.str a,.osd M.nm SS,.osd M.nm τ,.non]),↑(A9 M),↑(.lst<|gl.map AL),↑.non]);unfold DE;change (mT M.ws.length λi=>bT<|FV M gl i)=MO;change gl.map AL=GT;refine sq (by simp![b,em,f,l,pg];rfl)<|sq (by simp![b,em,f,l,u];rfl)<|sq (by simp![-Ao,FX,b,em,E,C,BX,Av];rfl)<|sq (by simp![b,em,ps];rfl)<|sq (by simp![b,em,B];rfl)<|sq (by simp![];rfl) ?_
   simp![]
  |some j=>
   have y:j<M.ws.length:=O j rfl;let(w,t):∃w,M.ws[j]=w:={_,rfl};have P:w∈M.ws:=t▸ç y
   have Q:CI M.ws w=↑j:=by
    let(k,e,hk,n):=Hm P;rw[e,(ö h.wd).mp (n.trans t.symm)]
   have X:HF [A9 M,.str w]=↑(.ok<|.int<|(j:Int)+1):=TJ h Q
   have K:DE M ↑j=.str w:=by
    show T.str (M.ws.getD j Str.empty)=.str w;rw[Þ,Á y,t];rfl
   have z:Bk (mT M.ws.length λi=>bT<|FV M gl i).length ((j:Int)+1 - 1)=↑j:=by
    rw[Bj,Int.add_sub_cancel];exact LQ y
   have L:(mT M.ws.length λi=>bT<|FV M gl i).set j .non=mT M.ws.length λi=>bT<|(Cr M gl ↑j).1 i:=by
    refine Es (by rw[Ā,Bj]) λi d=>?_;rw[List.getElem?_set,Bj,ED d];unfold Cr;by_cases c:j=i;subst c;erw[Å,d];rfl;rw[if_neg c];erw[if_neg<|Ë c]
   rw[<- L,K];show _=↑(Out.nx [↑(.oob p A8 Aa [.own MK,.own<|(mT M.ws.length λi=>bT<|FV M gl i).set j .non,.str a,.osd M.nm SS,.osd M.nm τ,.int<|(j:Int)+1]),↑(A9 M),↑(.lst<|gl.map AL),↑(.str w)])
   change (mT M.ws.length λi=>bT<|FV M gl i)=MO;change gl.map AL=GT;refine sq (by simp![b,em,f,l,pg];rfl)<|sq (by simp![b,em,f,l,u];rfl)<|sq (by simp![-Ao,FX,b,em,E,C,BX,Av];rfl)<|sq (by simp![b,em,ps];rfl)<|sq (by simp![b,em,B];rfl)<|sq (by simp![];rfl) ?_
   refine LY (by simp![])<|sq (by simp![-Ao,FX,b,em,X];rfl) ?_
   simp![z]
 unfold Fw;unfold HG Ei;rw[N];show _=↑(Ru.ok<|.obj (.ins A8 Aa) [.lst<|(Bz M gl).map CV,.lst<|mT M.ws.length λi=>bT<|(Cr M gl o).1 i,.str a,.obj (.sdc M.nm)<|M.nm.map<|DI M,.obj (.sdc M.nm)<|M.nm.map<|DQ M,Bb (Cr M gl o).2])
 change (M.nm.map λx=>T.own<|(An M.ws M.rs x).map Aj)=SS;generalize Bo M M.ds.length=τ at *;change (Bz M gl).map CV=MK;change (mT M.ws.length λi=>bT<|(Cr M gl o).1 i)=MO;change Bb (Cr M gl o).2=ON
 simp![A,F,G,n,H,I,J]
abbrev YR:Stmt:=AK 83
def LC:AH:=
 (AF (A3 (Hc Wl []<|AB (AA 0)<|AB (AA 1)<|AB (AA 3) AE)<|AD 4)
 (AF (A3 (AJ Hz<|AB (AA 4)<|AB (AA 2)<|AB (mC<|.bl true) AE)<|AD 5)
 (AN<|Bw<|AB (AA 5)<|AB (Cc (m2 (C0 λi j=>decide (j<i)) (m1 Bd<|AA 5)<|mC<|.int 0)<|BU A8 Aa KN (AA 4)<|AB (AW (AA 5)<|m1 EV<|mC<|.int 1) AE) AE)))
def Fm:qF->Option Ru:=AZ 4 6 LC
abbrev VD:Fn:={12,["machine","goal","most","free"],Fm}
abbrev ze6:Gx:={ B9 with mt:=[("hits",A8,Aa,VR)],nw:=[("Walk",VQ,[(3,[])])] }
abbrev ze9:Gm:=gA YR 11 [("listed",iE)] ["len"] (ox:=ze6)
theorem zeo:Ck ze9 VD YR LC:={}
def k8{α:Type}{l:List α}{d:α}(e:l.getLast?=↑d):Ar l (-1)=↑d:=by
 have b:0<l.length:=by
  cases l with
  |nil=>cases e|cons a r=>simp
 unfold Ar Bk;rw[if_neg (by decide),if_pos (by lia),Č,<- e,List.getLast?_eq_getElem?]
 congr 1
 lia
def GY(K:List<|Str×List (Nat×Nat×Int))(L:List Nd):Bool:=match L.getLast? with
 |some n=>CQ K n|none=>false
def Ux(M:Mc)(o:Option Nat):(DE M o).sh=true:=by cases o<;>rfl
def moF_p(M:Mc)(gl:List<|Str×qF){o:Option Nat}(b:∀j∈o,j<M.ws.length):∀p∈(Cr M gl o).2,0<p/\p<M.ws.length+1:=by
 cases o with
 |none=>exact λp a=>by cases a|some j=>
  intro p a;have:=b j rfl;have e:↑(j+1)=↑p:=a;cases e
  lia
theorem dR{M:Mc}(h:McOk M){gl:List<|Str×qF}(b:Dy M.ws (M.rs.map (·.1)) gl):G8 M.ws.length<|Bz M gl:=λk hk=>by
 let(g,a,rfl):=Ê.mp hk;exact{h.tn _ (b g a).1,IS (b g a).2.1}
def zn6{M:Mc}(h:McOk M){gl:List<|Str×qF}(p:Dy M.ws (M.rs.map (·.1)) gl)(v:gl.length<=1000){mx:Nat}(E:mx<=1000){o:Option Nat}(w:∀j∈o,j<M.ws.length) :
  Fm [A9 M,.lst<|gl.map AL,.int (mx:Int),DE M o]=↑(.exc "TooMany")\/∃L,Fm [A9 M,.lst<|gl.map AL,.int (mx:Int),DE M o]=↑(.ok<|.tup [.lst<|L.map<|AS M.ws.length,.bl<|GY (Bz M gl) L])/\L.length<=max mx 1/\Lst45 M (Bz M gl) (Cr M gl o) L:=by
 have i:=GN h;have f:=Ux M o;have l:=AO _ f;have em:=AO _ i;have g:=p.sh;have m:=AI _ g;have t:=dR h p
 have y:(Bz M gl).length<=1000:=by
  unfold Bz;rw[À];exact v
 have r:=zmk h p v w;have k:=wkK M (N3<|Bz M gl) (Cr M gl o)<|moF_p M gl w;have e:=zpg h t y k (mx:=mx) E;have a:=k.s;have b:=AO _ a;have F:=k.i;generalize H:HG M ((Bz M gl).map CV) (Cr M gl o)=W at *;change DE M o=FR
 rcases e with e|⟨L,e,l1,x⟩;left;change gl.map AL=GT;unfold Fm LC
 simp![i,em,g,m,f,l,r,a,b,e]
 right;refine{L,?_,l1,x};have q:=FO M.ws.length L;have s:=AI _ q;have G:(L.map<|AS M.ws.length).length=L.length:=À _;unfold Fm;refine Fv rfl ?_;show LC [↑(A9 M),↑(.lst<|gl.map AL),↑(.int (mx:Int)),↑FR,none,none]=_;unfold LC GY;cases c:L.getLast? with
 |none=>
  have:L=[]:=List.getLast?_eq_none_iff.mp c;subst this;change gl.map AL=GT;refine sq (by simp![i,em,g,m,f,l,r,a,b];rfl)<|sq (by simp![a,b,e];rfl) ?_
  simp![]
 |some n=>
  have u:n∈L:=ō c;have z:=x.ok n u;have D:=Uq h t y k (h.tn _ z.r) z.z;have A:=GJ M.ws.length n;have C:=AO _ A;have B:Ar (L.map<|AS M.ws.length) (-1)=↑(AS M.ws.length n):=k8 (by rw[List.getLast?_map,c];rfl)
  have d:decide (0<((L.map<|AS M.ws.length).length:Int))=true:=Ì (by
   have:=List.length_pos_of_mem u
   lia)
  show _=↑(Out.rt<|.tup [.lst<|L.map<|AS M.ws.length,.bl<|CQ (Bz M gl) n]);change gl.map AL=GT;change L.map (AS M.ws.length)=LT;change AS M.ws.length n=NT;change CQ (Bz M gl) n=bb;refine sq (by simp![i,em,g,m,f,l,r,a,b];rfl)<|sq (by simp![a,b,e,q,s];rfl) ?_
  simp![-Ao,a,b,F,q,s,d,B,A,C,D]
def Dz(n:Nat)(f g:Db.Z):Prop:=∀i j,i<n->j<n->f i j=g i j
theorem Dz.nar{n:Nat}{f g:Db.Z}(e:Dz n f g)(h:Db.Nar n f):Db.Nar n g:={λi a=>by rw[<- e i i a a];exact h.diag i a,λj b=>by rw[<- e 0 j (by lia) b];exact h.row j b,λi j l a b c=>by rw[<- e i j a b,<- e i l a c,<- e l j c b];exact h.tri i j l a b c}
theorem Dz.symm{n:Nat}{f g:Db.Z}(e:Dz n f g):Dz n g f:=λi j a b=>(e i j a b).symm
theorem Dz.und{n:Nat}{q f g:Db.Z}(e:Dz n f g)(u:Dk.Und n q f):Dk.Und n q g:=λi j a b=>by rw[<- e i j a b];exact u i j a b
theorem Ma{n:Nat}{a b c:Db.Z}(h:Dk.Und n a b)(k:Dk.Und n b c):Dk.Und n a c:=λi j d e=>Db.le_trans (h i j d e)<|k i j d e
def Kz{m:Nat}{L:List<|Nat×Nat×Int}(a:Eh m L){f g:Db.Z}(d:Db.Nar (m+1) f)(e:Dz (m+1) f g){h:Db.Z}(q:BD L f=↑h):∃h',BD L g=↑h'/\Dz (m+1) h h':=by
 have r:=e.nar d;let(o,p,n,u):=(Dk.met_ok _ f d<|Hg a).1 h q;have b:=Dk.met_ok _ g r<|Hg a;cases c:BD L g with
 |none=>exact(b.2 c h o (e.und p) n).elim|some h'=>let(n2,t,s,x2):=b.1 h' c;exact{h',rfl,λi j k l=>Db.le_anti (x2 h o (e.und p) n i j k l)<|u h' n2 (e.symm.und t) s i j k l}
def lB{M:Mc}(h:McOk M)(mo:(Nat->Db.B)×Option Nat){x:Str}{f q:Db.Z}(b:Db.Nar (M.ws.length+1) f)(e:BD (An M.ws M.rs x) f=↑q):∃z,DF M mo x f=↑z/\Dk.Und (M.ws.length+1) q z:=by
 have a:=Gf h x;let(g,d,k,m):=X6 a b e;have fs:=gW k mo.1;have l:=Ha b a e;have c:=De.und_fw l (Ma m λi j ϊ ϊ=>Db.fld_le g (Db.zm mo.1) i j) _<|Ä _
 refine{L8 mo.2<|Db.fw (Db.fld g<|Db.zm mo.1)<|M.ws.length+1,?_,?_};unfold DF Bv;rw[e,Č,d,Č,if_pos fs];rfl;unfold L8;cases mo.2 with
 |none=>exact c|some p=>exact Ma c λi j ϊ ϊ=>Dm.frd_le _ p i j
structure Frd(M:Mc)(mo:(Nat->Db.B)×Option Nat):Prop where
 m:∀x,∀l∈An M.ws M.rs x,l.2.1<2/\0<=l.2.2/\∃k,mo.1 (l.1 - 1)=↑k/\l.2.2<=k
 p:∀p∈mo.2,0<p/\p<M.ws.length+1/\mo.1 (p - 1)=none/\∀x,∀l∈An M.ws M.rs x,l.1≠p
def U9{l b:Nat×Nat×Int}(h:l.2.1<2)(a:b∈Cu l):b.1=l.1/\b.2.1=0/\b.2.2 / 2=l.2.2:=by
 let(p,w,n):=l
 have c:w=0\/w=1:=by
  have:w<2:=h;lia
 rcases c with rfl|rfl;rw[È.mp a];exact{rfl,rfl,by show(2 * n) / 2=n;lia};rw[È.mp a];exact{rfl,rfl,by show(2 * n+1) / 2=n;lia}
def zga{M:Mc}(h:McOk M){mo:(Nat->Db.B)×Option Nat}(F:Frd M mo){x:Str}{f z q:Db.Z}(D:Db.Nar (M.ws.length+1) f)(e:DF M mo x f=↑z)(i:BD (An M.ws M.rs x) (Dm.wtd z)=↑q):Dk.Und (M.ws.length+1) q z:=by
 have n:=Gf h x;let(K,C,e):=ĝ.mp e;let(g,t,e):=ĝ.mp e;let(y,j,rfl):=Ú.mp e;have v:=Ha D n C;have o:=Sv j
 have J:y=Db.fw (Db.fld g<|Db.zm mo.1) (M.ws.length+1):=by
  unfold Bv at j;split at j;exact(Ù j).symm;cases j
 subst J
 have w:De.Ups (M.ws.length+1)<|(An M.ws M.rs x).flatMap Cu:={Hg n,λb a=>by
  let(l,d,a):=Ĕ.mp a;let(m1,m2,_):=F.m x l d;let(s,A,B):=U9 m1 a;have:=(n l d).1
  lia}
 have u:∀b∈(An M.ws M.rs x).flatMap Cu,∃m,Db.zm mo.1 b.1=↑m/\b.2.2 / 2<=m:=λb a=>by
  let(l,d,a):=Ĕ.mp a;let(m1,m2,k,E,L):=F.m x l d;let(s,A,B):=U9 m1 a;have r:=(n l d).1;refine{k,?_,by lia}
  rw[s,show l.1=l.1 - 1+1 by lia];exact E
 unfold L8 at i ⊢;cases c:mo.2 with
 |none=>rw[c]at i;exact De.fold_wait w rfl u v t o i|some p=>
  rw[c]at i;let(r,G,H,I):=F.p p c;refine De.free_wait w rfl u r G (λb a=>?_) ?_ v t o i<|Dm.frd_nar o r
  let(l,d,a):=Ĕ.mp a;let(m1,m2,_):=F.m x l d;rw[(U9 m1 a).1];exact I x l d
  rw[show p=p - 1+1 by lia];exact H
def EL(M:Mc)(L:List Nd)(P:List<|Str×Db.Z):Prop:=(∀p∈P,Bv (M.ws.length+1) p.2=none\/∃n∈L,n.r=p.1/\∃z,Bv (M.ws.length+1) p.2=↑z/\Dz (M.ws.length+1) n.z z)/\∀n∈L,∃p∈P,p.1=n.r/\∃z,Bv (M.ws.length+1) p.2=↑z/\Dz (M.ws.length+1) n.z z
def XT{n:Nat}{P:List<|Str×Db.Z}{x:Str}{z:Db.Z}:z∈BH n P x ↔ ∃p∈P,p.1=x/\Bv n p.2=↑z:=by
 unfold BH;rw[Ē];constructor;rintro⟨p,a,e⟩;exact{p,(ü.mp a).1,í (ü.mp a).2,e};rintro⟨p,a,b,c⟩;exact{p,ü.mpr {a,Ì b},c}
def EL.z{M:Mc}{L:List Nd}{P:List<|Str×Db.Z}(R:EL M L P){x:Str}{z:Db.Z}(h:z∈BH (M.ws.length+1) P x):∃n∈L,n.r=x/\Dz (M.ws.length+1) n.z z:=by
 let(p,g,c,a):=XT.mp h;rcases R.1 p g with q|⟨n,f,d,i,b,e⟩;rw[a]at q;cases q;rw[a]at b;cases b;exact{n,f,d.trans c,e}
def EL.n{M:Mc}{L:List Nd}{P:List<|Str×Db.Z}(R:EL M L P){n:Nd}(d:n∈L):∃z∈BH (M.ws.length+1) P n.r,Dz (M.ws.length+1) n.z z:=by
 let(p,e,a,z,b,c):=R.2 n d;exact{z,XT.mpr {(p),e,a,b},c}
def zpp{M:Mc}{mo:(Nat->Db.B)×Option Nat}{K:List<|Str×List (Nat×Nat×Int)}(f:G8 M.ws.length K){L:List Nd}(ok:∀n∈L,NdOk M mo n){P:List<|Str×Db.Z}(R:EL M L P){n:Nd}(c:n∈L)(h:CQ K n=true):Hj M P K=false:=by
 let(k,hk,q):=ø.mp h;let(b,m):=ğ.mp q;have b:k.1=n.r:=í b;let(g,d):=Ń.mp m;let(z,i,e):=R.n c;let(o,a,_):=Kz (f k hk).2 (ok n c).z e d
 have l:Eu M P k.1 k.2=false:=by
  unfold Eu;rw[List.all_eq_false];exact{z,b▸i,by rw[a];simp}
 have j:(K.all λg=>Eu M P g.1 g.2)=false:=by
  rw[List.all_eq_false];exact{k,hk,by rw[l];simp}
 unfold Hj;rw[j,Bool.and_false,ĵ]
theorem fJ{L:List<|Nat×Nat×Int}(h:L.all zB=true):Dk.Keep nN<|L.flatMap Cu:=λb a=>by
 let(l,d,a):=Ĕ.mp a;have c:=Ò.mp h l d;let(p,w,n):=l;show(1:Int)<=b.2.2
 match w,c,a with
 |0,c,a=>
  have:0<n:=í c;rw[È.mp a];show(1:Int)<=2 * n
  lia
 |1,c,a=>
  have:0<=n:=í c;rw[È.mp a];show(1:Int)<=2 * n+1
  lia
 |2,c,a=>
  have:n<0:=í c;rw[È.mp a];show(1:Int)<=2 * -n
  lia
 |3,c,a=>
  have:n<=0:=í c;rw[È.mp a];show(1:Int)<=2 * -n+1
  lia
 |w+4,c,a=>
  have:n=0:=í c;rcases Ñ.mp a with rfl|a;show(1:Int)<=2 * n+1;lia;rw[È.mp a];show(1:Int)<=2 * -n+1
  lia
def zpo{M:Mc}(h:McOk M){mo:(Nat->Db.B)×Option Nat}(F:Frd M mo){K:List<|Str×List (Nat×Nat×Int)}(hK:G8 M.ws.length K){L:List Nd}(l:Lst45 M K mo L)(nh:∀n∈L,CQ K n=false)(cl:XN M mo L L.length){P:List<|Str×Db.Z}(R:EL M L P):Hj M P K=true:=by
 have G:∀{x:Str} {q z:Db.Z} {o:Nd},Dk.Und (M.ws.length+1) q z->E1 M.ws.length L o=true->o.r=x->o.z=z->Ip (M.ws.length+1) (BH (M.ws.length+1) P x) ↑q=true:=λ{x q z o} u c C d=>by
  let(n,w,q):=ø.mp c;let(N,E):=ğ.mp q;have N:n.r=o.r:=í N;have E:∀i j,i<M.ws.length+1->j<M.ws.length+1->Db.le (o.z i j) (n.z i j):=@of_decide_eq_true _ (Classical.propDecidable _) E;let(Q,s,m):=R.n w;rw[N,C]at s;rw[d]at E;exact ø.mpr {Q,s,@decide_eq_true _ (Classical.propDecidable _)<|m.und<|Ma u E}
 have W:Jm M P=true:=by
  unfold Jm;cases c:(An M.ws M.rs<|M.nm.headD "").all zB with
  |false=>rfl|true=>
   have hL:=Gf h<|M.nm.headD "";have a:=Dk.met_ok _ nN (J4 _)<|Hg hL;cases e:BD (An M.ws M.rs<|M.nm.headD "") nN with
   |none=>exact(a.2 e nN (J4 _) (λi j ϊ ϊ=>Db.le_refl _)<|fJ c).elim|some q=>
    have u0:=(a.1 q e).2.2.2 nN (J4 _) (λi j ϊ ϊ=>Db.le_refl _) (fJ c);let(z,m,O):=lB h mo (J4 _) e
    have Z:C8 M mo=[{M.nm.headD "",z,none,none}]:=by
     unfold C8;rw[m]
    have hm:({M.nm.headD "",z,none,none}:Nd)∈L:=l.fr.1.subset (by rw[Z];exact È.mpr rfl);let(Q,s,y):=R.n hm;rw[Ŵ,ķ];exact ø.mpr {Q,s,@decide_eq_true _ (Classical.propDecidable _)<|y.und<|Ma u0 O}
 have y:(K.all λg=>Eu M P g.1 g.2)=true:=by
  rw[Ò];intro k hk;unfold Eu;rw[Ò];intro z d;let(n,w,C,m):=R.z d;cases c:BD k.2 z with
  |none=>rfl|some g=>
   let(S,B,_):=Kz (hK k hk).2 (JE d) m.symm c;have:CQ K n=true:=ø.mpr {k,hk,by rw[Ì C.symm,B];rfl}
   rw[nh n w]at this;cases this
 have X:M.nm.all (GX M P)=true:=by
  rw[Ò];intro r C;unfold GX;rw[Ò];intro z d;let(n,w,rfl,m):=R.z d;have U:=l.ok n w;rw[Æ];constructor
  unfold GW;cases c:BD (An M.ws M.rs n.r) (Dm.wtd z) with
  |none=>rfl|some q=>
   have ew:Dz (M.ws.length+1) (Dm.wtd z)<|Dm.wtd n.z:=λi j t b=>by
    unfold Dm.wtd;rw[m i j t b]
   let(q',v,H):=Kz (Gf h n.r) (Dm.wtd_nar<|JE d) ew c;let(f,hf,Y):=U.a;have u:=zga h F hf Y v;exact ø.mpr {z,d,@decide_eq_true _ (Classical.propDecidable _) (m.und λi j t b=>by rw[H i j t b];exact u i j t b)}
  rw[Ò];intro p T;have D:=h.d _<|K1 T;have J:Eh M.ws.length<|gK M.ws p.2:=IS D.g;unfold EY;cases c:W7 M.ws M.rs z p.2 with
  |none=>rfl|some q=>
   let(g,B,c):=ĝ.mp c;let(S,A,H):=Kz J (JE d) m.symm B;have ng:=Ha (JE d) J B;have ep:Dz (M.ws.length+1) (Dm.pbk g<|BW<|BJ M.ws p.2.n)<|Dm.pbk S<|BW<|BJ M.ws p.2.n:=λi j t b=>H _ _ (by unfold BW;split<;>lia) (by unfold BW;split<;>lia)
   let(q',v,y):=Kz (Gf h p.2.e) (Kt ng _) ep c;let(zz,I,O):=lB h mo (Kt (Ha U.z J A) _) v;let(j,b,ej):=Ō.mp w
   have V:=cl j n b (by rw[Á b,ej]) {p.2.e,zz,↑j,↑p.1} (Ĕ.mpr {p,T,by
    unfold Gn Ss;rw[A,Č,I];exact È.mpr rfl})
   exact G (x:=p.2.e) (λi j t b=>by rw[y i j t b];exact O i j t b) V rfl rfl
 unfold Hj;rw[W,y,X];rfl
def zpq{M:Mc}(h:McOk M){mo:(Nat->Db.B)×Option Nat}(F:Frd M mo){K:List<|Str×List (Nat×Nat×Int)}(a:G8 M.ws.length K){L:List Nd}(l:Lst45 M K mo L){P:List<|Str×Db.Z}(R:EL M L P):Hj M P K=!(GY K L):=by
 unfold GY;rcases l.hit with ⟨n,e,b⟩|⟨c,cl⟩;rw[e,zpp a l.ok R (ō e) b];show _=!(CQ K n);rw[b]
 rfl;rw[zpo h F a l c cl R];cases e:L.getLast? with
 |none=>rfl|some n=>
  show _=!(CQ K n);rw[c n<|ō e];rfl
def Bu(L:List Nd):List<|Str×Db.Z:=L.map λn=>(n.r,n.z)
def cX{n:Nat}{f:Db.Z}(h:Db.Nar n f):∃z,Bv n f=↑z/\Dz n f z:={Db.fw f n,by unfold Bv;rw[if_pos<|Db.nar_sound h],λi j a b=>(Db.nar_fw h n (Ä _) i j a b).symm}
theorem znm{M:Mc}{mo:(Nat->Db.B)×Option Nat}{L:List Nd}(ok:∀n∈L,NdOk M mo n):EL M L<|Bu L:={λp d=>by
 let(n,a,rfl):=Ê.mp d;let(z,b,c):=cX (ok n a).z
 exact .inr {(n),a,rfl,z,b,c},λn a=>by
 let(z,b,c):=cX (ok n a).z;exact{_,þ a,rfl,z,b,c}}
theorem EL.of{M:Mc}{L:List Nd}{P Q:List<|Str×Db.Z}(R:EL M L P)(h:∀q,q∈Q ↔ q∈P):EL M L Q:={λp a=>R.1 p<|(h p).mp a,λn b=>by
 let(p,a,q):=R.2 n b;exact{p,(h p).mpr a,q}}
def Fk:Db.Z:=λϊ ϊ=>↑0
def zqp(n:Nat):Bv (n+1) Fk=none:=by
 unfold Bv;rw[if_neg];intro s;refine s 0 (by lia) {0,by lia,λz=>?_};have:(1:Int)<=min 0 1:=z;lia
theorem EL.em{M:Mc}{L:List Nd}{P:List<|Str×Db.Z}(R:EL M L P)(x:Str):EL M L<|(x,Fk)::P:={λp a=>by
 rcases Ñ.mp a with rfl|a;exact .inl<|zqp _
 exact R.1 p a,λn b=>by
 let(p,a,q):=R.2 n b;exact{p,.tail _ a,q}}
open Classical in
def Cd(f:Db.Z):Db.Z:=λi j=>if i=j then none else if i=0/\f 0 j=↑1 then none else f i j
def OO{n:Nat}{f g:Db.Z}(h:∀i j,i<n->j<n->Db.z0 f i j=Db.z0 g i j):∀k,k<=n->∀i j,i<n->j<n->Db.fw f k i j=Db.fw g k i j
 |0,ϊ,i,j,a,b=>h i j a b|k+1,hk,i,j,a,b=>by
  show Db.mn (Db.fw f k i j) (Db.add (Db.fw f k i k)<|Db.fw f k k j)=Db.mn (Db.fw g k i j) (Db.add (Db.fw g k i k)<|Db.fw g k k j);rw[OO h k (by lia) i j a b,OO h k (by lia) i k a (by lia),OO h k (by lia) k j (by lia) b]
def eT{n:Nat}{f:Db.Z}(h:Db.Nar n f):∃z,Bv n (Cd f)=↑z/\Dz n f z:=by
 have g:∀i j,i<n->j<n->Db.z0 (Cd f) i j=Db.z0 f i j:=λi j a b=>by
  unfold Db.z0 Cd Db.free;by_cases c:i=j;subst c;rw[if_pos rfl,if_pos<|.inr rfl,h.diag i a];rfl;rw[if_neg c];by_cases d:i=0/\f 0 j=↑1;rw[if_pos d,if_pos<|.inl d.1];let(rfl,d):=d;rw[d]
  rfl;rw[if_neg d]
 have e:=OO g;refine{Db.fw (Cd f) n,?_,λi j a b=>?_};unfold Bv;rw[if_pos];intro k hk ⟨i,a,q⟩;rw[e k (by lia) i i a a]at q;exact Db.nar_sound h k hk {(i),a,q};rw[e n (Ä _) i j a b];exact(Db.nar_fw h n (Ä _) i j a b).symm
theorem zno{M:Mc}{mo:(Nat->Db.B)×Option Nat}{L:List Nd}(ok:∀n∈L,NdOk M mo n):EL M L<|L.map λn=>(n.r,Cd n.z):={λp d=>by
 let(n,a,rfl):=Ê.mp d;let(z,b,c):=eT (ok n a).z
 exact .inr {(n),a,rfl,z,b,c},λn a=>by
 let(z,b,c):=eT (ok n a).z;exact{_,þ a,rfl,z,b,c}}
abbrev SM:Stmt:=AK 86
def QP:AH:=
 (AF (DJ 2<|m2 BO (AA 5)<|m2 Ff (mC<|.int 10)<|mC<|.int 45)
 (A3 (m2 CY (AA 5)<|m2 Ff (mC<|.int 10)<|mC<|.int 45)<|AD 5))
def QO:AH:=
 (AF (A3 (m2 BO (m2 B5 (m2 B5 (m2 CF (AA 3)<|AA 3)<|m2 CF (mC<|.int 48271)<|AA 3)<|AA 4)<|m2 B5 (m2 Ff (mC<|.int 10)<|mC<|.int 18)<|mC<|.int 9)<|AD 3)
 (DJ 2<|AA 3))
def Nk:AH:=
 (AF (Cb 2<|BE AE)
 (AF (A4 (m2 (C0 λi j=>decide (j<=i)) (AA 0)<|m2 Ff (mC<|.int 10)<|mC<|.int 30) (AF (A3 (m2 Fc (AA 0)<|m2 Ff (mC<|.int 10)<|mC<|.int 30)<|AD 5)
 (AF (Bc (Cw<|AB (AA 1) AE) (AD 4) QP)
 (AN<|AA 2))) Ab)
 (AF (A3 (m2 B5 (m2 BO (AA 0)<|m2 B5 (m2 Ff (mC<|.int 10)<|mC<|.int 18)<|mC<|.int 9)<|mC<|.int 48271)<|AD 3)
 (AF (Bc (Cw<|AB (m2 B5 (AA 1)<|mC<|.int 2) AE) (AD 4) QO)
 (AF (HP 2)<|AN<|Aw (Dn (AA 2) (↑(mC<|.int 2)) none)<|EG (AA 2) (↑(mC<|.int 2)) none)))))
def G6:qF->Option Ru:=AZ 2 6 Nk
abbrev O4:=fA 1 2 SM G6
abbrev zfj:Gm:=gA SM 0 [] ["range"] ["_law_found"] (N:=["_law_cell","_law_many","_law_found","_law_number","_law_k","_law_rest"])
theorem zfu:Ck zfj O4 SM Nk:={}
def Q9(c:Int){m:Nat}(A:m<=1000):∃xs:Nat->Int,G6 [.int c,.int m]=↑(.ok<|.own<|mT m λi=>.int<|xs i):=by
 have e:(0:Int)<=30/\(30:Int)<=1000000/\Fe 10=true:={by decide,by decide,DR (by decide)<|by decide};have q:(0:Int)<=45/\(45:Int)<=1000000/\Fe 10=true:={by decide,by decide,DR (by decide)<|by decide};have d:(0:Int)<=18/\(18:Int)<=1000000/\Fe 10=true:={by decide,by decide,DR (by decide)<|by decide};have t:DK (10 ^ 45)=true:=EO (by decide)<|by decide
 have u:((10:Int) ^ 45≠0)=True:=by simp
 have l:((10:Int) ^ 18+9≠0)=True:=by simp
 have s:(45:Int).toNat=45:=rfl;have k:(30:Int).toNat=30:=rfl;have f:(18:Int).toNat=18:=rfl
 by_cases h:(10:Int) ^ 30<=c
 have a:=L9 (b:=AD 4) (body:=QP) (n:=m) (g:=λi=>.int (i:Int)) (Y:=[↑(.int c),↑(.int m),↑(.own []),none,none,↑(.int<|c - 10 ^ 30)])
  (λi Y=>∃(xs:Nat->Int) (x:qB) (r:Int),Y=[↑(.int c),↑(.int m),↑(.own<|mT i λi=>.int<|xs i),none,x,↑(.int r)])
  {λϊ=>0,none,_,rfl} (by
   rintro i Y v ⟨xs,x,r,rfl⟩;refine{_,by simp![];rfl,?_};have l1:i<100000:=by lia
   refine{_,by unfold QP;simp![q,t,u,s,l1];rfl,λj=>if j=i then r.fmod (10 ^ 45) else xs j,↑(.int (i:Int)),r.fdiv<|10 ^ 45,?_}
   rw[eD T.int])
 let(w,o,xs,x,r,rfl):=a;refine{xs,?_};have p:Cg (m:Int)=true:=Ea<|by lia
 unfold G6 Nk
 simp![e,k,h,p,E8,o]
 have a:=L9 (b:=AD 4) (body:=QO) (n:=m+2) (g:=λi=>.int (i:Int)) (Y:=[↑(.int c),↑(.int m),↑(.own []),↑(.int<|c.fmod (10 ^ 18+9)+48271),none,none])
  (λi Y=>∃(xs:Nat->Int) (x:qB) (r:Int),0<=r/\r<2 * 10 ^ 18/\Y=[↑(.int c),↑(.int m),↑(.own<|mT i λi=>.int<|xs i),↑(.int r),x,none])
  {λϊ=>0,none,_,by rw[fm<|by decide];lia,by rw[fm<|by decide];lia,rfl} (by
   rintro i Y v ⟨xs,x,r,r0,B,rfl⟩;refine{_,by simp![];rfl,?_};have l1:i<100000:=by lia
   have m1:Bq r r=true:=zli (EO (by lia)<|by lia)<|EO (by lia)<|by lia
   have m2:Bq 48271 r=true:=HZ<|DR (by decide)<|by decide
   refine{_,by unfold QO;simp![d,l,f,l1,m1,m2];rfl,λj=>if j=i then (r * r+48271 * r+i).fmod (10 ^ 18+9) else xs j,↑(.int (i:Int)),(r * r+48271 * r+i).fmod (10 ^ 18+9),by rw[fm<|by decide];lia,by rw[fm<|by decide];lia,?_}
   rw[eD T.int])
 obtain⟨w,o,xs,x,r,-,-,rfl⟩:=a;refine{λi=>xs<|i+2,?_};have p:Cg ((m:Int)+2)=true:=Ea (n:=m+2)<|by lia
 have o2:((m:Int)+2).toNat=m+2:=by lia
 have ct:C9 (mT (m+2) λi=>.int<|xs i) ↑2 none=mT m λi=>.int<|xs<|i+2:=by
  unfold C9;have y:HT.sIx (mT (m+2) λi=>T.int<|xs i).length 0 ↑2=2:=by rw[Bj];simp[HT.sIx]
  have z:HT.sIx (mT (m+2) λi=>T.int<|xs i).length (mT (m+2) λi=>T.int<|xs i).length none=m+2:=by rw[Bj];rfl
  rw[y,z];refine Es (by simp[Bj]) λi v=>?_;rw[ţ (by lia),Ŕ,ED (by lia),Nat.add_comm]
 unfold G6 Nk
 simp![e,k,h,d,f,l,p,o2,E8,o,ct]
abbrev SV:Stmt:=AK 87
def M6:AH:=
 (A4 (m2 DV (AA 2)<|BE AE) (AF (A3 (m2 B5 (m2 CF (AA 3)<|m2 BO (AW (AA 0)<|m2 CF (mC<|.int 3)<|AA 6)<|mC<|.int 4)<|m2 BO (m2 CY (AW (AA 0)<|m2 CF (mC<|.int 3)<|AA 6)<|mC<|.int 4)<|mC<|.int 2)<|AD 7)
 (DJ 5<|Bw<|AB (AW (AA 2)<|m2 BO (AW (AA 0)<|m2 B5 (m2 CF (mC<|.int 3)<|AA 6)<|mC<|.int 1)<|m1 Bd<|AA 2)<|AB (AW (AA 4)<|m2 BO (AW (AA 0)<|m2 B5 (m2 CF (mC<|.int 3)<|AA 6)<|mC<|.int 2)<|m1 Bd<|AA 4)<|AB (AA 7) AE)) Ab)
def UY:AH:=
 (AF (Cb 5<|BE AE)
 (AF (Bc (Cw<|AB (AA 1) AE) (AD 6) M6)
 (AN<|AA 5)))
def KR:qF->Option Ru:=AZ 5 8 UY
abbrev O5:=fA 1 5 SV KR
abbrev zgy:Gm:=gA SV 0 [] ["range","len"] ["_law_looks_here"]
theorem zhe:Ck zgy O5 SV UY:={}
theorem jM{l:ky}(h:Cm l):Fit (.lst<|l.map T.str) 1:=Fit.nd λt a=>by
 let(x,b,rfl):=Ê.mp a;exact Fit.str (h x b) 0
def dD{o:Bool}{l:qF}{n:Nat}(c:n<=60)(h:Fit (.nd o .lst l) n):DV (.nd o .lst l) (.lst [])=↑(.bl<|!decide (l.length=0)):=by
 rw[(zqo h (Fit.nd (o:=false) (k:=.lst) (l:=[]) (n:=0) λϊ z=>by cases z) c).2];cases l with
 |nil=>
  rw[@decide_eq_true _ (Classical.propDecidable _)<|by rfl];rfl
 |cons a r=>
  have e:¬ ((T.nd o .lst<|a::r).data=(T.lst []).data):=λz=>by
   have b:PyData.list (Bi<|a::r)=PyData.list (Bi []):=z;injection b with b;cases b
  rw[@decide_eq_false _ (Classical.propDecidable _) e,Ý<|by simp]
def U7{ws wd:ky}(tw:Cm ws)(p:wd≠[]){K:Nat}(xs:Nat->Int){q:Nat}(N:3 * q<=K)(J:K<=1000){u:Int}(D:0<=u):∃L:qF,Ca ws wd L/\L.length<=q/\KR [.lst<|mT K λi=>.int<|xs i,.int (q:Nat),.lst<|ws.map T.str,.int u,.lst<|wd.map T.str]=↑(.ok<|.own L):=by
 have a:=dD (by decide)<|jM tw
 rw[À]at a
 let(Y,e,L,d,hok,n,c,rfl):=Ey (b:=AD 6) (body:=M6) (ts:=mT q λi=>.int (i:Int)) (Y:=[↑(.lst<|mT K λi=>.int<|xs i),↑(.int (q:Nat)),↑(.lst<|ws.map T.str),↑(.int u),↑(.lst<|wd.map T.str),↑(.own []),none,none])
  (λi Y=>∃L:qF,L.length<=i/\Ca ws wd L/\∃n c,Y=[↑(.lst<|mT K λi=>.int<|xs i),↑(.int (q:Nat)),↑(.lst<|ws.map T.str),↑(.int u),↑(.lst<|wd.map T.str),↑(.own L),n,c]) {[],Ä 0,λϊ z=>(by cases z),none,none,rfl} λi t Y B C=>by
   let(M,rfl):=Hb B;let(L,d,hok,n,c,rfl):=C
   by_cases l:ws.length=0;refine{[↑(.lst<|mT K λi=>.int<|xs i),↑(.int (q:Nat)),↑(.lst<|ws.map T.str),↑(.int u),↑(.lst<|wd.map T.str),↑(.own L),↑(.int (i:Int)),c],(by simp![]),_,?_,L,Nat.le_succ_of_le d,hok,↑(.int (i:Int)),c,rfl};rw[Ì l]at a;unfold M6
   simp![BX,Av,a]
   rw[Ý l]at a;have g:ws≠[]:=λz=>l (by rw[z];rfl)
   have G:Bq 3 (i:Int)=true:=HZ<|DR (by decide)<|by decide
   have r:Ar (mT K λi=>T.int<|xs i) (3 * (i:Int))=↑(.int<|xs<|3 * i):=by
    rw[show 3 * (i:Int)=((3 * i:Nat):Int) by lia];exact CH<|by lia
   have s:Ar (mT K λi=>T.int<|xs i) (3 * (i:Int)+1)=↑(.int<|xs<|3 * i+1):=by
    rw[show 3 * (i:Int)+1=((3 * i+1:Nat):Int) by lia];exact CH<|by lia
   have v:Ar (mT K λi=>T.int<|xs i) (3 * (i:Int)+2)=↑(.int<|xs<|3 * i+2):=by
    rw[show 3 * (i:Int)+2=((3 * i+2:Nat):Int) by lia];exact CH<|by lia
   have f0:=Ğ (xs<|3 * i)<|show(0:Int)<4 by decide
   have f1:=Ő (xs<|3 * i)<|show(0:Int)<4 by decide
   have f2:=Ğ ((xs<|3 * i).fdiv 4)<|show(0:Int)<2 by decide
   have mu:Bq u ((xs<|3 * i).fmod 4)=true:=J5<|DR (by lia)<|by lia
   have H:0<=u * ((xs<|3 * i).fmod 4)+((xs<|3 * i).fdiv 4).fmod 2:=by
    have:=Int.mul_nonneg D f0;lia
   have I:DK 4=true:=EO (by decide)<|by decide
   let(w,m,A):=LA ws g<|xs<|3 * i+1;let(o,k,x):=LA wd p<|xs<|3 * i+2;have j:=Ln T.str A;have h:=Ln T.str x;have E:=Nu g;have l1:=Nu p;have F:L.length<100000:=by lia
   refine{[↑(.lst<|mT K λi=>.int<|xs i),↑(.int (q:Nat)),↑(.lst<|ws.map T.str),↑(.int u),↑(.lst<|wd.map T.str),↑(.own L),↑(.int (i:Int)),c],(by simp![]),[↑(.lst<|mT K λi=>.int<|xs i),↑(.int (q:Nat)),↑(.lst<|ws.map T.str),↑(.int u),↑(.lst<|wd.map T.str),↑(.own<|L++[.tup [.str w,.str o,.int<|u * ((xs<|3 * i).fmod 4)+((xs<|3 * i).fdiv 4).fmod 2]]),↑(.int (i:Int)),↑(.int<|u * ((xs<|3 * i).fmod 4)+((xs<|3 * i).fdiv 4).fmod 2)],?_,_,(by rw[Ü,Ŋ];exact Ź d),λt f=>?_,_,_,rfl};unfold M6
   simp![BX,Av,a,G,r,s,v,mu,I,À,E,l1,j,h,F]
   rcases Ø.mp f with f|f;exact hok t f;rw[È.mp f];exact{w,o,_,rfl,m,k,H}
 rw[Bj]at d;have ok:Cg (q:Int)=true:=Ea<|by lia
 have y:FG 0 q=mT q λi=>.int (i:Int):=E8;refine{L,hok,d,?_};unfold KR UY
 simp![ok,y,e,BX,Av]
abbrev SO:Stmt:=AK 89
def M4:AH:=
 (AF (A3 (AJ G6<|AB (m2 B5 (m2 CY (AA 0)<|mC<|.int 3)<|m2 CF (mC<|.int 1009)<|AA 4)<|AB (mC<|.int 4) AE)<|AD 5)
 (DJ 3<|Bw<|AB (m2 CF (AW (mC<|.str "abc")<|AA 4)<|m2 B5 (mC<|.int 1)<|AA 4)<|AB (AJ KR<|AB (Aw (Dn (AA 5) (↑(mC<|.int 1)) none)<|EG (AA 5) (↑(mC<|.int 1)) none)<|AB (m2 BO (AW (AA 5)<|mC<|.int 0)<|mC<|.int 2)<|AB (AA 1)<|AB (AA 2)<|AB (BE<|Ah (mC<|.str "<")<|Ah (mC<|.str "<=") AE) AE) AE))
def Nl:AH:=
 (AF (Cb 3<|BE AE)
 (AF (Bc (Cw<|AB (m2 B5 (mC<|.int 1)<|m2 BO (AA 0)<|mC<|.int 3) AE) (AD 4) M4)
 (AN<|AA 3)))
def Pg:qF->Option Ru:=AZ 3 6 Nl
abbrev jF:=fA 2 3 SO Pg
abbrev zgw:Gm:=gA SO 1 [("_law_stream",O4),("_law_looks",O5)] ["range"] ["_law_rooms_here"]
theorem zhc:Ck zgw jF SO Nl:={}
def V9{n a:Nat}{g:Nat->T}:C9 (mT (n+a) g) (↑(a:Int)) none=mT n λi=>g<|i+a:=by
 unfold C9
 have b:HT.sIx (mT (n+a) g).length 0 (↑(a:Int))=a:=by
  rw[Bj];simp[HT.sIx];lia
 have c:HT.sIx (mT (n+a) g).length (mT (n+a) g).length none=n+a:=by rw[Bj];rfl
 rw[b,c];refine Es (by simp[Bj]) λi d=>?_;rw[ţ (by lia),Ŕ,ED (by lia),Nat.add_comm]
def FN:Nat->Str
 |0=>"a"|1=>"bb"|ϊ=>"ccc"
def zpd:∀k<3,(∀i<(FN k).cps.size,(FN k).cps.getD i 0=47\/(97<=(FN k).cps.getD i 0/\(FN k).cps.getD i 0<=122))/\1<=(FN k).cps.size/\(FN k).cps.size<=60:=by decide +kernel
def zpe:∀n<4,((List.range n).map FN).Nodup:=by decide +kernel
def zr4{k:Nat}(hk:k<3){O:AM}(h:O[4]?=↑(↑(.int (k:Int)))):m2 CF (AW (mC<|.str "abc")<|AA 4) (m2 B5 (mC<|.int 1)<|AA 4) O=↑(.v (.str<|FN k) false):=by
 have:k=0\/k=1\/k=2:=by lia
 have a:(("abc":Str).length<=BI)=True:=by
  have:("abc":Str).length=3:=by decide +kernel
  rw[this];unfold BI;simp
 rcases this with rfl|rfl|rfl<;>(simp![h,a];first|ext|rfl)
def zkw{ws:ky}(hd:ws.Nodup)(p:Nat->Bool):∃ns:ky,((List.range ws.length).filter p).map (λi=>T.str<|ws.getD i Str.empty)=ns.map T.str/\(∀x∈ns,x∈ws)/\ns.Nodup/\ns.length<=ws.length:=by
 have c:∀i∈(List.range ws.length).filter p,i<ws.length:=λi f=>ì.mp (ü.mp f).1;refine{((List.range ws.length).filter p).map λi=>ws.getD i Str.empty,by rw[ä];rfl,λx l=>?_,?_,?_};let(i,f,rfl):=Ê.mp l;have:=c i f;rw[Þ,Á this];exact ç this
 rw[List.nodup_iff_pairwise_ne,List.pairwise_map];refine List.Pairwise.imp_of_mem ?_<|List.Pairwise.filter _<|List.nodup_range (n:=ws.length);intro a b j k d e;have g:=c a j;have h:=c b k;rw[Þ,Á g,Þ,Á h]at e;exact d<|(ö hd).mp e
 rw[À];have:=ŋ p<|List.range ws.length
 rwa[ĥ]at this
def Py:ky:=["","","","","","go!"]
def zmi:∀z∈Py,Ls z:=λz b=>by
 have:∀z∈Py,z=Str.ofString ""\/z=Str.ofString "go!":=by decide +kernel
 rcases this z b with rfl|rfl;exact .inl rfl;have h:∀i<(Str.ofString "go").cps.size,97<=(Str.ofString "go").cps.getD i 0/\(Str.ofString "go").cps.getD i 0<=122:=by decide +kernel
 exact .inr {Str.ofString "go",33,λi a=>h i a,by decide +kernel,by decide +kernel,.inl rfl,by decide +kernel}
abbrev qR(c:Int)(ws:ky)(u:Int)(R:T)(a y5:qB):AM:=[↑(.int c),↑(.lst<|ws.map T.str),↑(.int u),↑R,a,y5]
def FU(x:Int)(k:Nat)(hk:0<k):∃q:Nat,x.fmod (k:Int)=(q:Int)/\q<k:=by
 let(i,e,h):=modN hk x;exact{(i),e,h}
def znl(f1:Int){ws:ky}(tw:Cm ws){u:Int}(I:0<=u):∃rs,RsOk ws rs/\rs.length<=3/\Pg [.int f1,.lst<|ws.map T.str,.int u]=↑(.ok<|.own<|rs.map AL):=by
 have E:DK 3=true:=EO (by decide)<|by decide
 let(p,w,W):=FU f1 3<|by decide
 have w:f1.fmod 3=(p:Int):=w;have H:(FD.map T.str)=[.str "<",.str "<="]:=rfl
 have Q:∀(k:Nat) (R:qF) (f:qB),k<3->R.length<=k->∃L:qF,Ca ws FD L/\L.length<=1/\∃A,M4 (qR f1 ws u (.own R) (↑(.int (k:Int))) f)=↑(.nx<|qR f1 ws u (.own<|R++[.tup [.str<|FN k,.lst L]]) (↑(.int (k:Int))) A):=λk R f hk U=>by
  let(xs,st):=Q9 (f1.fdiv 3+1009 * (k:Int)) (m:=4)<|by decide
  have st:G6 [.int<|f1.fdiv 3+1009 * (k:Int),.int 4]=↑(.ok<|.own<|mT 4 λi=>.int<|xs i):=st;let(q,x,X):=FU (xs 0) 2<|by decide
  have x:(xs 0).fmod 2=(q:Int):=x;let(L,h,o,lk):=U7 (wd:=FD) tw (by decide) (K:=3) (λi=>xs<|i+1) (q:=q) (by lia) (by decide) I
  have m1:Bq 1009 (k:Int)=true:=HZ<|DR (by decide)<|by decide
  have G:C9 (mT 4 λi=>T.int<|xs i) ↑1 none=mT 3 λi=>.int<|xs<|i+1:=V9 (n:=3) (a:=1) (g:=λi=>T.int<|xs i)
  have F:Ar (mT 4 λi=>T.int<|xs i) 0=↑(.int<|xs 0):=CH (k:=0)<|by decide
  have C:=h.sh;have J:R.length<100000:=by lia
  refine{L,h,by lia,↑(.lst<|mT 4 λi=>.int<|xs i),?_};unfold M4;have v:=zr4 hk (O:=qR f1 ws u (.own R) (↑(.int (k:Int)))<|↑(.lst<|mT 4 λi=>.int<|xs i)) rfl
  unfold qR at v ⊢;rw[H]at lk;have sv:AX (ws.map T.str)=true:=Av _;generalize m2 CF (AW (mC<|.str "abc")<|AA 4) (m2 B5 (mC<|.int 1)<|AA 4)=MM at v ⊢;change ws.map T.str=WS;refine sq (by simp![E,m1,st];rfl) ?_
  simp![v,F,x,G,sv,AI _ sv,lk,C,AI _ C,J]
 let(S,B,rs,d,s,y,f,rfl):=Ey (b:=AD 4) (body:=M4) (ts:=mT (1+p) λi=>.int (i:Int)) (Y:=qR f1 ws u (.own []) none none)
  (λi Y=>∃rs:List (Str×qF),rs.map (·.1)=(List.range i).map FN/\(∀r∈rs,Ca ws FD r.2/\r.2.length<=1)/\∃y f,Y=qR f1 ws u (.own<|rs.map AL) y f) {[],rfl,λϊ z=>(by cases z),none,none,rfl} λi t Y h o=>by
   let(V,rfl):=Hb h;let(rs,d,s,y,f,rfl):=o
   have j:(rs.map AL).length<=i:=by
    have:=congrArg List.length d;erw[À,ĥ]at this;rw[À];lia
   let(L,h,o,A,e):=Q i (rs.map AL) f (by lia) j;refine{_,by unfold qR;simp![],_,e,rs++[(FN i,L)],?_,λr c=>?_,↑(.int (i:Int)),A,?_};rw[ß,d,List.range_succ,ß];rfl;rcases Ø.mp c with c|c;exact s r c;rw[È.mp c];exact{(h),o};rw[ß];rfl
 rw[Bj]at d
 have j:rs.length=1+p:=by
  have:=congrArg List.length d;simpa using this
 have l:RsOk ws rs:={by lia,by lia,λr c=>by
  have:r.1∈(List.range<|1+p).map FN:=by rw[<- d];exact Ê.mpr {(r),c,rfl}
  let(k,hk,e):=Ê.mp this;rw[<- e];exact zpd k (by have:=ì.mp hk;lia),by rw[d];exact zpe _ (by lia),λr c=>{(s r c).1,by have:=(s r c).2;lia}}
 refine{rs,l,by lia,?_};have M:Cg (1+(p:Int))=true:=Ea (n:=1+p)<|by lia
 have P:(1+(p:Int)).toNat=1+p:=by lia
 have N:FG 0 (1+p)=mT (1+p) λi=>.int (i:Int):=E8;have D:=JX l;have sv:AX (ws.map T.str)=true:=Av _;unfold Pg;unfold qR at B;change ws.map T.str=WS;change rs.map AL=RS
 have run:Nl [↑(.int f1),↑(.lst WS),↑(.int u),none,none,none]=↑(.rt<|.own RS):=by
  unfold Nl;refine sq (by simp![];rfl)<|sq (by simp![E,w,M,P,N,B];rfl) ?_
  simp![D,AI _ D]
 simp![sv,AI _ sv,run]
abbrev SQ:Stmt:=AK 88
def Up:AG:=
 (m2 BM (m2 BO (m2 CY (AW (AA 2)<|mC<|.int 3)<|m2 B5 (mC<|.int 2)<|AA 0)<|mC<|.int 2)<|mC<|.int 0)
def W4:AG:=
 (AA 1)
def M5:AH:=
 (AF (A3 (AJ G6<|AB (AA 7)<|AB (mC<|.int 12) AE)<|AD 8)
 (AF (A3 (AJ KR<|AB (Aw (Dn (AA 8) (↑(mC<|.int 4)) none)<|EG (AA 8) (↑(mC<|.int 4)) none)<|AB (m2 BO (AW (AA 8)<|mC<|.int 2)<|mC<|.int 3)<|AB (AA 2)<|AB (AA 3)<|AB (AA 5) AE)<|AD 9)
 (AF (A3 (Ax 2 [8] (C6<|AB (AA 2) AE) (Ay 2<|AQ (AD 0)<|AQ (AD 1) BA) Up W4)<|AD 10)
 (AF (A3 (AW (BE<|Ah (mC<|.str "")<|Ah (mC<|.str "")<|Ah (mC<|.str "")<|Ah (mC<|.str "")<|Ah (mC<|.str "")<|Ah (mC<|.str "go!") AE)<|m2 BO (AW (AA 8)<|mC<|.int 10)<|mC<|.int 6)<|AD 11)
 (DJ 6<|Hc Wn []<|AB (AW (AW (AA 1)<|m2 BO (AW (AA 8)<|mC<|.int 0)<|m1 Bd<|AA 1)<|mC<|.int 0)<|AB (AW (AW (AA 1)<|m2 BO (AW (AA 8)<|mC<|.int 1)<|m1 Bd<|AA 1)<|mC<|.int 0)<|AB (AA 9)<|AB (AA 10)<|AB (AA 11) AE)))))
def Nm:AH:=
 (AF (A3 (BE<|Ah (mC<|.str "<")<|Ah (mC<|.str "<=")<|Ah (mC<|.str ">")<|Ah (mC<|.str ">=")<|Ah (mC<|.str "=") AE)<|AD 5)
 (AF (Cb 6<|BE AE)
 (AF (Bc (Au<|Aw (Dn (AA 0) (↑(mC<|.int 4))<|↑(m2 B5 (mC<|.int 4)<|m2 BO (AJ F9<|AB (AA 0)<|AB (mC<|.int 2) AE)<|mC<|.int 5))<|EG (AA 0) (↑(mC<|.int 4))<|↑(m2 B5 (mC<|.int 4)<|m2 BO (AJ F9<|AB (AA 0)<|AB (mC<|.int 2) AE)<|mC<|.int 5)) (AD 7) M5)
 (AF (HP 6)<|AN<|Hc Pf []<|AB (m2 B5 (AA 2)<|AA 4)<|AB (AA 1)<|AB (AA 6) AE))))
def Ph:qF->Option Ru:=AZ 5 12 Nm
abbrev jG:=fA 8 5 SQ Ph
abbrev ze8:Gx:={ B9 with nw:=[("Door",VZ,[(5,[])]),("Machine",VW,[(3,[])])] }
abbrev zek:Gm:=gA SQ 7 [("_law_cell_at",VY),("_law_stream",O4),("_law_looks",O5)] ["enumerate","len"] ["_law_doors"] (ox:=ze8)
theorem zez:Ck zek jG SQ Nm:={}
abbrev qM(S:T)(d e:qF)(u:Int)(c:qF)(y5 y6 f g h a b:qB):AM:=[↑S,↑(.lst d),↑(.lst e),↑(.int u),↑(.lst c),y5,y6,f,g,h,a,b]
def zpf(ns:kz)(hns:ns.length<=63){ws:ky}(tw:Cm ws)(hd:ws.Nodup)(h7:ws.length<=7){u:Int}(hu:0<=u){rs:List<|Str×qF}(f:RsOk ws rs){mo:ky}(hw:∀x∈ws++mo,HD x)(hd2:(ws++mo).Nodup)(I:(ws++mo).length<=7):∃M:Mc,M.ws=ws++mo/\M.rs=rs/\McOk M/\Ph [B3 ns,.lst<|rs.map AL,.lst<|ws.map T.str,.int u,.lst<|mo.map T.str]=↑(.ok<|A9 M):=by
 have F:=YK ns;have F2:=YJ ns;have c2:=Od ns (k:=2)<|by decide
 change ns.getD (2:Int).toNat 0=f2;have ew:(CB.map T.str)=[.str "<",.str "<=",.str ">",.str ">=",.str "="]:=rfl;have R:=JX f;have sv:AX (ws.map T.str)=true:=Av _;have so:AX (mo.map T.str)=true:=Av _;have sw:AX (CB.map T.str)=true:=Av _
 have Q:rs≠[]:=λz=>by
  have:=f.l1;rw[z]at this;simp at this
 have N:∀x:Int,∃r∈rs,Ar (rs.map AL) (x.fmod ((rs.map AL).length:Nat))=↑(AL r):=λx=>by
  let(r,w,X):=LA rs Q x;rw[À];exact{r,w,Ln AL X}
 have l0:(((rs.map AL).length:Nat):Int)≠0:=by rw[À];exact Nu Q
 have w3:∀(D:qF) (c:Int) (C E j l:qB),D.length<=63->∃d:Dr,DrOk ws (rs.map (·.1)) d/\∃z8 z9 G H,M5 (qM (B3 ns) (rs.map AL) (ws.map T.str) u (mo.map T.str) (↑(.lst<|CB.map T.str)) (↑(.own D)) (↑(.int c)) C E j l)=↑(.nx<|qM (B3 ns) (rs.map AL) (ws.map T.str) u (mo.map T.str) (↑(.lst<|CB.map T.str)) (↑(.own<|D++[BG d])) (↑(.int c)) z8 z9 G H):=λD c C E j l hD=>by
  let(xs,st):=Q9 c (m:=12)<|by decide
  have st:G6 [.int c,.int 12]=↑(.ok<|.own<|mT 12 λi=>.int<|xs i):=st;have o:∀k:Nat,k<12->Ar (mT 12 λi=>T.int<|xs i) (k:Int)=↑(.int<|xs k):=λk hk=>CH hk;have a0:Ar (mT 12 λi=>T.int<|xs i) 0=↑(.int<|xs 0):=o 0<|by decide
  have a1:Ar (mT 12 λi=>T.int<|xs i) 1=↑(.int<|xs 1):=o 1<|by decide
  have a2:Ar (mT 12 λi=>T.int<|xs i) 2=↑(.int<|xs 2):=o 2<|by decide
  have a3:Ar (mT 12 λi=>T.int<|xs i) 3=↑(.int<|xs 3):=o 3<|by decide
  have a10:Ar (mT 12 λi=>T.int<|xs i) 10=↑(.int<|xs 10):=o 10<|by decide
  let(O,hb,eb):=N<|xs 0;let(P,he,ee):=N<|xs 1;let(q,eq,q2):=FU (xs 2) 3<|by decide
  have eq:(xs 2).fmod 3=(q:Int):=eq;let(L,w,X,lk):=U7 (wd:=CB) tw (by decide) (K:=8) (λi=>xs<|i+4) (q:=q) (by lia) (by decide) hu
  have cu:C9 (mT 12 λi=>T.int<|xs i) ↑4 none=mT 8 λi=>.int<|xs<|i+4:=V9 (n:=8) (a:=4) (g:=λi=>T.int<|xs i)
  let(V,hz,ez):=LA Py (by decide)<|xs 10
  have ez:Ar [T.str "",.str "",.str "",.str "",.str "",.str "go!"] ((xs 10).fmod 6)=↑(.str V):=Ln T.str ez;let(U,ey,y1,y2,y3):=zkw hd λi=>((xs 3).fdiv (2+(i:Int))).fmod 2 == 0
  have lc:=Jd (b:=Ay 2<|AQ (AD 0)<|AQ (AD 1) BA) (mt:=Up) (me:=W4) (λi:Nat=>.tup [.int (i:Int),.str<|ws.getD i Str.empty]) (λi=>.str<|ws.getD i Str.empty) (λi=>((xs 3).fdiv (2+(i:Int))).fmod 2 == 0) (λY=>∃x y,Y=[x,y,↑(.lst<|mT 12 λi=>.int<|xs i)]) (List.range ws.length) [none,none,↑(.lst<|mT 12 λi=>.int<|xs i)] {_,_,rfl} λi hi Y hI=>by
   let(x,y,rfl):=hI;have hi':=ì.mp hi;have si:DK (2+(i:Int))=true:=EO (Ų (b:=0) (by decide +kernel)<|by lia)<|ĺ (b:=20) (by lia)<|by decide +kernel
   have ni:(2+(i:Int)=0)=False:=eq_false<|by lia
   refine{[↑(.int (i:Int)),↑(.str<|ws.getD i Str.empty),↑(.lst<|mT 12 λi=>.int<|xs i)],false,by simp![],?_,λϊ=>?_,_,_,rfl};unfold Up
   simp![a3,si,ni,DW]
   unfold W4
   simp![]
  rw[ey]at lc
  have en:Eg 0 (ws.map T.str)=(List.range ws.length).map λi:Nat=>.tup [.int (i:Int),.str<|ws.getD i Str.empty]:=by
   rw[Kb,Hs];rfl
  have lw:(List.map (λi:Nat=>T.tup [.int (i:Int),.str<|ws.getD i Str.empty])<|List.range ws.length).length<=100000:=by
   rw[À,ĥ];lia
  have sL:=w.sh;have sy:AX (U.map T.str)=true:=Av _;have lD:D.length<100000:=by lia
  let(d,d1,d2,d3,W,d5):∃d:Dr,d.s=O.1/\d.e=P.1/\d.g=L/\d.n=U/\d.z=V:={{(O.1),P.1,L,U,V},rfl,rfl,rfl,rfl,rfl};have Dk:DrOk ws (rs.map (·.1)) d:={by rw[d1];exact Ê.mpr {(O),hb,rfl},by rw[d2];exact Ê.mpr {(P),he,rfl},by rw[d3];exact w,by rw[d3];lia,by rw[W];exact y1,by rw[W];exact y2,by rw[W];lia,by rw[d5];exact zmi V hz}
  have di:=di_ok Dk;rw[d1,d2,d3,W,d5]at di;have sd:=Js Dk;refine{d,Dk,↑(.lst<|mT 12 λi=>.int<|xs i),↑(.lst L),↑(.lst<|U.map T.str),↑(.str V),?_}
  have b1:(AL O).sh=true:=by
   have:=(f.lk O hb).1.sh
   simp![this]
  have b2:(AL P).sh=true:=by
   have:=(f.lk P he).1.sh
   simp![this]
  unfold M5;unfold qM;change BG d=DD;change (List.map (λi:Nat=>T.tup [.int (i:Int),.str<|ws.getD i Str.empty])<|List.range ws.length)=EN;change B3 ns=S;change ws.map T.str=WS;change CB.map T.str=WD;change U.map T.str=YS;change mo.map T.str=MO;change rs.map AL=RS;refine sq (by simp![F,F2,st];rfl) ?_;refine sq (by simp![a2,eq,cu,sv,AI _ sv,sw,AI _ sw,lk,sL,AI _ sL];rfl) ?_;refine sq (by simp![sv,AI _ sv,C6,en,lw,lc,sy,AI _ sy];rfl) ?_;refine sq (by simp![a10,ez];rfl) ?_
  simp![a0,a1,AI _ R,l0,eb,b1,ee,b2,sL,AI _ sL,sy,AI _ sy,di,sd,AO _ sd,lD]
 let(J,B,_):=FU f2 5<|by decide
 have B:f2.fmod 5=(J:Int):=B;have cm:C9 (ns.map T.int) ↑4 (↑(4+(J:Int)))=(C9 ns ↑4<|↑(4+(J:Int))).map T.int:=zm9 _ _ _ _;have cl:=zma ns ↑4<|↑(4+(J:Int));change C9 ns ↑4 (↑(4+(J:Int)))=cs
 let(τ2,e2,ds,s,ld,y7,C,E,j,l,rfl):=Ey (b:=AD 7) (body:=M5) (ts:=cs.map T.int) (Y:=qM (B3 ns) (rs.map AL) (ws.map T.str) u (mo.map T.str) (↑(.lst<|CB.map T.str)) (↑(.own [])) none none none none none)
  (λi Y=>∃ds:qC,(∀d∈ds,DrOk ws (rs.map (·.1)) d)/\ds.length=i/\∃y7 C E j l,Y=qM (B3 ns) (rs.map AL) (ws.map T.str) u (mo.map T.str) (↑(.lst<|CB.map T.str)) (↑(.own<|ds.map BG)) y7 C E j l) {[],λϊ z=>(by cases z),rfl,none,none,none,none,none,rfl} λi t Y w X=>by
   let(ds,s,ld,y7,C,E,j,l,rfl):=X;have hi:i<cs.length:=by simpa using (É.mp w).1
   rw[Î,Á hi]at w;have et:=(Ù w).symm;subst et;let(d,hd,z8,z9,G,H,e):=w3 (ds.map BG) cs[i] C E j l (by rw[À];lia)
   refine{_,by unfold qM;simp![],_,e,ds++[d],λx v=>?_,by rw[Ü,ld];rfl,↑(.int cs[i]),z8,z9,G,H,by rw[ß];rfl};rcases Ø.mp v with v|v;exact s x v;rw[È.mp v];exact hd
 rw[À]at ld;have up:∀x∈ws,x∈ws++mo:=λx v=>ù _ v
 let(M,h,p,A):∃M:Mc,M.ws=ws++mo/\M.rs=rs/\M.ds=ds:={{ws++mo,rs,ds},rfl,rfl,rfl}
 have hM:McOk M:={by rw[h];exact hw,by rw[h];exact hd2,by rw[h];exact I,by rw[h,p];exact{f.l1,f.l64,f.nm,f.nd,λr hr=>{(f.lk r hr).1.more up,(f.lk r hr).2}},by
  rw[h,p,A];intro d hd;have D:=s d hd;exact{D.s,D.e,D.g.more up,D.gl,λx v=>up x<|D.n x v,D.nd,D.nl,D.z},by rw[A];lia}
 refine{M,h,p,hM,?_};have Z:=zlj hM;rw[h,p,A,ß]at Z;have Z:Pf [.lst<|ws.map T.str++mo.map T.str,.lst<|rs.map AL,.lst<|ds.map BG]=↑(.ok<|A9 M):=Z;have sM:=GN hM;have sE:AX (ds.map BG)=true:=CU λd hd=>Js<|s d hd
 have sC:BP (cs.map T.int)=cs.map T.int:=JP _
 have la:(ws.map T.str).length+(mo.map T.str).length<=BI:=by
  unfold BI;rw[À,À];rw[Ü]at I;lia
 have sa:AX (ws.map T.str++mo.map T.str)=true:=by rw[<- ß];exact Av _
 unfold Ph;unfold qM at e2
 have run:Nm [↑(B3 ns),↑(.lst<|rs.map AL),↑(.lst<|ws.map T.str),↑(.int u),↑(.lst<|mo.map T.str),none,none,none,none,none,none,none]=↑(.rt<|A9 M):=by
  unfold Nm
  have e0:Aw (Dn (AA 0) (↑(mC<|.int 4))<|↑(m2 B5 (mC<|.int 4)<|m2 BO (AJ F9<|AB (AA 0)<|AB (mC<|.int 2) AE)<|mC<|.int 5)) (EG (AA 0) (↑(mC<|.int 4))<|↑(m2 B5 (mC<|.int 4)<|m2 BO (AJ F9<|AB (AA 0)<|AB (mC<|.int 2) AE)<|mC<|.int 5)) [↑(B3 ns),↑(.lst<|rs.map AL),↑(.lst<|ws.map T.str),↑(.int u),↑(.lst<|mo.map T.str),↑(.lst<|CB.map T.str),↑(.own []),none,none,none,none,none]=↑(.v (.own<|cs.map T.int) false):=by
   unfold B3 at c2 F F2 ⊢
   simp![Kf,JP,c2,B,cm]
  change Aw (Dn (AA 0) (↑(mC<|.int 4))<|↑(m2 B5 (mC<|.int 4)<|m2 BO (AJ F9<|AB (AA 0)<|AB (mC<|.int 2) AE)<|mC<|.int 5)) (EG (AA 0) (↑(mC<|.int 4))<|↑(m2 B5 (mC<|.int 4)<|m2 BO (AJ F9<|AB (AA 0)<|AB (mC<|.int 2) AE)<|mC<|.int 5))=SL;change A9 M=MM;change B3 ns=S;change ws.map T.str=WS;change mo.map T.str=MO;change rs.map AL=RS;change ds.map BG=DS;change cs.map T.int=CS;refine sq (Y':=[↑S,↑(.lst RS),↑(.lst WS),↑(.int u),↑(.lst MO),↑(.lst<|CB.map T.str),none,none,none,none,none,none]) (by rw[ew];simp![]) ?_;change CB.map T.str=WD;refine sq (by simp![];rfl)<|sq (by simp![e0,sC,e2];rfl)<|sq (by simp![sE,AI _ sE];rfl) ?_
  simp![sv,AI _ sv,so,AI _ so,la,sa,AI _ sa,R,AI _ R,sE,AI _ sE,Z,sM,AO _ sM]
 change A9 M=MM;change B3 ns=S;change ws.map T.str=WS;change mo.map T.str=MO;change rs.map AL=RS;change ds.map BG=DS
 simp![F,F2,R,AI _ R,sv,AI _ sv,so,AI _ so,run]
abbrev SW:Stmt:=AK 90
def M7:AH:=
 (AF (A3 (AJ G6<|AB (m2 B5 (m2 CY (AA 0)<|mC<|.int 3)<|m2 CF (mC<|.int 7)<|AA 5)<|AB (mC<|.int 6) AE)<|AD 6)
 (AF (A3 (AJ KR<|AB (Aw (Dn (AA 6) (↑(mC<|.int 2)) none)<|EG (AA 6) (↑(mC<|.int 2)) none)<|AB (m2 BO (AW (AA 6)<|mC<|.int 1)<|mC<|.int 2)<|AB (AA 2)<|AB (AA 3)<|AB (BE<|Ah (mC<|.str "<")<|Ah (mC<|.str "<=")<|Ah (mC<|.str ">")<|Ah (mC<|.str ">=")<|Ah (mC<|.str "=") AE) AE)<|AD 7)
 (DJ 4<|Bw<|AB (AW (AW (AA 1)<|m2 BO (AW (AA 6)<|mC<|.int 0)<|m1 Bd<|AA 1)<|mC<|.int 0)<|AB (AA 7) AE)))
def Np:AH:=
 (AF (Cb 4<|BE AE)
 (AF (Bc (Cw<|AB (m2 BO (AA 0)<|mC<|.int 3) AE) (AD 5) M7)
 (AN<|AA 4)))
def Pk:qF->Option Ru:=AZ 4 8 Np
abbrev jI:=fA 2 4 SW Pk
abbrev zj5:Gm:=gA SW 1 [("_law_stream",O4),("_law_looks",O5)] ["range","len"] ["_law_goal_here"]
theorem zji:Ck zj5 jI SW Np:={}
abbrev qG(c:Int)(a b:qF)(u:Int)(G:T)(y5 y6 d:qB):AM:=[↑(.int c),↑(.lst a),↑(.lst b),↑(.int u),↑G,y5,y6,d]
def zqc(f3:Int){ws:ky}(tw:Cm ws){u:Int}(V:0<=u){rs:List<|Str×qF}(j:RsOk ws rs):∃gl,Dy ws (rs.map (·.1)) gl/\(∀g∈gl,g.2.length<=1)/\gl.length<=2/\Pk [.int f3,.lst<|rs.map AL,.lst<|ws.map T.str,.int u]=↑(.ok<|.own<|gl.map AL):=by
 have t3:DK 3=true:=EO (by decide)<|by decide
 have U:(CB.map T.str)=[.str "<",.str "<=",.str ">",.str ">=",.str "="]:=rfl;have F:=JX j;have sv:AX (ws.map T.str)=true:=Av _
 have v:rs≠[]:=λz=>by
  have:=j.l1;rw[z]at this;simp at this
 have E:∀x:Int,∃r∈rs,Ar (rs.map AL) (x.fmod ((rs.map AL).length:Nat))=↑(AL r):=λx=>by
  let(r,p,w):=LA rs v x;rw[À];exact{r,p,Ln AL w}
 have W:(((rs.map AL).length:Nat):Int)≠0:=by rw[À];exact Nu v
 have w2:∀(k:Nat) (G:qF) (l o:qB),k<3->G.length<=k->∃g:Str×qF,(g.1∈rs.map (·.1)/\Ca ws CB g.2/\g.2.length<=1)/\∃I J,M7 (qG f3 (rs.map AL) (ws.map T.str) u (.own G) (↑(.int (k:Int))) l o)=↑(.nx<|qG f3 (rs.map AL) (ws.map T.str) u (.own<|G++[AL g]) (↑(.int (k:Int))) I J):=λk G l o hk hG=>by
  let(xs,st):=Q9 (f3.fdiv 3+7 * (k:Int)) (m:=6)<|by decide
  have st:G6 [.int<|f3.fdiv 3+7 * (k:Int),.int 6]=↑(.ok<|.own<|mT 6 λi=>.int<|xs i):=st;let(q,B,q2):=FU (xs 1) 2<|by decide
  have B:(xs 1).fmod 2=(q:Int):=B;let(L,p,w,lk):=U7 (wd:=CB) tw (by decide) (K:=4) (λi=>xs<|i+2) (q:=q) (by lia) (by decide) V
  have m1:Bq 7 (k:Int)=true:=HZ<|DR (by decide)<|by decide
  have S:C9 (mT 6 λi=>T.int<|xs i) ↑2 none=mT 4 λi=>.int<|xs<|i+2:=V9 (n:=4) (a:=2) (g:=λi=>T.int<|xs i)
  have P:Ar (mT 6 λi=>T.int<|xs i) 0=↑(.int<|xs 0):=CH (k:=0)<|by decide
  have Q:Ar (mT 6 λi=>T.int<|xs i) 1=↑(.int<|xs 1):=CH (k:=1)<|by decide
  let(y,N,eb):=E<|xs 0
  have R:(AL y).sh=true:=by
   have:=(j.lk y N).1.sh
   simp![this]
  have A:=p.sh;have X:G.length<100000:=by lia
  refine{(y.1,L),{Ê.mpr {(y),N,rfl},p,by show L.length<=_;lia},↑(.lst<|mT 6 λi=>.int<|xs i),↑(.lst L),?_};unfold M7;unfold qG;rw[U]at lk;change ws.map T.str=WS;change rs.map AL=RS;refine sq (by simp![t3,m1,st];rfl)<|sq (by simp![Q,B,S,sv,AI _ sv,lk,A,AI _ A];rfl) ?_
  simp![P,AI _ F,W,eb,R,A,AI _ A,X]
 let(s,f,Z):=FU f3 3<|by decide
 have f:f3.fmod 3=(s:Int):=f
 let(τ3,M,gl,d,h,D,H,l,o,rfl):=Ey (b:=AD 5) (body:=M7) (ts:=mT s λi=>.int (i:Int)) (Y:=qG f3 (rs.map AL) (ws.map T.str) u (.own []) none none none)
  (λi Y=>∃gl:List (Str×qF),Dy ws (rs.map (·.1)) gl/\(∀g∈gl,g.2.length<=1)/\gl.length=i/\∃H l o,Y=qG f3 (rs.map AL) (ws.map T.str) u (.own<|gl.map AL) H l o) {[],λϊ z=>(by cases z),λϊ z=>(by cases z),rfl,none,none,none,rfl} λi t Y p w=>by
   let(hi,rfl):=Hb p;let(gl,d,h,D,H,l,o,rfl):=w;let(g,C,I,J,e):=w2 i (gl.map AL) l o (by lia) (by rw[À];lia)
   refine{_,by unfold qG;simp![],_,e,gl++[g],λx c=>?_,λx c=>?_,by rw[Ü,D];rfl,↑(.int (i:Int)),I,J,by rw[ß];rfl};rcases Ø.mp c with c|c;exact d x c;rw[È.mp c];exact{C.1,C.2.1,by lia};rcases Ø.mp c with c|c;exact h x c;rw[È.mp c];exact C.2.2
 rw[Bj]at D;refine{gl,d,h,by lia,?_};have O:=d.sh;have o3:Cg (s:Int)=true:=Ea<|by lia
 have r3:FG 0 s=mT s λi=>.int (i:Int):=E8;unfold Pk;unfold qG at M;change ws.map T.str=WS;change rs.map AL=RS;change gl.map AL=GS
 have run:Np [↑(.int f3),↑(.lst RS),↑(.lst WS),↑(.int u),none,none,none,none]=↑(.rt<|.own GS):=by
  unfold Np;refine sq (by simp![];rfl)<|sq (by simp![f,o3,r3,M];rfl) ?_
  simp![O,AI _ O]
 simp![F,AI _ F,sv,AI _ sv,run]
abbrev SN:Stmt:=AK 91
def J9:AH:=
 (AF (A3 (mC .non)<|AD 3)
 (AF (HN Pz (A4 (m2 (BB false) (AA 2)<|mC .non) (A3 (AJ (gD [.non] Fm)<|AB (AA 0)<|AB (AA 1)<|AB (mC<|.int 10) AE)<|AD 3)<|A3 (AJ Fm<|AB (AA 0)<|AB (AA 1)<|AB (mC<|.int 10)<|AB (AA 2) AE)<|AD 3)<|AF (A3 (mC .non)<|AD 3) Ab)
 (AN<|AA 3)))
def KQ:qF->Option Ru:=AZ 3 4 J9
abbrev jE:=fA 13 3 SN KQ
abbrev zd3:Gx:={ B9 with xs:=[("TooMany",Pz)],dn:=[("searched",VD,[.non])] }
abbrev zdg:Gm:=gA SN 12 [("searched",VD)] [] (ox:=zd3)
theorem zdu:Ck zdg jE SN J9:={}
def lL(A G F:T)(r:Ru)(q:Out):Prop:=match r with
 |.ok t=>t.sh=true/\q=.nx [↑A,↑G,↑F,↑t]|.exc c=>Fz c=none/\q=.xc c [↑A,↑G,↑F,↑.non]
def zn8{M:Mc}(h:McOk M){gl:List<|Str×qF}(l:Dy M.ws (M.rs.map (·.1)) gl)(p:gl.length<=1000){o:Option Nat}(s:∀j∈o,j<M.ws.length) :
  KQ [A9 M,.lst<|gl.map AL,DE M o]=↑(.ok .non)\/∃L,KQ [A9 M,.lst<|gl.map AL,DE M o]=↑(.ok<|.tup [.lst<|L.map<|AS M.ws.length,.bl<|GY (Bz M gl) L])/\L.length<=10/\Lst45 M (Bz M gl) (Cr M gl o) L:=by
 have g:=GN h;have em:=AO _ g;have f:=l.sh;have k:=AI _ f
 let(C,y):∃C,Pz.lookup (HU<|Str.ofString "TooMany")=↑C:={_,by
  rw[show HU (Str.ofString "TooMany")=Str.ofString "TooMany" from by unfold HU;rfl]
  rfl}
 have x:=zn6 h l p (mx:=10) (by decide) s;have v:=Ux M o;have z:=AO _ v
 have d:∀{r:Ru} {q:Out},Fm [A9 M,.lst<|gl.map AL,.int 10,DE M o]=↑r->lL (A9 M) (.lst<|gl.map AL) (DE M o) r q->A4 (m2 (BB false) (AA 2)<|mC .non) (A3 (AJ (gD [.non] Fm)<|AB (AA 0)<|AB (AA 1)<|AB (mC<|.int 10) AE)<|AD 3) (A3 (AJ Fm<|AB (AA 0)<|AB (AA 1)<|AB (mC<|.int 10)<|AB (AA 2) AE)<|AD 3) [↑(A9 M),↑(.lst<|gl.map AL),↑(DE M o),↑.non]=↑q:=λ{r q} e b=>by
  cases o with
  |none=>
   have e:Fm [A9 M,.lst<|gl.map AL,.int 10,.non]=↑r:=e;have b:lL (A9 M) (.lst<|gl.map AL) .non r q:=b;show A4 _ _ _ [↑(A9 M),↑(.lst<|gl.map AL),↑.non,↑.non]=↑q;change A9 M=A;change gl.map AL=GT;refine LY (by simp![]) ?_
   cases r with
   |ok t=>
    let(a,rfl):=b
    simp![g,em,f,k,e,a,AO _ a]
   |exc c=>
    let(a,rfl):=b
    simp![g,em,f,k,e,a]
  |some j=>
   have n:DE M ↑j=.str (M.ws.getD j Str.empty):=rfl;rw[n]at e b ⊢;change A9 M=A;change gl.map AL=GT;change M.ws.getD j Str.empty=w;refine LZ (by simp![]) ?_;cases r with
   |ok t=>
    let(a,rfl):=b
    simp![g,em,f,k,e,a,AO _ a]
   |exc c=>
    let(a,rfl):=b
    simp![g,em,f,k,e,a]
 change DE M o=FR;rcases x with e|⟨L,e,l1,u⟩;left;have i:=d e {by rfl,rfl}
 change A9 M=A;change gl.map AL=GT;unfold KQ;refine Fv rfl ?_;show J9 [↑A,↑(.lst GT),↑FR,none]=_;unfold J9;refine sq (by simp![];rfl)<|sq (Y':=[↑A,↑(.lst GT),↑FR,↑.non]) ?_<|by simp![]
 unfold HN;rw[i];erw[y]
 simp![]
 right;refine{L,?_,l1,u};have m:=FO M.ws.length L;have B:=AI _ m
 have st:(T.tup [.lst<|L.map<|AS M.ws.length,.bl<|GY (Bz M gl) L]).sh=true:=by
  change L.map (AS M.ws.length)=LT
  simp![m]
 have i:=d e {(st),rfl};change T.tup [.lst<|L.map<|AS M.ws.length,.bl<|GY (Bz M gl) L]=TT;change A9 M=A;change gl.map AL=GT;unfold KQ;refine Fv rfl ?_;show J9 [↑A,↑(.lst GT),↑FR,none]=_;unfold J9;refine sq (by simp![];rfl)<|sq (Y':=[↑A,↑(.lst GT),↑FR,↑TT]) ?_<|by simp![st,AO _ st]
 unfold HN;rw[i]
abbrev SU:Stmt:=AK 92
def Oq:AG:=
 (m1 Dt<|AA 0)
def QS:AH:=
 (AF (Gi 1 (AA 2) (AA 2)<|mC .non)
 (A4 (m2 BM (AW (AW (AA 1)<|mC<|.int 0)<|AA 2)<|mC<|.int 1) (Gi 1 (mC<|.int 0) (AA 2)<|mC .non) Ab))
def Nn:AH:=
 (AF (Cb 1<|Ax 1 [] (Au<|AA 0) (AD 0) (mC<|.bl true) Oq)
 (AF (Bc (Cw<|AB (m1 Bd<|AA 1) AE) (AD 2) QS)
 (AN<|AA 1)))
def Pj:qF->Option Ru:=AZ 1 3 Nn
abbrev jH:=fA 1 1 SU Pj
abbrev zgx:Gm:=gA SU 0 [] ["list","range","len"] ["_law_rows"]
theorem zhd:Ck zgx jH SU Nn:={}
open Classical in
def Ci(k:Nat)(f:Db.Z):Db.Z:=λi j=>if j<k then Cd f i j else f i j
open Classical in
def zpi{n:Nat}(U:n<=500){f:Db.Z}(r:0<n):Pj [zT n f]=↑(.ok<|.own<|oZ n<|Cd f):=by
 have A:=Cj (n:=n) (me:=Oq) (x:=none) (cs:=[]) (g:=λi=>rT n<|f i) (f:=λi=>.own<|mT n λj=>bT<|f i j) λi d=>by
  unfold Oq;have Q:(mT n λj=>bT<|f i j).length<=100000:=by rw[Bj];lia
  simp![Q]
 have A:CW (AD 0) (mC<|.bl true) Oq (mT n λi=>rT n<|f i) [none]=↑(oZ n f):=A
 let(Y,e,y,rfl):=Ey (b:=AD 2) (body:=QS) (ts:=mT n λi=>.int (i:Int)) (Y:=[↑(zT n f),↑(.own<|oZ n f),none])
  (λi Y=>∃y,Y=[↑(zT n f),↑(.own<|oZ n<|Ci i f),y]) {none,by
   rw[Fg (f:=Ci 0 f) (g:=f) λi j ϊ ϊ=>by unfold Ci;rw[if_neg<|by lia]]} λi t Y J K=>by
   let(d,rfl):=Hb J;let(y,rfl):=K;refine{_,by simp![];rfl,_,?_,↑(.int (i:Int)),rfl}
   have O:Bk (oZ n<|Ci i f).length (i:Int)=↑i:=by
    rw[show(oZ n<|Ci i f).length=n from Bj];exact LQ d
   have B:FL (oZ n<|Ci i f)[i]?=↑(mT n λj=>bT<|Ci i f i j):=by
    unfold oZ;rw[ED d];rfl
   have u:Bk (mT n λj=>bT<|Ci i f i j).length (i:Int)=↑i:=by
    rw[Bj];exact LQ d
   have l:(oZ n<|Ci i f).set i (.own<|(mT n λj=>bT<|Ci i f i j).set i .non)=oZ n (λa b=>if a=i/\b=i then none else Ci i f a b):=NU (c:=none);let(g,s):∃g:Db.Z,g=λa b=>if a=i/\b=i then none else Ci i f a b:={_,rfl}
   rw[<- s]at l;have E:Ar (oZ n g) 0=↑(.own<|mT n λj=>bT<|g 0 j):=CH (k:=0) r
   have F:Ar (mT n λj=>bT<|g 0 j) (i:Int)=↑(bT<|g 0 i):=CH d
   have eb:∀c:Db.B,(c=↑1->BM (bT c) (.int 1)=↑(.bl true))/\(¬ c=↑1->BM (bT c) (.int 1)=↑(.bl false)):=λc=>by
    cases c with
    |none=>exact{λz=>(by cases z),λϊ=>rfl}|some c=>have e:BM (bT ↑c) (.int 1)=↑(.bl<|c == 1):=DW;rw[e];exact{λz=>by cases z;rfl,λz=>by rw[beq_eq_false_iff_ne.mpr λq=>z<|by rw[q]]}
   have sb:=Jw<|g 0 i;have h:=AO _ sb
   have S:Gi 1 (AA 2) (AA 2) (mC .non) [↑(zT n f),↑(.own<|oZ n<|Ci i f),↑(.int (i:Int))]=↑(.nx [↑(zT n f),↑(.own<|oZ n g),↑(.int (i:Int))]):=by
    change zT n f=ZZ;generalize oZ n (Ci i f)=σ1 at *;change (mT n λj=>bT<|Ci i f i j)=RR;change oZ n g=O2
    simp![-FL,O,B,u,l]
   unfold QS;refine sq S ?_;by_cases c:g 0 i=↑1;have p:=(eb _).1 c
   have v:Bk (oZ n g).length 0=↑0:=by
    rw[show(oZ n g).length=n from Bj];exact LQ (a:=0) r
   have C:FL (oZ n g)[0]?=↑(mT n λj=>bT<|g 0 j):=by
    unfold oZ;rw[ED r];rfl
   have w:Bk (mT n λj=>bT<|g 0 j).length (i:Int)=↑i:=by
    rw[Bj];exact LQ d
   have m:(oZ n g).set 0 (.own<|(mT n λj=>bT<|g 0 j).set i .non)=oZ n (λa b=>if a=0/\b=i then none else g a b):=NU (c:=none)
   have en:oZ n (λa b=>if a=0/\b=i then none else g a b)=oZ n (Ci (i+1) f):=Fg λa b L M=>by
    subst s;unfold Ci Cd at c ⊢;grind
   rw[en]at m;change zT n f=ZZ;change oZ n g=O2;generalize oZ n (Ci (i+1) f)=σ3 at *;change (mT n λj=>bT<|g 0 j)=RR;change bT (g 0 i)=bb;refine LY (by simp![E,F,sb,h,p]) ?_
   simp![-FL,v,C,w,m]
   have p:=(eb _).2 c
   have en:oZ n g=oZ n (Ci (i+1) f):=Fg λa b L M=>by
    subst s;unfold Ci Cd at c ⊢;grind
   rw[<- en];change zT n f=ZZ;change oZ n g=O2;change (mT n λj=>bT<|g 0 j)=RR;change bT (g 0 i)=bb;refine LZ (by simp![E,F,sb,h,p])<|by simp![]
 rw[Bj,Fg (f:=Ci n f) (g:=Cd f) λi j d N=>by unfold Ci;rw[if_pos N]]at e;have ok:Cg (n:Int)=true:=Ea<|by lia
 have I:FG 0 n=mT n λi=>.int (i:Int):=E8;have R:(BP<|oZ n f).length=n:=by rw[Gj,Bj]
 have G:=Bl n f;have H:=AO _ G;have o:AX (mT n λi=>rT n<|f i)=true:=Fu λi=>JY _ _
 have D:=AI _ o;have P:(mT n λi=>rT n<|f i).length<=100000:=by rw[Bj];lia
 have T:zT n f=.lst (mT n λi=>rT n<|f i):=rfl
 have run:Nn [↑(zT n f),none,none]=↑(.rt<|.own<|oZ n<|Cd f):=by
  unfold Nn;rw[T]at e ⊢;change oZ n (Cd f)=O2;generalize oZ n f=σ1 at *;change (mT n λi=>rT n<|f i)=ZL;refine sq (by simp![o,D,P,A];rfl)<|sq (by simp![R,ok,I,e];rfl) ?_
  simp![]
 unfold Pj;change zT n f=ZZ
 simp![G,H,run]
abbrev Mt:Stmt:=AK 93
def Oi:AG:=
 (Bw<|AB (AA 0)<|AB (m2 B5 (AA 1)<|m2 CF (BE<|Ah (AA 2) AE)<|m2 BO (m2 CY (AA 3)<|mC<|.int 540)<|mC<|.int 2) AE)
def WA:AG:=
 (Bw<|AB (AW (AA 0)<|mC<|.int 0)<|AB (AW (AA 0)<|mC<|.int 1) AE)
def Oh:AG:=
 (m2 CF (BE<|Ah (mC<|.int 0) AE)<|AA 1)
def Vz:AG:=
 (Bw<|AB (AA 0)<|AB (AJ Pj<|AB (AA 1) AE) AE)
def Vy:AG:=
 (AJ KC<|AB (AA 2)<|AB (AA 1)<|AB (AA 0) AE)
def Vx:AG:=
 (Cc (m1 (Cv "bool")<|AA 0)<|m2 DV (AA 0)<|AA 1)
def N9:AH:=
 (AF (A3 (AJ F9<|AB (AA 0)<|AB (mC<|.int 0) AE)<|AD 1)
 (AF (A3 (Aw (Dn (AW (BE<|Ah (BE<|Ah (mC<|.str "x")<|Ah (mC<|.str "y") AE)<|Ah (BE<|Ah (mC<|.str "in")<|Ah (mC<|.str "i") AE)<|Ah (BE<|Ah (mC<|.str "y")<|Ah (mC<|.str "yy") AE) AE)<|m2 BO (m2 CY (AA 1)<|mC<|.int 3)<|mC<|.int 3) none<|↑(m2 BO (AA 1)<|mC<|.int 3))<|EG (AW (BE<|Ah (BE<|Ah (mC<|.str "x")<|Ah (mC<|.str "y") AE)<|Ah (BE<|Ah (mC<|.str "in")<|Ah (mC<|.str "i") AE)<|Ah (BE<|Ah (mC<|.str "y")<|Ah (mC<|.str "yy") AE) AE)<|m2 BO (m2 CY (AA 1)<|mC<|.int 3)<|mC<|.int 3) none<|↑(m2 BO (AA 1)<|mC<|.int 3))<|AD 2)
 (AF (A3 (AW (BE<|Ah (mC<|.int 1)<|Ah (m2 Ff (mC<|.int 10)<|mC<|.int 12) AE)<|m2 BO (m2 CY (AA 1)<|mC<|.int 9)<|mC<|.int 2)<|AD 3)
 (AF (A3 (BE AE)<|AD 4)
 (AF (A4 (m2 BM (m2 BO (m2 CY (AA 1)<|mC<|.int 18)<|mC<|.int 3)<|mC<|.int 1) (AF (A3 (Aw (Dn (AA 2) none<|↑(mC<|.int 1))<|EG (AA 2) none<|↑(mC<|.int 1))<|AD 2)
 (A3 (BE<|Ah (mC<|.str "far") AE)<|AD 4)) Ab)
 (AF (A3 (AJ Pg<|AB (AJ F9<|AB (AA 0)<|AB (mC<|.int 1) AE)<|AB (AA 2)<|AB (AA 3) AE)<|AD 5)
 (AF (A3 (AJ Ph<|AB (AA 0)<|AB (AA 5)<|AB (AA 2)<|AB (AA 3)<|AB (AA 4) AE)<|AD 6)
 (AF (A3 (AJ Pk<|AB (AJ F9<|AB (AA 0)<|AB (mC<|.int 3) AE)<|AB (AA 5)<|AB (AA 2)<|AB (AA 3) AE)<|AD 7)
 (AF (A3 (mC .non)<|AD 8)
 (AF (A4 (m2 DV (AA 4)<|BE AE) (AF (A3 (mC<|.str "far")<|AD 8)
 (AF (A3 (Bw<|AB (mC<|.str "far")<|AB (AW (BE<|Ah (mC<|.str "<")<|Ah (mC<|.str "<=") AE)<|m2 BO (m2 CY (AA 1)<|mC<|.int 54)<|mC<|.int 2)<|AB (m2 CF (AA 3)<|m2 BO (m2 CY (AA 1)<|mC<|.int 108)<|mC<|.int 5) AE)<|AD 15)
 (A3 (Ax 2 [15,1] (Au<|AA 7) (Ay 2<|AQ (AD 0)<|AQ (AD 1) BA) (mC<|.bl true) Oi)<|AD 7))) Ab)
 (AF (A3 (AJ KQ<|AB (AA 6)<|AB (AA 7)<|AB (AA 8) AE)<|AD 9)
 (AF (A4 (m2 (BB false) (AA 9)<|mC .non) (AN<|mC<|.bl true) Ab)
 (AF (A3 (AA 9)<|Ay 2<|AQ (AD 16)<|AQ (AD 17) BA)
 (AF (A3 (Ax 1 [] (Au<|AA 16) (AD 0) (mC<|.bl true) WA)<|AD 10)
 (AF (A3 (m2 B5 (m1 Bd<|m2 B5 (AA 2)<|AA 4)<|mC<|.int 1)<|AD 11)
 (AF (A3 (Ax 1 [11] (Cw<|AB (AA 11) AE) (AD 0) (mC<|.bl true) Oh)<|AD 12)
 (AF (Cb 13<|BE<|Ah (AA 10)<|Ah (LG (AA 10)<|m1 EV<|mC<|.int 1)<|Ah (m2 B5 (AA 10)<|AA 10)<|Ah (m2 B5 (BE<|Ah (Bw<|AB (AW (AW (AA 5)<|m1 EV<|mC<|.int 1)<|mC<|.int 0)<|AB (AA 12) AE) AE)<|AA 10) AE)
 (AF (DJ 13<|Ax 2 [] (Au<|AA 10) (Ay 2<|AQ (AD 0)<|AQ (AD 1) BA) (mC<|.bl true) Vz)
 (AF (HP 13) (AF (A3 (Ax 1 [7,6] (Au<|AA 13) (AD 0) (mC<|.bl true) Vy)<|AD 14)
 (AN<|m1 Dw<|Ax 1 [17] (Au<|AA 14) (AD 0) (mC<|.bl true) Vx)))))))))))))))))))))
def Wj:qF->Option Ru:=AZ 1 18 N9
abbrev zqj:=fA 14 1 Mt Wj
abbrev zqb:Gm:=gA Mt 13 [("_law_cell_at",VY),("_law_rooms",jF),("_law_machine",jG),("_law_goal",jI),("_law_searched",jE),("_law_loose",jH),("lets_by",iG)] ["len","range","all","isinstance","bool"] ["_law_papers"] (N:=["_law_script","_law_first","_law_watches","_law_unit","_law_more","_law_rooms_here","_law_machine_here","_law_goal_here","_law_free","_law_found","_law_paper","_law_size","_law_empty","_law_papers","_law_told","_law_asks","_law_nodes","_law_hit"])
theorem zqv:Ck zqb zqj Mt N9:={}
def dE(x:Str):∀{l:qF} {t:T},t∈l->Ed t=x->Ce t<=By x l
 |u::r,t,h,e=>by
  have n:=N0 x r;rw[N1];rcases Ñ.mp h with rfl|h;rw[if_pos e];lia;have:=dE x h e;split<;>lia
def zmy:∀y∈FD,HH y<2:=by decide +kernel
def zqg{M:Mc}(h:McOk M)(gl:List<|Str×qF){o:Option Nat}(D:∀j∈o,j<M.ws.length)(s:∀j∈o,∀r∈M.rs,∀t∈r.2,Ed t≠M.ws.getD j Str.empty):Frd M<|Cr M gl o:=by
 have g:∀x,∀l∈An M.ws M.rs x,∃r∈M.rs,∃t∈r.2,l=Eo M.ws t:=λx l d=>by
  unfold An at d;let(t,a,rfl):=Ê.mp d;cases e:M.rs.find? λq=>decide (q.1=x) with
  |none=>rw[e]at a;cases a|some r=>rw[e]at a;exact{r,š e,t,a,rfl}
 have at_:∀r∈M.rs,∀t∈r.2,∃j,j<M.ws.length/\M.ws.getD j Str.empty=Ed t/\Eo M.ws t=(j+1,HH<|Ec t,Ce t)/\HH (Ec t)<2/\0<=Ce t:=λr c t a=>by
  let(x,y,n,rfl,A,B,C):=(h.r.lk r c).1 t a;let(j,w,f,e):=Hm A;refine{j,f,?_,?_,zmy y B,C}
  rw[Þ,Á f,e];rfl;unfold Eo;show((CI M.ws x).getD 0+1,_,_)=_;rw[w]
  rfl
 refine{λx l d=>?_,λp m=>?_};let(r,c,t,a,rfl):=g x l d;let(j,f,i,k,u,v):=at_ r c t a;rw[k];refine{u,v,By (M.ws.getD j Str.empty) (FA M gl).flatten,?_,?_}
 show(Cr M gl o).1 (j+1 - 1)=_;rw[Nat.add_sub_cancel];cases o with
 |none=>rfl|some b=>
  show(if j=b then none else FV M gl j)=_;rw[if_neg λz=>s b rfl r c t a (by rw[<- z];exact i.symm)];rfl
 exact dE _ (List.mem_flatten.mpr {r.2,à _<|ù _<|þ c,a}) i.symm;cases o with
 |none=>cases m|some b=>
  have f:=D b rfl;have e:↑(b+1)=↑p:=m;cases e;refine{by lia,by lia,?_,λx l d=>?_}
  show(if b+1 - 1=b then none else _)=none;rw[if_pos<|by lia];let(r,c,t,a,rfl):=g x l d;let(j,f,i,k,_):=at_ r c t a;rw[k];intro z;have z:j+1=b+1:=z;exact s b rfl r c t a<|by rw[<- i,show j=b by lia]
def CK:Nat->ky
 |0=>["x","y"]|1=>["in","i"]|ϊ=>["y","yy"]
def Bh:Str:="far"
def XX:∀k<3,∀x∈Bh::CK k,(∀i<x.cps.size,97<=x.cps.getD i 0/\x.cps.getD i 0<=122)/\1<=x.cps.size/\x.cps.size<=8:=by decide +kernel
def ww_nd:∀k<3,(CK k++[Bh]).Nodup:=by decide +kernel
def zmj:∀k<3,(CK k).length=2:=by decide +kernel
def j9{ws:ky}(j:Nat):C9 (ws.map T.str) none (↑(j:Int))=(ws.take j).map T.str:=by
 unfold C9;have a:HT.sIx (ws.map T.str).length 0 none=0:=rfl
 have b:HT.sIx (ws.map T.str).length (ws.map T.str).length (↑(j:Int))=min j ws.length:=by
  rw[À];simp[HT.sIx];lia
 rw[a,b,List.drop_zero,List.map_take];rcases Nat.le_total j ws.length with h|h;rw[Nat.min_eq_left h];rfl;rw[Nat.min_eq_right h,List.take_of_length_le (i:=j) (by rw[À];exact h),Nat.sub_zero,List.take_of_length_le (by rw[À];exact Ä _)]
def znn(n:Nat)(x:T):(List.replicate n [x]).flatten=mT n λϊ=>x:=by
 unfold mT;rw[Α,List.map_const',ĥ]
abbrev CZ(S:T)(f:Int)(y2 j k y5 y6 l m n a b c d e g h i:qB):AM:=[↑S,↑(.int f),y2,j,k,y5,y6,l,m,n,a,b,c,d,e,g,h,i]
def zml(S:T)(f:Int):∃ws,(∃k<3,∃j,ws=(CK k).take j)/\A3 (Aw (Dn (AW (BE<|Ah (BE<|Ah (mC<|.str "x")<|Ah (mC<|.str "y") AE)<|Ah (BE<|Ah (mC<|.str "in")<|Ah (mC<|.str "i") AE)<|Ah (BE<|Ah (mC<|.str "y")<|Ah (mC<|.str "yy") AE) AE)<|m2 BO (m2 CY (AA 1)<|mC<|.int 3)<|mC<|.int 3) none<|↑(m2 BO (AA 1)<|mC<|.int 3))<|EG (AW (BE<|Ah (BE<|Ah (mC<|.str "x")<|Ah (mC<|.str "y") AE)<|Ah (BE<|Ah (mC<|.str "in")<|Ah (mC<|.str "i") AE)<|Ah (BE<|Ah (mC<|.str "y")<|Ah (mC<|.str "yy") AE) AE)<|m2 BO (m2 CY (AA 1)<|mC<|.int 3)<|mC<|.int 3) none<|↑(m2 BO (AA 1)<|mC<|.int 3)) (AD 2) (CZ S f none none none none none none none none none none none none none none none none)=↑(.nx<|CZ S f (↑(.lst<|ws.map T.str)) none none none none none none none none none none none none none none none):=by
 let(k,c,hk):=FU (f.fdiv 3) 3<|by decide
 let(j,b,g):=FU f 3<|by decide
 have c:(f.fdiv 3).fmod 3=(k:Int):=c;have b:f.fmod 3=(j:Int):=b;have e:DK 3=true:=EO (by decide)<|by decide
 refine{_,{(k),hk,j,rfl},?_}
 have a:Ar [T.own [.str "x",.str "y"],.own [.str "in",.str "i"],.own [.str "y",.str "yy"]] (k:Int)=↑(.own<|(CK k).map T.str):=by
  have:k=0\/k=1\/k=2:=by lia
  rcases this with rfl|rfl|rfl<;>rfl
 have d:AX ((CK k).map T.str)=true:=Av _;have ct:=j9 (ws:=CK k) j;have sv:AX (((CK k).take j).map T.str)=true:=Av _;unfold CZ;change (CK k).map T.str=W3;change ((CK k).take j).map T.str=WS
 simp![e,c,b,a,d,AI _ d,ct,sv,AI _ sv]
def zqn(S:T)(f:Int){ws:ky}(h:∃k<3,∃j,ws=(CK k).take j)(d:qB):∃vs mo,(∃k<3,∃j,vs=(CK k).take j)/\(mo=[]\/mo=[Bh])/\A4 (m2 BM (m2 BO (m2 CY (AA 1)<|mC<|.int 18)<|mC<|.int 3)<|mC<|.int 1) (AF (A3 (Aw (Dn (AA 2) none<|↑(mC<|.int 1))<|EG (AA 2) none<|↑(mC<|.int 1))<|AD 2)
 (A3 (BE<|Ah (mC<|.str "far") AE)<|AD 4)) Ab (CZ S f (↑(.lst<|ws.map T.str)) d (↑(.lst [])) none none none none none none none none none none none none none)=↑(.nx<|CZ S f (↑(.lst<|vs.map T.str)) d (↑(.lst<|mo.map T.str)) none none none none none none none none none none none none none):=by
 have a:DK 18=true:=EO (by decide)<|by decide
 have sv:AX (ws.map T.str)=true:=Av _;have b:BM (.int<|(f.fdiv 18).fmod 3) (.int 1)=↑(.bl<|(f.fdiv 18).fmod 3 == 1):=DW;unfold CZ;cases c:((f.fdiv 18).fmod 3 == 1) with
 |false=>rw[c]at b;refine{ws,[],h,.inl rfl,LZ (by simp![a,b])<|by simp![]}|true=>
  rw[c]at b;let(k,hk,j,rfl):=h;have ct:=j9 (ws:=(CK k).take j) 1;have ct:C9 (((CK k).take j).map T.str) none ↑1=(((CK k).take j).take 1).map T.str:=ct;have e:AX ((((CK k).take j).take 1).map T.str)=true:=Av _;refine{((CK k).take j).take 1,[Bh],{k,hk,min 1 j,by rw[List.take_take]},.inr rfl,LY (by simp![a,b]) ?_}
  show _=↑(Out.nx [↑S,↑(.int f),↑(.lst<|(((CK k).take j).take 1).map T.str),d,↑(.lst [.str "far"]),none,none,none,none,none,none,none,none,none,none,none,none,none]);change ((CK k).take j).map T.str=W3;change (((CK k).take j).take 1).map T.str=WS;refine sq (by simp![sv,AI _ sv,ct];rfl) ?_
  simp![e,AI _ e]
def zql(S:T)(f:Int){M:Mc}{ws mo:ky}(r:M.ws=ws++mo)(em:mo=[]\/mo=[Bh]){u:Int}(W:0<=u){gl:List<|Str×qF}(k:Dy ws (M.rs.map (·.1)) gl)(H:∀g∈gl,g.2.length<=1)(I:gl.length<=2){y2 y5 y6:qB}:∃gl' o,Dy M.ws (M.rs.map (·.1)) gl'/\gl'.length<=2/\(∀j∈o,j<M.ws.length/\M.ws.getD j Str.empty=Bh/\mo=[Bh])/\∃y15,A4 (m2 DV (AA 4)<|BE AE) (AF (A3 (mC<|.str "far")<|AD 8)
 (AF (A3 (Bw<|AB (mC<|.str "far")<|AB (AW (BE<|Ah (mC<|.str "<")<|Ah (mC<|.str "<=") AE)<|m2 BO (m2 CY (AA 1)<|mC<|.int 54)<|mC<|.int 2)<|AB (m2 CF (AA 3)<|m2 BO (m2 CY (AA 1)<|mC<|.int 108)<|mC<|.int 5) AE)<|AD 15)
 (A3 (Ax 2 [15,1] (Au<|AA 7) (Ay 2<|AQ (AD 0)<|AQ (AD 1) BA) (mC<|.bl true) Oi)<|AD 7))) Ab (CZ S f y2 (↑(.int u)) (↑(.lst<|mo.map T.str)) y5 y6 (↑(.lst<|gl.map AL)) (↑.non) none none none none none none none none none)=↑(.nx<|CZ S f y2 (↑(.int u)) (↑(.lst<|mo.map T.str)) y5 y6 (↑(.lst<|gl'.map AL)) (↑(DE M o)) none none none none none none y15 none none):=by
 have up:∀x∈ws,x∈M.ws:=λx s=>by rw[r];exact ù _ s
 have q:Dy M.ws (M.rs.map (·.1)) gl:=λg d=>{(k g d).1,(k g d).2.1.more up,(k g d).2.2}
 have e:∀x∈mo,PyData.strOk x=true:=λx s=>by
  rcases em with rfl|rfl;cases s;rw[È.mp s];decide +kernel
 have e:=dD (o:=false) (by decide)<|jM e
 rw[À]at e;unfold CZ;rcases em with rfl|rfl;have e:DV (.lst<|([]:ky).map T.str) (.lst [])=↑(.bl false):=e;have p:AX (([]:ky).map T.str)=true:=rfl;refine{gl,none,q,I,λj D=>(by cases D),none,?_}
 show _=↑(Out.nx [↑S,↑(.int f),y2,↑(.int u),↑(.lst<|[].map T.str),y5,y6,↑(.lst<|gl.map AL),↑.non,none,none,none,none,none,none,none,none,none]);change ([]:ky).map T.str=MO;refine LZ (by simp![p,AI _ p,e])<|by simp![]
 have e:DV (.lst<|[Bh].map T.str) (.lst [])=↑(.bl true):=e;have p:AX ([Bh].map T.str)=true:=rfl;let(a,v,ha):=FU (f.fdiv 54) 2<|by decide
 let(b,eb,hb):=FU (f.fdiv 108) 5<|by decide
 let(c,z,hc):=FU (f.fdiv 540) 2<|by decide
 have v:(f.fdiv 54).fmod 2=(a:Int):=v;have eb:(f.fdiv 108).fmod 5=(b:Int):=eb;have z:(f.fdiv 540).fmod 2=(c:Int):=z;have t1:DK 54=true:=EO (by decide)<|by decide
 have t2:DK 108=true:=EO (by decide)<|by decide
 have t3:DK 540=true:=EO (by decide)<|by decide
 let(w,X,B):∃w∈FD,Ar [T.str "<",.str "<="] (a:Int)=↑(.str w):=by
  have:a=0\/a=1:=by lia
  rcases this with rfl|rfl;exact{_,.head _,rfl};exact{_,.tail _<|.head _,rfl}
 have mu:Bq u (b:Int)=true:=J5<|DR (Ų (b:=0) (by decide +kernel)<|by lia)<|ĺ (b:=5) (by lia)<|by decide +kernel
 let(n,en,V):∃n:Int,n=u * (b:Int)/\0<=n:={_,rfl,Int.mul_nonneg W<|by lia}
 let(E,O,J,lE):∃E:qF,(List.replicate c [T.tup [.str Bh,.str w,.int n]]).flatten=E/\(∀t∈E,t=T.tup [.str Bh,.str w,.int n])/\E.length<=1:={_,rfl,λt h=>by
  let(l,U,h):=List.mem_flatten.mp h;rw[List.eq_of_mem_replicate U]at h;exact È.mp h,by
  rw[Α,ň]
  lia}
 have Z:OA (c:Int)=true:=@decide_eq_true _ (Classical.propDecidable _) {ĺ (b:=2) (by lia) (by decide +kernel),Int.le_trans (b:=0) (by decide +kernel)<|by lia};have kl:1 * c<=BI:=by unfold BI;lia
 have F:AX E=true:=by
  rw[CM,Ò];intro t h;rw[J t h];rfl
 have K:M.ws.getD ws.length Str.empty=Bh:=by
  rw[r,Þ,ą<|Ä _,Nat.sub_self];rfl
 have lc:=Ct (b:=Ay 2<|AQ (AD 0)<|AQ (AD 1) BA) (me:=Oi) AL (λg=>AL (g.1,g.2++E)) (λY=>∃x y,Y=[x,y,↑(.tup [.str Bh,.str w,.int n]),↑(.int f)]) gl [none,none,↑(.tup [.str Bh,.str w,.int n]),↑(.int f)] {_,_,rfl} λg d Y R=>by
  let(x,y,rfl):=R;have i:=(k g d).2.1.sh;have l2:=H g d;have ll:g.2.length+E.length<=BI:=by unfold BI;lia
  have sa:AX (g.2++E)=true:=by
   rw[CM,List.all_append,<- CM,<- CM,i,F];rfl
  have m:(T.tup [.str Bh,.str w,.int n]).sh=true:=rfl;refine{[↑(.str g.1),↑(.lst g.2),↑(.tup [.str Bh,.str w,.int n]),↑(.int f)],by simp![i,AI _ i],?_,_,_,rfl};unfold Oi;change T.tup [.str Bh,.str w,.int n]=A;change g.2=G
  simp![i,AI _ i,m,AO _ m,t3,z,Z,kl,O,AI _ F,ll,sa,AI _ sa]
 refine{gl.map λg=>(g.1,g.2++E),↑ws.length,λg' C=>?_,by rw[À];exact I,λj D=>?_,↑(.tup [.str Bh,.str w,.int n]),?_};let(g,d,rfl):=Ê.mp C;refine{(k g d).1,λt h=>?_,?_};rcases Ø.mp h with h|h;exact(q g d).2.1 t h;rw[J t h];exact{_,_,_,rfl,by rw[r];exact à _<|.head _,Q8 w X,V};have:=H g d;show(g.2++E).length<=2;rw[Ü]
 lia;cases D;exact{by rw[r,Ü];exact ċ _,K,rfl}
 have Q:DE M ↑ws.length=.str Bh:=by
  show T.str (M.ws.getD ws.length Str.empty)=_;rw[K]
 rw[Q,ä];have P:(gl.map<|AL ∘ λg=>(g.1,g.2++E))=gl.map λg=>AL (g.1,g.2++E):=rfl
 rw[P];have N:=k.sh;have lg:(gl.map AL).length<=100000:=by rw[À];lia
 have L:AX (gl.map λg=>AL (g.1,g.2++E))=true:=CU λg d=>by
  have i:=(k g d).2.1.sh
  have sa:AX (g.2++E)=true:=by
   rw[CM,List.all_append,<- CM,<- CM,i,F];rfl
  change g.2++E=GE
  simp![sa]
 have i:A3 (Bw<|AB (mC<|.str "far")<|AB (AW (BE<|Ah (mC<|.str "<")<|Ah (mC<|.str "<=") AE)<|m2 BO (m2 CY (AA 1)<|mC<|.int 54)<|mC<|.int 2)<|AB (m2 CF (AA 3)<|m2 BO (m2 CY (AA 1)<|mC<|.int 108)<|mC<|.int 5) AE) (AD 15) [↑S,↑(.int f),y2,↑(.int u),↑(.lst<|[Bh].map T.str),y5,y6,↑(.lst<|gl.map AL),↑(.str Bh),none,none,none,none,none,none,none,none,none]=↑(.nx [↑S,↑(.int f),y2,↑(.int u),↑(.lst<|[Bh].map T.str),y5,y6,↑(.lst<|gl.map AL),↑(.str Bh),none,none,none,none,none,none,↑(.tup [.str Bh,.str w,.int n]),none,none]):=by
  subst en;show _=↑(Out.nx [↑S,↑(.int f),y2,↑(.int u),↑(.lst<|[Bh].map T.str),y5,y6,↑(.lst<|gl.map AL),↑(.str Bh),none,none,none,none,none,none,↑(.tup [.str "far",.str w,.int<|u * (b:Int)]),none,none]);change [Bh].map T.str=MO;change gl.map AL=GS
  simp![t1,t2,v,eb,B,mu]
 have m:(T.tup [.str Bh,.str w,.int n]).sh=true:=rfl;change T.tup [.str Bh,.str w,.int n]=A;change [Bh].map T.str=MO;change gl.map AL=GS;change (gl.map λg=>AL (g.1,g.2++E))=GE;refine LY (by simp![p,AI _ p,e])<|sq (Y':=[↑S,↑(.int f),y2,↑(.int u),↑(.lst MO),y5,y6,↑(.lst GS),↑(.str Bh),none,none,none,none,none,none,none,none,none]) (by simp![];rfl)<|sq i ?_
 simp![N,AI _ N,lg,m,AO _ m,lc,L,AI _ L]
def Kq(L:List Nd)(x:Str):List<|List<|Str×Db.Z:=[Bu L,(Bu L).reverse,Bu L++Bu L,(x,Fk)::Bu L,L.map λn=>(n.r,Cd n.z)]
def ZE{M:Mc}{mo:(Nat->Db.B)×Option Nat}{L:List Nd}(ok:∀n∈L,NdOk M mo n)(f:L.length<=10){x:Str}(e:x∈M.nm):∀P∈Kq L x,EL M L P/\P.length<=20/\∀p∈P,p.1∈M.nm:=λP d=>by
 have r:=znm ok;have g:(Bu L).length=L.length:=À _
 have b:∀p∈Bu L,p.1∈M.nm:=λp a=>by
  let(n,c,rfl):=Ê.mp a;exact(ok n c).r
 erw[Kq,Ñ,đ,ě]at d;rcases d with rfl|rfl|rfl|rfl|rfl;exact{r,by lia,b};exact{r.of λq=>Ż,by rw[Ŏ];lia,λp a=>b p<|Ż.mp a};exact{r.of λq=>by rw[Ø,or_self],by rw[Ü];lia,λp a=>b p (by rwa[Ø,or_self]at a)}
 exact{r.em x,by rw[ñ];lia,λp a=>by
  rcases Ñ.mp a with rfl|a;exact e
  exact b p a}
 exact{zno ok,by rw[À];lia,λp a=>by
  let(n,c,rfl):=Ê.mp a;exact(ok n c).r}
def pg_mk{M:Mc}(h:McOk M){gl:List<|Str×qF}(c:Dy M.ws (M.rs.map (·.1)) gl)(d:gl.length<=1000):G3 [A9 M,.lst<|gl.map AL]=↑(.ok<|.own<|(Bz M gl).map CV):=by
 have pg:G3 [A9 M,.lst<|gl.map AL]=↑(.ok<|.own<|gl.map λg=>.tup [.str g.1,.lst<|g.2.map<|Ba M.ws]):=Sl h c d
 have a:(gl.map λg=>T.tup [.str g.1,.lst<|g.2.map<|Ba M.ws])=(Bz M gl).map CV:=by
  unfold Bz;rw[ä];refine ÿ λg b=>?_;show T.tup [.str g.1,.lst<|g.2.map<|Ba M.ws]=.tup [.str g.1,.lst<|(g.2.map<|Eo M.ws).map Aj];rw[NF (c g b).2.1]
 rw[a]at pg;exact pg
def zjw{M:Mc}(h:McOk M){gl:List<|Str×qF}(a:Dy M.ws (M.rs.map (·.1)) gl)(j:gl.length<=1000){o:Option Nat}(F:Frd M<|Cr M gl o){L:List Nd}(l:Lst45 M (Bz M gl) (Cr M gl o) L)(m:L.length<=10){x:Str}(k:x∈M.nm):∀P∈Kq L x,KC [A9 M,.lst<|gl.map AL,.lst<|P.map<|BC<|M.ws.length+1]=↑(.ok<|.bl<|!(GY (Bz M gl) L)):=λP i=>by
 let(r,q,n):=ZE l.ok m k P i;have f:=dR h a;have p:=a.sh
 have c:(T.lst<|gl.map AL).sh=true:=by
  change gl.map AL=L
  simp![p]
 have lb:=zpn h (P:=P) (by lia) n c (pg_mk h a j) (λg b=>by
  let(d,e,rfl):=Ê.mp b;exact{(a d e).1,IS (a d e).2.1}) (by unfold Bz;rw[À];lia)
 rw[zpq h F f l r]at lb;exact lb
def law_true(ns:kz)(hns:ns.length<=63):Wj [B3 ns]=↑(.ok<|.bl true):=by
 have FS:=YK ns;have s:=YJ ns;have c0:=Od ns (k:=0)<|by decide
 have c1:=Od ns (k:=1)<|by decide
 have c3:=Od ns (k:=3)<|by decide
 change ns.getD (0:Int).toNat 0=f;change ns.getD (1:Int).toNat 0=f1;change ns.getD (3:Int).toNat 0=f3;let(v,ev,hv):=FU (f.fdiv 9) 2<|by decide
 have ev:(f.fdiv 9).fmod 2=(v:Int):=ev;have t9:DK 9=true:=EO (by decide)<|by decide
 have p12:(0:Int)<=12/\(12:Int)<=1000000/\Fe 10=true:={by decide,by decide,DR (by decide)<|by decide};have r12:(10:Int) ^ (12:Int).toNat=1000000000000:=rfl
 let(u,hu,eu):∃u:Int,0<=u/\Ar [T.int 1,.int 1000000000000] (v:Int)=↑(.int u):=by
  have:v=0\/v=1:=by lia
  rcases this with rfl|rfl;exact{1,by decide,rfl};exact{1000000000000,by decide,rfl}
 let(w0,hw0,ew0):=zml (B3 ns) f;let(ws,c,hws,J,K):=zqn (B3 ns) f hw0<|↑(.int u);let(k,hk,j,rfl):=hws;have wsub:∀x∈(CK k).take j,x∈CK k:=λx a=>List.mem_of_mem_take a
 have nodup:((CK k).take j++[Bh]).Nodup:=((List.take_sublist j<|CK k).append (List.Sublist.refl _)).nodup (ww_nd k hk)
 have len:((CK k).take j).length<=2:=by
  have:=zmj k hk;rw[û];lia
 change (CK k).take j=ws;have R:∀x∈ws,x≠Bh:=λx a z=>(List.nodup_append.mp nodup).2.2 x a Bh (.head _) z
 have wnm:∀x∈Bh::CK k,HD x:=λx a=>.inr {λi hi=>(XX k hk x a).1 i hi,(XX k hk x a).2}
 have hw:∀x∈ws++c,HD x:=λx a=>by
  rcases Ø.mp a with a|a;exact wnm x<|.tail _<|wsub x a
  rcases J with rfl|rfl;cases a;rw[È.mp a];exact wnm _<|.head _
 have tw:Cm ws:=λx a=>K2<|hw x<|ù _ a
 have nd1:ws.Nodup:=(List.nodup_append.mp nodup).1
 have nd2:(ws++c).Nodup:=by
  rcases J with rfl|rfl;rw[è];exact nd1;exact nodup
 have l7:(ws++c).length<=7:=by
  rw[Ü];rcases J with rfl|rfl;show _+0<=7;lia;show _+1<=7;lia
 let(rs,q,lrs,ers):=znl f1 tw hu;let(M,eM,eR,hM,emac):=zpf ns hns tw nd1 (by lia) hu q hw nd2 l7
 let(D,hg0,hg1,hg2,egl):=zqc f3 tw hu q;have hg0':Dy ws (M.rs.map (·.1)) D:=by rw[eR];exact hg0
 let(gl,o,hg,lgl,ho,y15,C):=zql (B3 ns) f eM J hu hg0' hg1 hg2 (y2:=↑(.lst<|ws.map T.str)) (y5:=↑(.lst<|rs.map AL)) (y6:=↑(A9 M));have ho1:∀j∈o,j<M.ws.length:=λj hj=>(ho j hj).1
 have F:Frd M<|Cr M gl o:=zqg hM gl ho1 λj hj r hr t ht=>by
  rw[(ho j hj).2.1];rw[eR]at hr;let(x,y,n,rfl,h1,_):=(q.lk r hr).1 t ht;exact R x h1
 have lw:M.ws.length=ws.length+c.length:=by rw[eM,Ü]
 have X:=GN hM;have w:=AO _ X;have sR:=JX q;have H:=AI _ sR;have sW:AX (ws.map T.str)=true:=Av _;have I:=AI _ sW;have sO:AX (c.map T.str)=true:=Av _;have eSO:=AI _ sO;have sG0:=hg0.sh;have eSG0:=AI _ sG0;have sG:=hg.sh;have E:=AI _ sG;have U:=Ux M o;have eFr:=AO _ U;have se:=zn8 hM hg (by lia) ho1
 suffices run:N9 [↑(B3 ns),none,none,none,none,none,none,none,none,none,none,none,none,none,none,none,none,none]=↑(.rt<|.bl true) by
  unfold Wj;change B3 ns=S
  simp![FS,s,run]
 unfold N9;refine sq (Y':=CZ (B3 ns) f none none none none none none none none none none none none none none none none) (by unfold CZ;change B3 ns=S;simp![FS,s,c0])<|sq ew0 ?_
 refine sq (Y':=CZ (B3 ns) f (↑(.lst<|w0.map T.str)) (↑(.int u)) none none none none none none none none none none none none none none) (by unfold CZ;change B3 ns=S;change w0.map T.str=W0;simp![t9,ev,p12,r12,eu]) ?_;refine sq (Y':=CZ (B3 ns) f (↑(.lst<|w0.map T.str)) (↑(.int u)) (↑(.lst [])) none none none none none none none none none none none none none) (by unfold CZ;change B3 ns=S;change w0.map T.str=W0;simp![])<|sq K ?_
 refine sq (Y':=CZ (B3 ns) f (↑(.lst<|ws.map T.str)) (↑(.int u)) (↑(.lst<|c.map T.str)) (↑(.lst<|rs.map AL)) none none none none none none none none none none none none) (by unfold CZ;change B3 ns=S;change ws.map T.str=W0;change c.map T.str=MO;change rs.map AL=RS;simp![FS,s,c1,sW,I,ers,sR,H]) ?_;refine sq (Y':=CZ (B3 ns) f (↑(.lst<|ws.map T.str)) (↑(.int u)) (↑(.lst<|c.map T.str)) (↑(.lst<|rs.map AL)) (↑(A9 M)) none none none none none none none none none none none) (by unfold CZ;change B3 ns=S;change ws.map T.str=W0;change c.map T.str=MO;change rs.map AL=RS;change A9 M=MM;simp![FS,s,sR,H,sW,I,sO,eSO,emac,X,w]) ?_;refine sq (Y':=CZ (B3 ns) f (↑(.lst<|ws.map T.str)) (↑(.int u)) (↑(.lst<|c.map T.str)) (↑(.lst<|rs.map AL)) (↑(A9 M)) (↑(.lst<|D.map AL)) none none none none none none none none none none) (by unfold CZ;change B3 ns=S;change ws.map T.str=W0;change c.map T.str=MO;change rs.map AL=RS;change A9 M=MM;change D.map AL=GS;simp![FS,s,c3,sR,H,sW,I,egl,sG0,eSG0]) ?_;refine sq (Y':=CZ (B3 ns) f (↑(.lst<|ws.map T.str)) (↑(.int u)) (↑(.lst<|c.map T.str)) (↑(.lst<|rs.map AL)) (↑(A9 M)) (↑(.lst<|D.map AL)) (↑.non) none none none none none none none none none) (by unfold CZ;change B3 ns=S;change ws.map T.str=W0;change c.map T.str=MO;change rs.map AL=RS;change A9 M=MM;change D.map AL=GS;simp![])<|sq C ?_
 clear ew0 K C;rcases se with es|⟨L,es,ll,l⟩;unfold CZ;change B3 ns=S;change ws.map T.str=WS;change c.map T.str=MO;change rs.map AL=RS;change gl.map AL=GS;change A9 M=MM;change DE M o=FR;refine sq (by simp![X,w,sG,E,U,eFr,es];rfl)<|sr<|by simp![]
 have nm:M.nm=rs.map (·.1):=by unfold Mc.nm;rw[eR]
 let(r,er):∃r,rs.getLast?=↑r:=by
  cases e:rs.getLast? with
  |none=>have:=q.l1;rw[List.getLast?_eq_none_iff.mp e]at this;simp at this|some r=>exact{(r),rfl}
 have hr:r∈rs:=ō er;have a:r.1∈M.nm:=by rw[nm];exact þ hr
 have tk:=zjw hM hg (by lia) F l ll a;have pk:=ZE l.ok ll a;have atr:Ar (rs.map AL) (-1)=↑(AL r):=k8 (by rw[List.getLast?_map,er];rfl)
 have srr:(AL r).sh=true:=by
  have:=(q.lk r hr).1.sh
  simp![this]
 let(n,en):∃n,n=M.ws.length+1:={_,rfl};rw[<- en]at tk;have n1:1<=n:=by lia
 have n9:n<=8:=by
  have:=hM.wl;lia
 have W:=FO M.ws.length L;have eL:=AI _ W
 have eP:(Bu L).map (BC n)=L.map λd=>BC n (d.r,d.z):=by
  unfold Bu;rw[ä];rfl
 have c20:=Ct (b:=AD 0) (me:=WA) (AS M.ws.length) (λd=>BC n (d.r,d.z)) (λY=>∃x,Y=[x]) L [none] {(none),rfl} λd ϊ Y Q=>by
  let(x,rfl):=Q;have sd:=GJ M.ws.length d;have sz:=Bl n d.z;have z0:=EB d.p;have z1:=EB d.k;have a0:Ar [T.str d.r,zT n d.z,Bb d.p,Bb d.k] 0=↑(.str d.r):=Iq (by decide) rfl
  have a1:Ar [T.str d.r,zT n d.z,Bb d.p,Bb d.k] 1=↑(zT n d.z):=Iq (by decide) rfl
  refine{[↑(AS M.ws.length d)],by
   change AS M.ws.length d=DT
   simp![sd,AO _ sd],?_,_,rfl}
  unfold WA AS BC;rw[<- en];change zT n d.z=Z;change Bb d.p=A;change Bb d.k=B
  simp![a0,a1,sz,AO _ sz,z0,z1,AO _ z0,AO _ z1]
 rw[<- eP]at c20
 have N:=Cj (n:=n) (me:=Oh) (x:=none) (cs:=[↑(.int (n:Int))]) (g:=λi=>.int (i:Int)) (f:=λi=>.own<|mT n λj=>bT<|Fk i j) λi hi=>by
  have kn:OA (n:Int)=true:=@decide_eq_true _ (Classical.propDecidable _) {ĺ (b:=9) (by lia) (by decide +kernel),Int.le_trans (b:=0) (by decide +kernel)<|by lia};have kl:1 * n<=BI:=by unfold BI;lia
  have er:=znn n<|.int 0;unfold Oh;show _=↑(Rs.v (.own<|mT n λj=>.int 0) false)
  rw[<- er]
  simp![kn,kl]
 have N:CW (AD 0) (mC<|.bl true) Oh (mT n λi=>.int (i:Int)) [none,↑(.int (n:Int))]=↑(oZ n Fk):=N;have oE:=Gj (n:=n) (g:=Fk);have sZ:AX (mT n λi=>rT n<|Fk i)=true:=Fu λi=>JY _ _
 have V:=J0 n<|Bu L;have G:=AI _ V;have lP:(Bu L).length=L.length:=À _
 have c24:=Ct (b:=Ay 2<|AQ (AD 0)<|AQ (AD 1) BA) (me:=Vz) (BC n) (λp=>BC n (p.1,Cd p.2)) (λY=>∃x y,Y=[x,y]) (Bu L) [none,none] {(none),none,rfl} λp ϊ Y Q=>by
  let(x,y,rfl):=Q;have sz:=Bl n p.2;have lo:=zpi (n:=n) (by lia) (f:=p.2)<|by lia
  have os:=Gj (n:=n) (g:=Cd p.2);unfold BC;have ez:zT n (Cd p.2)=.lst (mT n λi=>rT n<|Cd p.2 i):=rfl
  refine{[↑(.str p.1),↑(zT n p.2)],by
   change zT n p.2=Z
   simp![sz,AO _ sz],?_,_,_,rfl}
  unfold Vz;rw[ez,<- os];change zT n p.2=Z;change oZ n (Cd p.2)=OZ
  simp![sz,AO _ sz,lo]
 let(h,O):∃h,h=Kq L r.1:={_,rfl};have tk':∀P∈h,KC [A9 M,.lst<|gl.map AL,.lst<|P.map<|BC n]=↑(.ok<|.bl<|!(GY (Bz M gl) L)):=by rw[O];exact tk
 have lPs:h.length=5:=by rw[O];rfl
 have sPs:AX (h.map λP=>T.lst<|P.map<|BC n)=true:=CU λP ϊ=>by
  have:=J0 n P;change P.map (BC n)=PP
  simp![this]
 let(m,ebb):∃m,m=GY (Bz M gl) L:={_,rfl};rw[<- ebb]at es tk'
 have c25:=Ct (b:=AD 0) (me:=Vy) (λP=>T.lst<|P.map<|BC n) (λϊ=>.bl<|!m) (λY=>∃x,Y=[x,↑(.lst<|gl.map AL),↑(A9 M)]) h [none,↑(.lst<|gl.map AL),↑(A9 M)] {(none),rfl} λP hP Y Q=>by
  let(x,rfl):=Q;have e:=tk' P hP;have s1:=J0 n P;change P.map (BC n)=PP;change gl.map AL=GS;change A9 M=MM;refine{[↑(.lst PP),↑(.lst GS),↑MM],by simp![s1,AI _ s1],?_,_,rfl}
  unfold Vy
  simp![X,w,sG,E,s1,AI _ s1,e]
 have c26:=Ct (b:=AD 0) (me:=Vx) (λϊ=>T.bl<|!m) (λϊ=>.bl true) (λY=>∃x,Y=[x,↑(.bl m)]) h [none,↑(.bl m)] {(none),rfl} λP ϊ Y Q=>by
  let(x,rfl):=Q;refine{[↑(.bl<|!m),↑(.bl m)],by simp![],?_,_,rfl};unfold Vx;cases m<;>rfl
 have b25:=HB (λ_:List (Str×Db.Z)=>!m) h;have b26:=HA (λ_:List (Str×Db.Z)=>true) h;have s26:=HB (λ_:List (Str×Db.Z)=>true) h
 have a26:(h.map λϊ=>true).all id=true:=by
  rw[ř,Ò];exact λϊ ϊ=>rfl
 have l100:(h.map λϊ=>T.bl<|!m).length<=100000:=by rw[À];lia
 have lp5:(h.map λP=>T.lst<|P.map<|BC n).length<=100000:=by rw[À];lia
 have lLd:(L.map<|AS M.ws.length).length<=100000:=by rw[À];lia
 have lPP:((Bu L).map (BC n)).length<=100000:=by rw[À];lia
 have eps:(h.map λP=>T.lst<|P.map<|BC n)=[.lst<|(Bu L).map (BC n),.lst ((Bu L).map (BC n)).reverse,.lst<|(Bu L).map (BC n)++(Bu L).map (BC n),.lst<|.tup [.str r.1,.lst<|mT n λi=>rT n<|Fk i]::(Bu L).map (BC n),.lst<|(Bu L).map λp=>BC n (p.1,Cd p.2)]:=by
  rw[O];unfold Kq Bu;erw[Ö,List.map_nil,List.map_reverse,ß,ä];rfl
 have la:(ws.map T.str).length+(c.map T.str).length<=BI:=by
  rw[À,À];rw[Ü]at l7;unfold BI;lia
 have ln:(((ws.map T.str++c.map T.str).length:Nat):Int)+1=(n:Int):=by
  rw[Ü,À,À];lia
 have sBS:AX (h.map λϊ=>T.bl<|!m)=true:=CU λϊ ϊ=>rfl;have sa:AX (ws.map T.str++c.map T.str)=true:=by rw[<- ß];exact Av _
 have on:Cg (n:Int)=true:=Ea<|by lia
 have rn:FG 0 n=mT n λi=>.int (i:Int):=E8
 have lpa:((Bu L).map (BC n)).length+((Bu L).map (BC n)).length<=BI:=by
  rw[À];unfold BI;lia
 have lpb:1+((Bu L).map (BC n)).length<=BI:=by
  rw[À];unfold BI;lia
 have nl:n<=BI:=by
  unfold BI;lia
 have sE:AX (mT n λi=>rT n<|Fk i)=true:=Fu λi=>JY _ _;have eSE:=AI _ sE
 have sLo:AX ((Bu L).map λp=>BC n (p.1,Cd p.2))=true:=CU λp ϊ=>by
  have:=Bl n<|Cd p.2;unfold BC;change zT n (Cd p.2)=Z
  simp![this]
 have eLo:=AI _ sLo
 have sTu:(T.tup [.lst<|L.map<|AS M.ws.length,.bl m]).sh=true:=by
  change L.map (AS M.ws.length)=LT
  simp![W]
 have sRv:AX ((Bu L).map (BC n)).reverse=true:=by
  rw[CM,List.all_reverse,<- CM];exact V
 have sPa:AX ((Bu L).map (BC n)++(Bu L).map (BC n))=true:=by
  rw[CM,List.all_append,<- CM,V];rfl
 have eSR2:=AI _ sRv;have eSPa:=AI _ sPa;unfold CZ;change L.map (AS M.ws.length)=LT;change B3 ns=S;change ws.map T.str=WS;change c.map T.str=MO;change rs.map AL=RS;change gl.map AL=GS;change A9 M=MM;change DE M o=FR;change (h.map λP=>T.lst<|P.map<|BC n)=PS
 change ((Bu L).map λp=>BC n (p.1,Cd p.2))=LO;change (Bu L).map (BC n)=PP;change (mT n λi=>rT n<|Fk i)=EM;change oZ n Fk=OE;change (h.map λϊ=>T.bl<|!m)=BS;refine sq (by simp![X,w,sG,E,U,eFr,es,W,eL];rfl)<|Fd (LZ (by simp![W,eL])<|by simp![])<|sq (by simp![W,eL];rfl) ?_
 refine sq (by simp![W,eL,lLd,c20,V,G];rfl)<|sq (by simp![sW,I,sO,eSO,la,ln,sa,AI _ sa];rfl)<|sq (by simp![on,rn,nl,N,oE,sE];rfl) ?_
 refine sq (by simp![LG,V,G,sR,H,sE,eSE,atr,srr,lpa,lpb];rfl) ?_;refine sq (by simp![V,G,lPP,c24];rfl) ?_;refine sq (Y':=[↑S,↑(.int f),↑(.lst WS),↑(.int u),↑(.lst MO),↑(.lst RS),↑MM,↑(.lst GS),↑FR,↑(.tup [.lst LT,.bl m]),↑(.lst PP),↑(.int (n:Int)),↑(.lst EM),↑(.lst PS),none,y15,↑(.lst LT),↑(.bl m)]) (by rw[eps];simp![V,G,eSR2,eSPa,eSE,eLo]) ?_;refine sq (by simp![sPs,AI _ sPs,lp5,sG,E,X,w,c25,b25,sBS];rfl) ?_
 simp![b25,sBS,l100,c26,b26,s26,a26]
end
end Zl
namespace Zl
open PySem PySem.W L2 Zw Zx Pu Hd
abbrev pw:Program:=PySem.Challenge.pw_zonewalk_k63_whole_lists_let_by
abbrev Sa:OpenLaw:=PySem.Challenge.rw_zonewalk_k63_whole_lists_let_by
abbrev md:String:="__module__"
abbrev fl:String:="__firstlineno__"
abbrev sa:String:="__static_attributes__"
abbrev dc:String:="__doc__"
abbrev cf:Str:="/claim/cut.py"
def tO(l:ki):Obj:={(.type "tuple"),none,(.seq (Array.mk l) 0),Array.mk []}
def dO(l:List DictEntry)(n:Nat):Obj:={(.type "dict"),none,(.dict (Array.mk l) n),Array.mk []}
def eb:ki:=[(.type "ValueError"),(.type "Exception"),(.type "BaseException"),(.type "object")]
def yO(a:Str)(b c:ki)(n:Addr)(d:ki)(r e f:Nat)(w:String):Obj:={(.type "type"),none,(.cls {a,b,c,n,a,true,[],d,false,none,false}),Array.mk [(↑(.ref r)),none,(↑(.str a e)),(↑(.str a f)),(↑(.builtin w)),(↑(.bool true))]}
def cP(a:Str)(d:Nat)(b:Str)(e f:Nat)(r n k:Int)(c:Nat)(z:Int)(h i j l m:Value)(x y:Int)(g:Nat):Obj:={(.type "code"),none,(.fields<|Array.mk [(.str a d),(.str b e),(.str cf f),(.int r 0),(.int n 0),(.int 0 0),(.int 0 0),(.int k 0),(.ref c),(.bool true),(.int z 0),h,i,j,l,m,(.int x 0),(.int y 0),(.str cf g)]),Array.mk []}
def cL(a b:Str)(t r n q x:Nat):Obj:=cP a t b (t+1) (t+2) r n 3 q 181 (.ref<|q+1) .none (.ref<|q+2) (.ref<|q+3) (.ref<|q+4) x r<|x+1
def cN(a:Str):=cL a a
def cM(a b:Str)(t r n q:Nat):Obj:=cP a t b (t+1) (t+2) r n 3 q 181 (.ref<|q+1) .none .none .none (.ref<|q+2) ((t+3:Nat):Int) r<|t+4
def o2(P:Params):Obj:={.none,none,(.dict (Array.mk []) 0),Array.mk []}
def o3(P:Params):Obj:=dO [en P "__name__" 165<|.str "law_zonewalk_k63_whole_lists_let_by" 1070,en P "__doc__" 166 .none,en P "__package__" 167 .none,en P "__loader__" 168<|.builtin "__main__.__loader__#opaque",en P "__spec__" 169 .none,en P "__annotations__" 170<|.ref 6,en P "__builtins__" 171<|.ref 4,en P "__file__" 173<|.str "/claim/cut.py" 172,en P "__cached__" 174 .none,en P "WalkError" 206<|.ref 24,en P "NoNumber" 222<|.ref 37,en P "BadMachine" 238<|.ref 49,en P "TooMany" 254<|.ref 61,en P "NoMark" 270<|.ref 73,en P "NoRoom" 286<|.ref 85,en P "is_whole" 295<|.ref 94,en P "greatest_divisor" 306<|.ref 101,en P "fraction" 316<|.ref 109,en P "minus" 324<|.ref 116,en P "under" 332<|.ref 123,en P "at_most" 341<|.ref 130,en P "below" 348<|.ref 137,en P "number_of" 355<|.ref 144,en P "is_open" 362<|.ref 151,en P "added" 371<|.ref 158,en P "narrower" 379<|.ref 165,en P "lets" 388<|.ref 172,en P "WORDS" 396<|.ref 173,en P "STAY_WORDS" 399<|.ref 174,en P "is_look" 408<|.ref 181,en P "is_number" 415<|.ref 188,en P "is_guard" 421<|.ref 193,en P "stands_so" 433<|.ref 200,en P "look_bounds" 444<|.ref 207,en P "MOST_WATCHES" 448<|.int 7 447,en P "MOST_ROOMS" 450<|.int 64 449,en P "MOST_DOORS" 452<|.int 200 451,en P "is_small_letter" 459<|.ref 214,en P "is_name" 465<|.ref 219,en P "is_watch_name" 472<|.ref 226,en P "is_room_name" 478<|.ref 231,en P "is_sign" 485<|.ref 238,en P "own_copy" 492<|.ref 245,en P "Door" 544<|.ref 277,en P "Machine" 610<|.ref 331,en P "check_watches" 616<|.ref 340,en P "are_unlike" 623<|.ref 347,en P "check_rooms" 629<|.ref 352,en P "check_doors" 639<|.ref 359,en P "are_noughts" 645<|.ref 364,en P "placed" 651<|.ref 369,en P "nought" 659<|.ref 374,en P "free_bound" 667<|.ref 381,en P "lies_in" 680<|.ref 388,en P "narrowest" 686<|.ref 393,en P "is_broken" 692<|.ref 398,en P "row_over" 705<|.ref 405,en P "within" 717<|.ref 412,en P "is_wider" 725<|.ref 419,en P "holds" 733<|.ref 424,en P "met" 748<|.ref 431,en P "narrowed" 754<|.ref 436,en P "copied" 760<|.ref 441,en P "waited" 769<|.ref 448,en P "put_back" 775<|.ref 453,en P "freed" 785<|.ref 460,en P "folded" 791<|.ref 465,en P "folded_bound" 803<|.ref 472,en P "placed_goal" 811<|.ref 477,en P "placed_mark" 820<|.ref 484,en P "greatest" 826<|.ref 489,en P "all_looks" 832<|.ref 494,en P "placed_stays" 843<|.ref 501,en P "nought_places" 849<|.ref 506,en P "doors_out" 861<|.ref 513,en P "Sheet" 942<|.ref 564,en P "narrow_zones_of" 948<|.ref 573,en P "lets_by" 954<|.ref 578,en P "Walk" 1041<|.ref 628,en P "listed" 1047<|.ref 637,en P "is_covered" 1056<|.ref 644,en P "searched" 1069<|.ref 652,en P "_law_cell_at" 1079<|.ref 659,en P "_law_stream" 1091<|.ref 666,en P "_law_looks" 1105<|.ref 673,en P "_law_machine" 1111<|.ref 678,en P "_law_rooms" 1123<|.ref 685,en P "_law_goal" 1137<|.ref 692,en P "_law_searched" 1147<|.ref 699,en P "_law_loose" 1153<|.ref 704,en P "law" 1159<|.ref 709] 91
def o15(P:Params):Obj:=tO [(.type "ValueError")]
def o22(P:Params):Obj:=tO []
def o23(P:Params):Obj:=dO [en P md 196<|.str "zonewalk.errors" 187,en P fl 200<|.int 2 199,en P sa 201<|.ref 22,en P "__weakref__" 203<|.ref 25,en P dc 204 .none] 3
def o24(P:Params):Obj:=yO "WalkError" [(.type "ValueError")] ([(.ref 24)]++eb) 23 [(.ref 37),(.ref 49),(.ref 61),(.ref 73),(.ref 85)] 15 189 197 "ValueError.__new__"
def o25(P:Params):Obj:={(.type "getset_descriptor"),none,(.fields<|Array.mk [(.str "__weakref__" 202),(.ref 24),(.builtin "ExceptionGroup.__weakref__"),.none]),Array.mk []}
def o28(P:Params):Obj:=tO [(.ref 24)]
def o35(P:Params):Obj:=tO []
def o36(P:Params):Obj:=dO [en P md 214<|.str "zonewalk.errors" 187,en P fl 218<|.int 4 217,en P sa 219<|.ref 35,en P dc 220 .none] 2
def o37(P:Params):Obj:=yO "NoNumber" [(.ref 24)] ([(.ref 37),(.ref 24)]++eb) 36 [] 28 207 215 "ValueError.__new__"
def o40(P:Params):Obj:=tO [(.ref 24)]
def o47(P:Params):Obj:=tO []
def o48(P:Params):Obj:=dO [en P md 230<|.str "zonewalk.errors" 187,en P fl 234<|.int 6 233,en P sa 235<|.ref 47,en P dc 236 .none] 2
def o49(P:Params):Obj:=yO "BadMachine" [(.ref 24)] ([(.ref 49),(.ref 24)]++eb) 48 [] 40 223 231 "ValueError.__new__"
def o52(P:Params):Obj:=tO [(.ref 24)]
def o59(P:Params):Obj:=tO []
def o60(P:Params):Obj:=dO [en P md 246<|.str "zonewalk.errors" 187,en P fl 250<|.int 8 249,en P sa 251<|.ref 59,en P dc 252 .none] 2
def o61(P:Params):Obj:=yO "TooMany" [(.ref 24)] ([(.ref 61),(.ref 24)]++eb) 60 [] 52 239 247 "ValueError.__new__"
def o64(P:Params):Obj:=tO [(.ref 24)]
def o71(P:Params):Obj:=tO []
def o72(P:Params):Obj:=dO [en P md 262<|.str "zonewalk.errors" 187,en P fl 266<|.int 10 265,en P sa 267<|.ref 71,en P dc 268 .none] 2
def o73(P:Params):Obj:=yO "NoMark" [(.ref 24)] ([(.ref 73),(.ref 24)]++eb) 72 [] 64 255 263 "ValueError.__new__"
def o76(P:Params):Obj:=tO [(.ref 24)]
def o83(P:Params):Obj:=tO []
def o84(P:Params):Obj:=dO [en P md 278<|.str "zonewalk.errors" 187,en P fl 282<|.int 12 281,en P sa 283<|.ref 83,en P dc 284 .none] 2
def o85(P:Params):Obj:=yO "NoRoom" [(.ref 24)] ([(.ref 85),(.ref 24)]++eb) 84 [] 76 271 279 "ValueError.__new__"
def o93(_:Params):=cN "is_whole" 289 15 1 88 293
def OM(a:Str)(s:Stmt)(c:Nat):=gO a s "zonewalk.fractions" 287 c
def Za(_:Params):=OM "is_whole" (AK 8) 93
def o100(_:Params):=cN "greatest_divisor" 296 17 2 95 304
def cV(_:Params):=OM "greatest_divisor" (AK 9) 100
def cU(P:Params):Obj:=tO [(.int 1 307)]
def o108(_:Params):=cN "fraction" 308 25 2 103 314
def cT(_:Params):=fO "fraction" "fraction" (AK 10) (.ref 102) "zonewalk.fractions" 287 108 .none
def o115(_:Params):=cN "minus" 317 34 2 110 322
def cS(_:Params):=OM "minus" (AK 11) 115
def o122(_:Params):=cN "under" 325 36 2 117 330
def cR(_:Params):=OM "under" (AK 12) 122
def o129(_:Params):=cN "at_most" 335 39 1 124 339
def Ih(a:Str)(s:Stmt)(c:Nat):=gO a s "zonewalk.bounds" 333 c
def cQ(_:Params):=Ih "at_most" (AK 14) 129
def o136(_:Params):=cN "below" 342 41 1 131 346
def cO(_:Params):=Ih "below" (AK 15) 136
def o143(_:Params):=cN "number_of" 349 43 1 138 353
def cK(_:Params):=Ih "number_of" (AK 16) 143
def o150(_:Params):=cN "is_open" 356 45 1 145 360
def cJ(_:Params):=Ih "is_open" (AK 17) 150
def o157(_:Params):=cN "added" 363 47 2 152 369
def cI(_:Params):=Ih "added" (AK 18) 157
def o164(_:Params):=cN "narrower" 372 54 2 159 377
def cH(_:Params):=Ih "narrower" (AK 19) 164
def o171(_:Params):=cN "lets" 380 60 2 166 386
def cG(_:Params):=Ih "lets" (AK 20) 171
def cF(P:Params):Obj:=tO [(.str "<" 391),(.str "<=" 392),(.str ">" 393),(.str ">=" 394),(.str "=" 395)]
def cE(P:Params):Obj:=tO [(.str "<" 397),(.str "<=" 398)]
def o180(_:Params):=cN "is_look" 400 70 3 175 406
def L5(a:Str)(s:Stmt)(c:Nat):=gO a s "zonewalk.looks" 389 c
def cD(_:Params):=L5 "is_look" (AK 24) 180
def o187(_:Params):=cN "is_number" 409 74 1 182 413
def cC(_:Params):=L5 "is_number" (AK 25) 187
def o192(P:Params):Obj:=cM "is_guard" "is_guard" 416 76 3 189
def cB(_:Params):=L5 "is_guard" (AK 26) 192
def o199(_:Params):=cN "stands_so" 422 78 3 194 431
def cA(_:Params):=L5 "stands_so" (AK 27) 199
def o206(_:Params):=cN "look_bounds" 434 91 4 201 442
def b9(_:Params):=L5 "look_bounds" (AK 28) 206
def o213(_:Params):=cN "is_small_letter" 453 106 1 208 457
def FZ(a:Str)(s:Stmt)(c:Nat):=gO a s "zonewalk.machines" 445 c
def b7(_:Params):=FZ "is_small_letter" (AK 33) 213
def o218(P:Params):Obj:=cM "is_name" "is_name" 460 108 1 215
def bZ(_:Params):=FZ "is_name" (AK 34) 218
def o225(_:Params):=cN "is_watch_name" 466 110 1 220 470
def bY(_:Params):=FZ "is_watch_name" (AK 35) 225
def o230(P:Params):Obj:=cM "is_room_name" "is_room_name" 473 112 1 227
def bX(_:Params):=FZ "is_room_name" (AK 36) 230
def o237(_:Params):=cN "is_sign" 479 116 1 232 483
def bW(_:Params):=FZ "is_sign" (AK 37) 237
def o244(_:Params):=cN "own_copy" 486 120 1 239 490
def bV(_:Params):=FZ "own_copy" (AK 38) 244
def bU(P:Params):Obj:=tO [(.str "" 505)]
def o259(P:Params):Obj:=cL "__init__" "Door.__init__" 506 124 6 254 515
def bS(_:Params):=fO "__init__" "Door.__init__" (BY 39 0) (.ref 253) "zonewalk.machines" 445 259 .none
def o266(P:Params):Obj:=cL "asks" "Door.asks" 518 131 1 261 522
def bR(_:Params):=fO "asks" "Door.asks" (BY 39 1) .none "zonewalk.machines" 445 266 .none
def o273(P:Params):Obj:=cL "sets" "Door.sets" 525 134 1 268 529
def bQ(_:Params):=fO "sets" "Door.sets" (BY 39 2) .none "zonewalk.machines" 445 273 .none
def o275(P:Params):Obj:=tO [(.str "end" 532),(.str "guard" 533),(.str "noughts" 534),(.str "sign" 535),(.str "start" 536)]
def o276(P:Params):Obj:=dO [en P md 500<|.str "zonewalk.machines" 445,en P fl 504<|.int 122 503,en P "__init__" 517<|.ref 260,en P "asks" 524<|.ref 267,en P "sets" 531<|.ref 274,en P sa 537<|.ref 275,en P "__dict__" 539<|.ref 278,en P "__weakref__" 541<|.ref 279,en P dc 542 .none] 4
def o277(P:Params):Obj:={(.type "type"),none,(.cls {"Door",[(.type "object")],[(.ref 277),(.type "object")],276,"Door",true,[],[],false,none,false}),Array.mk [none,none,(↑(.str "Door" 493)),(↑(.str "Door" 501)),(↑(.builtin "object.__new__")),(↑(.bool true))]}
def o278(P:Params):Obj:={(.type "getset_descriptor"),none,(.fields<|Array.mk [(.str "__dict__" 538),(.ref 277),(.builtin "function.__dict__"),(.builtin "function.__dict__#set")]),Array.mk []}
def o279(P:Params):Obj:={(.type "getset_descriptor"),none,(.fields<|Array.mk [(.str "__weakref__" 540),(.ref 277),(.builtin "ExceptionGroup.__weakref__"),.none]),Array.mk []}
def o292(P:Params):Obj:=cM "__init__" "Machine.__init__" 557 138 4 289
def bP(_:Params):=fO "__init__" "Machine.__init__" (BY 40 0) .none "zonewalk.machines" 445 292 .none
def o299(P:Params):Obj:=cL "watches" "Machine.watches" 563 150 1 294 567
def bO(_:Params):=fO "watches" "Machine.watches" (BY 40 1) .none "zonewalk.machines" 445 299 .none
def o306(P:Params):Obj:=cL "rooms" "Machine.rooms" 570 153 1 301 574
def bN(_:Params):=fO "rooms" "Machine.rooms" (BY 40 2) .none "zonewalk.machines" 445 306 .none
def o313(P:Params):Obj:=cL "doors" "Machine.doors" 577 156 1 308 581
def bM(_:Params):=fO "doors" "Machine.doors" (BY 40 3) .none "zonewalk.machines" 445 313 .none
def o320(P:Params):Obj:=cL "stay" "Machine.stay" 584 159 2 315 589
def bL(_:Params):=fO "stay" "Machine.stay" (BY 40 4) .none "zonewalk.machines" 445 320 .none
def o327(P:Params):Obj:=cL "watch_number" "Machine.watch_number" 592 162 2 322 597
def bK(_:Params):=fO "watch_number" "Machine.watch_number" (BY 40 5) .none "zonewalk.machines" 445 327 .none
def o329(P:Params):Obj:=tO [(.str "door_list" 600),(.str "stays" 601),(.str "watch_names" 602)]
def o330(P:Params):Obj:=dO [en P md 552<|.str "zonewalk.machines" 445,en P fl 556<|.int 136 555,en P "__init__" 562<|.ref 293,en P "watches" 569<|.ref 300,en P "rooms" 576<|.ref 307,en P "doors" 583<|.ref 314,en P "stay" 591<|.ref 321,en P "watch_number" 599<|.ref 328,en P sa 603<|.ref 329,en P "__dict__" 605<|.ref 332,en P "__weakref__" 607<|.ref 333,en P dc 608 .none] 4
def o331(P:Params):Obj:={(.type "type"),none,(.cls {"Machine",[(.type "object")],[(.ref 331),(.type "object")],330,"Machine",true,[],[],false,none,false}),Array.mk [none,none,(↑(.str "Machine" 545)),(↑(.str "Machine" 553)),(↑(.builtin "object.__new__")),(↑(.bool true))]}
def o332(P:Params):Obj:={(.type "getset_descriptor"),none,(.fields<|Array.mk [(.str "__dict__" 604),(.ref 331),(.builtin "function.__dict__"),(.builtin "function.__dict__#set")]),Array.mk []}
def o333(P:Params):Obj:={(.type "getset_descriptor"),none,(.fields<|Array.mk [(.str "__weakref__" 606),(.ref 331),(.builtin "ExceptionGroup.__weakref__"),.none]),Array.mk []}
def o339(P:Params):Obj:=cM "check_watches" "check_watches" 611 164 1 336
def bJ(_:Params):=FZ "check_watches" (AK 41) 339
def o346(_:Params):=cN "are_unlike" 617 169 1 341 621
def bI(_:Params):=FZ "are_unlike" (AK 42) 346
def o351(P:Params):Obj:=cM "check_rooms" "check_rooms" 624 171 2 348
def bH(_:Params):=FZ "check_rooms" (AK 43) 351
def o358(_:Params):=cN "check_doors" 630 181 3 353 637
def bG(_:Params):=FZ "check_doors" (AK 44) 358
def o363(P:Params):Obj:=cM "are_noughts" "are_noughts" 640 193 2 360
def bE(_:Params):=FZ "are_noughts" (AK 45) 363
def o368(P:Params):Obj:=cM "placed" "placed" 646 197 2 365
def bD(_:Params):=FZ "placed" (AK 46) 368
def o373(P:Params):Obj:=cM "nought" "nought" 654 203 1 370
def Ho(a:Str)(s:Stmt)(c:Nat):=gO a s "zonewalk.zones" 652 c
def bB(_:Params):=Ho "nought" (AK 48) 373
def o380(_:Params):=cN "free_bound" 660 205 2 375 665
def bA(_:Params):=Ho "free_bound" (AK 49) 380
def o387(_:Params):=cN "lies_in" 668 209 2 382 678
def a9(_:Params):=Ho "lies_in" (AK 50) 387
def o392(P:Params):Obj:=cM "narrowest" "narrowest" 681 216 1 389
def a7(_:Params):=Ho "narrowest" (AK 51) 392
def o397(P:Params):Obj:=cM "is_broken" "is_broken" 687 224 1 394
def aZ(_:Params):=Ho "is_broken" (AK 52) 397
def o404(_:Params):=cN "row_over" 693 226 3 399 703
def aY(_:Params):=Ho "row_over" (AK 53) 404
def o411(_:Params):=cN "within" 706 235 2 406 715
def aX(_:Params):=Ho "within" (AK 54) 411
def o418(_:Params):=cN "is_wider" 718 241 2 413 723
def aW(_:Params):=Ho "is_wider" (AK 55) 418
def o423(P:Params):Obj:=cM "holds" "holds" 728 246 2 420
def Gv(a:Str)(s:Stmt)(c:Nat):=gO a s "zonewalk.moves" 726 c
def aV(_:Params):=Gv "holds" (AK 57) 423
def o430(_:Params):=cN "met" 734 248 2 425 746
def aU(_:Params):=Gv "met" (AK 58) 430
def o435(P:Params):Obj:=cM "narrowed" "narrowed" 749 256 4 432
def aT(_:Params):=Gv "narrowed" (AK 59) 435
def o440(P:Params):Obj:=cM "copied" "copied" 755 263 1 437
def aS(_:Params):=Gv "copied" (AK 60) 440
def o447(_:Params):=cN "waited" 761 265 1 442 767
def aR(_:Params):=Gv "waited" (AK 61) 447
def o452(P:Params):Obj:=cM "put_back" "put_back" 770 270 2 449
def aQ(_:Params):=Gv "put_back" (AK 62) 452
def o459(_:Params):=cN "freed" 776 273 2 454 783
def aP(_:Params):=Gv "freed" (AK 63) 459
def o464(P:Params):Obj:=cM "folded" "folded" 786 279 2 461
def aO(_:Params):=Gv "folded" (AK 64) 464
def o471(_:Params):=cN "folded_bound" 792 283 4 466 801
def aN(_:Params):=Gv "folded_bound" (AK 65) 471
def o476(P:Params):Obj:=cM "placed_goal" "placed_goal" 806 294 2 473
def OL(a:Str)(s:Stmt)(c:Nat):=gO a s "zonewalk.goals" 804 c
def aM(_:Params):=OL "placed_goal" (AK 67) 476
def o483(_:Params):=cN "placed_mark" 812 299 3 478 818
def aL(_:Params):=OL "placed_mark" (AK 68) 483
def o488(P:Params):Obj:=cM "greatest" "greatest" 821 305 2 485
def aK(_:Params):=OL "greatest" (AK 69) 488
def o493(P:Params):Obj:=cM "all_looks" "all_looks" 827 311 2 490
def aJ(_:Params):=OL "all_looks" (AK 70) 493
def o500(_:Params):=cN "placed_stays" 835 317 1 495 841
def Uv(a:Str)(s:Stmt)(c:Nat):=gO a s "zonewalk.plans" 833 c
def aI(_:Params):=Uv "placed_stays" (AK 72) 500
def o505(P:Params):Obj:=cM "nought_places" "nought_places" 844 322 2 502
def aH(_:Params):=Uv "nought_places" (AK 73) 505
def o512(_:Params):=cN "doors_out" 850 324 1 507 859
def aG(_:Params):=Uv "doors_out" (AK 74) 512
def o524(P:Params):Obj:=cM "__init__" "Sheet.__init__" 876 336 3 521
def aF(_:Params):=fO "__init__" "Sheet.__init__" (BY 76 0) .none "zonewalk.papers" 862 524 .none
def o529(P:Params):Obj:=cM "holds_start" "Sheet.holds_start" 882 345 1 526
def aE(_:Params):=fO "holds_start" "Sheet.holds_start" (BY 76 1) .none "zonewalk.papers" 862 529 .none
def o536(P:Params):Obj:=cL "holds_within" "Sheet.holds_within" 888 350 3 531 895
def aD(_:Params):=fO "holds_within" "Sheet.holds_within" (BY 76 2) .none "zonewalk.papers" 862 536 .none
def o543(P:Params):Obj:=cL "holds_wait" "Sheet.holds_wait" 898 358 3 538 904
def aC(_:Params):=fO "holds_wait" "Sheet.holds_wait" (BY 76 3) .none "zonewalk.papers" 862 543 .none
def o550(P:Params):Obj:=cL "holds_way" "Sheet.holds_way" 907 361 3 545 915
def aB(_:Params):=fO "holds_way" "Sheet.holds_way" (BY 76 4) .none "zonewalk.papers" 862 550 .none
def o555(P:Params):Obj:=cM "holds_room" "Sheet.holds_room" 918 368 2 552
def aA(_:Params):=fO "holds_room" "Sheet.holds_room" (BY 76 5) .none "zonewalk.papers" 862 555 .none
def o560(P:Params):Obj:=cM "keeps_off" "Sheet.keeps_off" 924 376 3 557
def Zz(_:Params):=fO "keeps_off" "Sheet.keeps_off" (BY 76 6) .none "zonewalk.papers" 862 560 .none
def o562(P:Params):Obj:=tO [(.str "first_room" 930),(.str "first_values" 931),(.str "stays" 932),(.str "ways" 933),(.str "zones" 934)]
def o563(P:Params):Obj:=dO [en P md 871<|.str "zonewalk.papers" 862,en P fl 875<|.int 334 874,en P "__init__" 881<|.ref 525,en P "holds_start" 887<|.ref 530,en P "holds_within" 897<|.ref 537,en P "holds_wait" 906<|.ref 544,en P "holds_way" 917<|.ref 551,en P "holds_room" 923<|.ref 556,en P "keeps_off" 929<|.ref 561,en P sa 935<|.ref 562,en P "__dict__" 937<|.ref 565,en P "__weakref__" 939<|.ref 566,en P dc 940 .none] 4
def o564(P:Params):Obj:={(.type "type"),none,(.cls {"Sheet",[(.type "object")],[(.ref 564),(.type "object")],563,"Sheet",true,[],[],false,none,false}),Array.mk [none,none,(↑(.str "Sheet" 864)),(↑(.str "Sheet" 872)),(↑(.builtin "object.__new__")),(↑(.bool true))]}
def o565(P:Params):Obj:={(.type "getset_descriptor"),none,(.fields<|Array.mk [(.str "__dict__" 936),(.ref 564),(.builtin "function.__dict__"),(.builtin "function.__dict__#set")]),Array.mk []}
def o566(P:Params):Obj:={(.type "getset_descriptor"),none,(.fields<|Array.mk [(.str "__weakref__" 938),(.ref 564),(.builtin "ExceptionGroup.__weakref__"),.none]),Array.mk []}
def o572(P:Params):Obj:=cM "narrow_zones_of" "narrow_zones_of" 943 378 2 569
def gJ(a:Str)(s:Stmt)(c:Nat):=gO a s "zonewalk.papers" 862 c
def Zy(_:Params):=gJ "narrow_zones_of" (AK 77) 572
def o577(P:Params):Obj:=cM "lets_by" "lets_by" 949 381 3 574
def Zv(_:Params):=gJ "lets_by" (AK 78) 577
def o591(P:Params):Obj:=cL "__init__" "Walk.__init__" 969 393 4 586 976
def Zu(_:Params):=fO "__init__" "Walk.__init__" (BY 80 0) .none "zonewalk.search" 955 591 .none
def o598(P:Params):Obj:=cL "arrived" "Walk.arrived" 979 404 3 593 988
def Zt(_:Params):=fO "arrived" "Walk.arrived" (BY 80 1) .none "zonewalk.search" 955 598 .none
def o605(P:Params):Obj:=cL "first_nodes" "Walk.first_nodes" 991 414 1 600 996
def Zs(_:Params):=fO "first_nodes" "Walk.first_nodes" (BY 80 2) .none "zonewalk.search" 955 605 .none
def o612(P:Params):Obj:=cL "next_nodes" "Walk.next_nodes" 999 418 3 607 1011
def Zr(_:Params):=fO "next_nodes" "Walk.next_nodes" (BY 80 3) .none "zonewalk.search" 955 612 .none
def o617(P:Params):Obj:=cM "hit_zones" "Walk.hit_zones" 1014 428 2 614
def Zq(_:Params):=fO "hit_zones" "Walk.hit_zones" (BY 80 4) .none "zonewalk.search" 955 617 .none
def o624(P:Params):Obj:=cL "hits" "Walk.hits" 1020 432 2 619 1025
def Zp(_:Params):=fO "hits" "Walk.hits" (BY 80 5) .none "zonewalk.search" 955 624 .none
def o626(P:Params):Obj:=tO [(.str "first_room" 1028),(.str "free_place" 1029),(.str "marks" 1030),(.str "mosts" 1031),(.str "stays" 1032),(.str "ways" 1033)]
def o627(P:Params):Obj:=dO [en P md 964<|.str "zonewalk.search" 955,en P fl 968<|.int 391 967,en P "__init__" 978<|.ref 592,en P "arrived" 990<|.ref 599,en P "first_nodes" 998<|.ref 606,en P "next_nodes" 1013<|.ref 613,en P "hit_zones" 1019<|.ref 618,en P "hits" 1027<|.ref 625,en P sa 1034<|.ref 626,en P "__dict__" 1036<|.ref 629,en P "__weakref__" 1038<|.ref 630,en P dc 1039 .none] 4
def o628(P:Params):Obj:={(.type "type"),none,(.cls {"Walk",[(.type "object")],[(.ref 628),(.type "object")],627,"Walk",true,[],[],false,none,false}),Array.mk [none,none,(↑(.str "Walk" 957)),(↑(.str "Walk" 965)),(↑(.builtin "object.__new__")),(↑(.bool true))]}
def o629(P:Params):Obj:={(.type "getset_descriptor"),none,(.fields<|Array.mk [(.str "__dict__" 1035),(.ref 628),(.builtin "function.__dict__"),(.builtin "function.__dict__#set")]),Array.mk []}
def o630(P:Params):Obj:={(.type "getset_descriptor"),none,(.fields<|Array.mk [(.str "__weakref__" 1037),(.ref 628),(.builtin "ExceptionGroup.__weakref__"),.none]),Array.mk []}
def o636(P:Params):Obj:=cM "listed" "listed" 1042 434 3 633
def gL(a:Str)(s:Stmt)(c:Nat):=gO a s "zonewalk.search" 955 c
def Zo(_:Params):=gL "listed" (AK 81) 636
def o643(_:Params):=cN "is_covered" 1048 450 2 638 1054
def Zn(_:Params):=gL "is_covered" (AK 82) 643
def Sr(P:Params):Obj:=tO [(.int 200 1057),.none]
def o651(_:Params):=cN "searched" 1058 455 4 646 1067
def Zk(_:Params):=fO "searched" "searched" (AK 83) (.ref 645) "zonewalk.search" 955 651 .none
def o658(_:Params):=cN "_law_cell_at" 1072 460 2 653 1077
def Gw(a:Str)(s:Stmt)(c:Nat):=gO a s "law_zonewalk_k63_whole_lists_let_by" 1070 c
def Zj(_:Params):=Gw "_law_cell_at" (AK 85) 658
def o665(_:Params):=cN "_law_stream" 1080 464 2 660 1089
def Zi(_:Params):=Gw "_law_stream" (AK 86) 665
def o672(_:Params):=cN "_law_looks" 1092 477 5 667 1103
def Zh(_:Params):=Gw "_law_looks" (AK 87) 672
def o677(P:Params):Obj:=cM "_law_machine" "_law_machine" 1106 484 5 674
def Zg(_:Params):=Gw "_law_machine" (AK 88) 677
def o684(_:Params):=cN "_law_rooms" 1112 494 3 679 1121
def Zf(_:Params):=Gw "_law_rooms" (AK 89) 684
def o691(_:Params):=cN "_law_goal" 1124 500 4 686 1135
def Ze(_:Params):=Gw "_law_goal" (AK 90) 691
def o698(_:Params):=cN "_law_searched" 1138 507 3 693 1145
def Zd(_:Params):=Gw "_law_searched" (AK 91) 698
def o703(P:Params):Obj:=cM "_law_loose" "_law_loose" 1148 517 1 700
def Zc(_:Params):=Gw "_law_loose" (AK 92) 703
def o708(P:Params):Obj:=cM "law" "law" 1154 524 1 705
def Zb(_:Params):=Gw "law" (AK 93) 708
def jR:List Addr:=[2,3,15,22,23,24,25,28,35,36,37,40,47,48,49,52,59,60,61,64,71,72,73,76,83,84,85,93,94,100,101,102,108,109,115,116,122,123,129,130,136,137,143,144,150,151,157,158,164,165,171,172,173,174,180,181,187,188,192,193,199,200,206,207,213,214,218,219,225,226,230,231,237,238,244,245,253,259,260,266,267,273,274,275,276,277,278,279,292,293,299,300,306,307,313,314,320,321,327,328,329,330,331,332,333,339,340,346,347,351,352,358,359,363,364,368,369,373,374,380,381,387,388,392,393,397,398,404,405,411,412,418,419,423,424,430,431,435,436,440,441,447,448,452,453,459,460,464,465,471,472,476,477,483,484,488,489,493,494,500,501,505,506,512,513,524,525,529,530,536,537,543,544,550,551,555,556,560,561,562,563,564,565,566,572,573,577,578,591,592,598,599,605,606,612,613,617,618,624,625,626,627,628,629,630,636,637,643,644,645,651,652,658,659,665,666,672,673,677,678,684,685,691,692,698,699,703,704,708,709]
def Jq(P:Params):Frag:=jR.zipWith (λa o=>(a,o P)) [o2,o3,o15,o22,o23,o24,o25,o28,o35,o36,o37,o40,o47,o48,o49,o52,o59,o60,o61,o64,o71,o72,o73,o76,o83,o84,o85,o93,Za,o100,cV,cU,o108,cT,o115,cS,o122,cR,o129,cQ,o136,cO,o143,cK,o150,cJ,o157,cI,o164,cH,o171,cG,cF,cE,o180,cD,o187,cC,o192,cB,o199,cA,o206,b9,o213,b7,o218,bZ,o225,bY,o230,bX,o237,bW,o244,bV,bU,o259,bS,o266,bR,o273,bQ,o275,o276,o277,o278,o279,o292,bP,o299,bO,o306,bN,o313,bM,o320,bL,o327,bK,o329,o330,o331,o332,o333,o339,bJ,o346,bI,o351,bH,o358,bG,o363,bE,o368,bD,o373,bB,o380,bA,o387,a9,o392,a7,o397,aZ,o404,aY,o411,aX,o418,aW,o423,aV,o430,aU,o435,aT,o440,aS,o447,aR,o452,aQ,o459,aP,o464,aO,o471,aN,o476,aM,o483,aL,o488,aK,o493,aJ,o500,aI,o505,aH,o512,aG,o524,aF,o529,aE,o536,aD,o543,aC,o550,aB,o555,aA,o560,Zz,o562,o563,o564,o565,o566,o572,Zy,o577,Zv,o591,Zu,o598,Zt,o605,Zs,o612,Zr,o617,Zq,o624,Zp,o626,o627,o628,o629,o630,o636,Zo,o643,Zn,Sr,o651,Zk,o658,Zj,o665,Zi,o672,Zh,o677,Zg,o684,Zf,o691,Ze,o698,Zd,o703,Zc,o708,Zb]
def vq:Program:={ pw with main:={ (pw).main with body:=[AK 93] } }
def loo:ky:=["WalkError","NoNumber","BadMachine","TooMany","NoMark","NoRoom","is_whole","greatest_divisor","fraction","minus","under","at_most","below","number_of","is_open","added","narrower","lets","WORDS","STAY_WORDS","is_look","is_number","is_guard","stands_so","look_bounds","MOST_WATCHES","MOST_ROOMS","MOST_DOORS","is_small_letter","is_name","is_watch_name","is_room_name","is_sign","own_copy","Door","Machine","check_watches","are_unlike","check_rooms","check_doors","are_noughts","placed","nought","free_bound","lies_in","narrowest","is_broken","row_over","within","is_wider","holds","met","narrowed","copied","waited","put_back","freed","folded","folded_bound","placed_goal","placed_mark","greatest","all_looks","placed_stays","nought_places","doors_out","Sheet","narrow_zones_of","lets_by","Walk","listed","is_covered","searched","_law_cell_at","_law_stream","_law_looks","_law_machine","_law_rooms","_law_goal","_law_searched","_law_loose"].map Str.ofString
abbrev hk:Hook:=kHook Jq jR<|λϊ=>by ext
def znj(w:World)(os:OsState):(go pw 4941 w os).map (λs=>Mr pw vq loo (xt Sa.row.toRowW vq) hk.obs (boot_heap w.params) s.abs)=↑(true,openGood vq loo,hk.val w):=by ext
theorem left:LeftO pw vq loo (xt Sa.row.toRowW vq) hk.obs hk.val 10462 true:=zls 10462 4941 (by ext) (by decide) (λs=>by ext) (by decide) znj
abbrev fr(w:World):Frag:=Jq w.params
def ca:Str->Value:=λc=>if c="BadMachine" then .ref 49 else if c="TooMany" then .ref 61 else if c="NoMark" then .ref 73 else if c="NoNumber" then .ref 37 else if c="NoRoom" then .ref 85 else if c="WalkError" then .ref 24 else .none
section
variable {w:World}{mg:Str->Option Value}{base:Heap} [q:Qx pw w (fr w) mg base ca]
theorem Hu:Cls (fr w) B8:={by ext,by ext,by ext,by ext}
def Ky:∀f∈Be,B7 (fr w) B8 f:=(A2 (by unfold B7;ext)<|A2 (by unfold B7;ext)<|A2 (by unfold B7;ext)<|A2 (by unfold B7;ext)<|A2 (by unfold B7;ext) Az)
theorem EK:Cls (fr w) Ac:={by ext,by ext,by ext,by ext}
def GK:∀f∈Ad,B7 (fr w) Ac f:=(A2 (by unfold B7;ext)<|A2 (by unfold B7;ext)<|A2 (by unfold B7;ext) Az)
theorem DM:Cls (fr w) Ae:={by ext,by ext,by ext,by ext}
def FQ:∀f∈Af,B7 (fr w) Ae f:=(A2 (by unfold B7;ext)<|A2 (by unfold B7;ext)<|A2 (by unfold B7;ext)<|A2 (by unfold B7;ext)<|A2 (by unfold B7;ext) Az)
theorem DZ:Cls (fr w) A8:={by ext,by ext,by ext,by ext}
def FP:∀f∈Aa,B7 (fr w) A8 f:=(A2 (by unfold B7;ext)<|A2 (by unfold B7;ext)<|A2 (by unfold B7;ext)<|A2 (by unfold B7;ext)<|A2 (by unfold B7;ext)<|A2 (by unfold B7;ext) Az)
def yg:specialIn (fr w) (.builtin "object.__class__") "__get__"=↑(↑(.builtin "getset_descriptor.__get__"))/\takesIn (fr w) (.builtin "object.__class__")=↑true:={by ext,by ext}
include q
def zcu:ECls (fr w) mg "BadMachine":=Lf yg 49 (q.c _ _<|by ext)<|by ext
def XA:∃T:ECls (fr w) mg "BadMachine",ca "BadMachine"=.ref T.C/\EI (fr w) T.C=↑none:={zcu,by rfl,by ext}
def mL:ECls (fr w) mg "TooMany":=Lf yg 61 (q.c _ _<|by ext)<|by ext
def lO:∃T:ECls (fr w) mg "TooMany",ca "TooMany"=.ref T.C/\EI (fr w) T.C=↑none:={mL,by rfl,by ext}
def zhr:ECls (fr w) mg "NoMark":=Lf yg 73 (q.c _ _<|by ext)<|by ext
def Wz:∃T:ECls (fr w) mg "NoMark",ca "NoMark"=.ref T.C/\EI (fr w) T.C=↑none:={zhr,by rfl,by ext}
def zf1:ECls (fr w) mg "NoNumber":=Lf yg 37 (q.c _ _<|by ext)<|by ext
def zfw:∃T:ECls (fr w) mg "NoNumber",ca "NoNumber"=.ref T.C/\EI (fr w) T.C=↑none:={zf1,by rfl,by ext}
def zhq:ECls (fr w) mg "NoRoom":=Lf yg 85 (q.c _ _<|by ext)<|by ext
def zjq:∃T:ECls (fr w) mg "NoRoom",ca "NoRoom"=.ref T.C/\EI (fr w) T.C=↑none:={zhq,by rfl,by ext}
def D1:=Ap Zj 659 zf0<|Aq A7 A6 (b:=.all<|Bn λϊ ϊ=>rfl)
def D2:=Ap b7 214 zav<|Aq A7 A6 (b:=.all<|Bs λϊ=>rfl)
def D3:=Ap bZ 219 zfr<|Aq (AV D2 A7) A6 (b:=.all<|Bs λϊ=>rfl)
def D4:=Ap bY 226 zbd<|Aq (AV D3 A7) A6 (b:=.all<|Bs λϊ=>rfl)
def D5:=Ap bX 231 zbv<|Aq (AV D2 A7) A6 (b:=.all<|Bs λϊ=>rfl)
def D6:=Ap Za 94 zev<|Aq A7 A6 (b:=.all<|Bs λϊ=>rfl)
def D7:=Ap cC 188 zdo<|Aq (AV D6 A7) A6 (b:=.all<|Bs λϊ=>rfl)
def D8:=Ap cD 181 zfs<|Aq (AV D7 A7) A6 (b:=.all<|DP λϊ ϊ ϊ=>rfl)
def D9:=Ap cB 193 zew<|Aq (AV D8 A7) A6 (b:=.all<|DP λϊ ϊ ϊ=>rfl)
def XM:=Ap bI 347 zcr<|Aq A7 A6 (b:=.all<|Bs λϊ=>rfl)
def zbt:∃u v,mg "MOST_WATCHES"=↑u/\Ak v u/\∀F:Hp,Rp (fr w) F F Nx v R0:={(.int (7) 447),(.int 7),q.c _ _ (by ext),{_,rfl},λF=>.int _}
def D11:=Ap bJ 340 zbe<|Aq (AV D4<|AV XM A7) (A6 (co:=(Ds zbt DC))) (hex:=(A2 XA Az)) (b:=.all<|Bs λϊ=>rfl)
def zcm:∃u v,mg "STAY_WORDS"=↑u/\Ak v u/\∀F:Hp,Rp (fr w) F F Nw v R0:={_,.ref 174,q.c _ (.ref 174) (by ext),rfl,λF=>Am.of_node (k:=.rt) (xs:=[.str "<",.str "<="]) (.inr {cE w.params,_,_,by ext,rfl,rfl,by decide,(.cons {_,rfl}<|.cons {_,rfl} .nil)})<|Sb ["<","<="]}
def D12:=Ap bH 352 zcc<|Aq (AV D5<|AV D9<|AV XM A7) (A6 (co:=(Ds zcm DC))) (hex:=(A2 XA Az)) (b:=.all<|Bn λϊ ϊ=>rfl)
def D13:=Ap bE 364 zce<|Aq (AV D4<|AV XM A7) A6 (b:=.all<|Bn λϊ ϊ=>rfl)
def D14:=Ap bW 238 zfp<|Aq (AV D3 A7) A6 (b:=.all<|Bs λϊ=>rfl)
def D15:=Ap bV 245 zer<|Aq A7 A6 (b:=.all<|Bs λϊ=>rfl)
def kG:∃u v,mg "WORDS"=↑u/\Ak v u/\∀F:Hp,Rp (fr w) F F Jf v R0:={_,.ref 173,q.c _ (.ref 173) (by ext),rfl,λF=>Am.of_node (k:=.rt) (xs:=[.str "<",.str "<=",.str ">",.str ">=",.str "="]) (.inr {cF w.params,_,_,by ext,rfl,rfl,by decide,(.cons {_,rfl}<|.cons {_,rfl}<|.cons {_,rfl}<|.cons {_,rfl}<|.cons {_,rfl} .nil)})<|Sb ["<","<=",">",">=","="]}
def D16:=Ap bG 359 zcd<|Aq (AV D9<|AV D13<|AV D14 A7) (A6 (co:=(Ds kG DC)) (cl:=(A2 {(Hu),Ky} Az)) (ci:=(Ds {277,q.c _ _ (by ext),(Ds {{Hu,by ext,by ext,by ext,by ext},by ext}<|Ds {{EK,by ext,by ext,by ext,by ext},by ext}<|Ds {{DM,by ext,by ext,by ext,by ext},by ext}<|Ds {{DZ,by ext,by ext,by ext,by ext},by ext} DC),by ext} DC))) (hex:=(A2 XA Az)) (b:=.all<|DP λϊ ϊ ϊ=>rfl)
def mK:=O9 "Door" B8 Be bS 260 zdw<|Ou (AV D15 A7)<|A6 (sf:=(λC fs h=>by cases h;exact{(Hu),Ky}))
theorem E17:Cn (fr w) (mK (w:=w) (mg:=mg) (base:=base)).fd VZ.ps []:=λs a X b=>us6 (P:=λa=>BindsTo s _ {a,[]}<|List.zip _<|a++_) (λϊ ϊ ϊ ϊ ϊ ϊ=>binds_K X rfl (show(fr w).lookup 253=↑(bU w.params) by ext) rfl rfl rfl) a<|by simpa using b
def zcn:∃u v,mg "MOST_ROOMS"=↑u/\Ak v u/\∀F:Hp,Rp (fr w) F F Ny v R0:={(.int (64) 449),(.int 64),q.c _ _ (by ext),{_,rfl},λF=>.int _}
def zco:∃u v,mg "MOST_DOORS"=↑u/\Ak v u/\∀F:Hp,Rp (fr w) F F Nz v R0:={(.int (200) 451),(.int 200),q.c _ _ (by ext),{_,rfl},λF=>.int _}
def mJ:=O9 "Machine" Ac Ad bP 293 zbz<|Ou (AV D11<|AV D12<|AV D16 A7) (A6 (co:=(Ds zcn<|Ds zco DC)) (sf:=(λC fs h=>by cases h;exact{(EK),GK}))) (hex:=(A2 lO Az))
theorem E18:Cn (fr w) (mJ (w:=w) (mg:=mg) (base:=base)).fd VW.ps []:=.all<|IH λϊ ϊ ϊ ϊ=>rfl
def XJ:=DX bO 300 zaz EK<|D0 A7 (A6 (cl:=(A2 {(EK),GK} Az))) (b:=.all<|Bs λϊ=>rfl)
def JD:=DX bN 307 zbf EK<|D0 A7 (A6 (cl:=(A2 {(EK),GK}<|A2 {(DM),FQ}<|A2 {(DZ),FP} Az))) (b:=.all<|Bs λϊ=>rfl)
def mI:=DX bM 314 zbg EK<|D0 A7 (A6 (cl:=(A2 {(EK),GK} Az))) (b:=.all<|Bs λϊ=>rfl)
def mH:=DX bL 321 zby EK<|D0 A7 (A6 (cl:=(A2 {(EK),GK}<|A2 {(DM),FQ}<|A2 {(DZ),FP} Az))) (b:=.all<|Bn λϊ ϊ=>rfl)
def mG:=DX bR 267 zdx Hu<|D0 A7 (A6 (cl:=(A2 {(Hu),Ky} Az))) (b:=.all<|Bs λϊ=>rfl)
def D24:=DX bQ 274 zdv Hu<|D0 A7 (A6 (cl:=(A2 {(Hu),Ky} Az))) (b:=.all<|Bs λϊ=>rfl)
def XI:=DX bK 328 za2 EK<|D0 A7 (A6 (cl:=(A2 {(EK),GK} Az))) (b:=.all<|Bn λϊ ϊ=>rfl)
def Px:=Ap bD 369 zh7<|Aq (AV D9 A7) (A6 (co:=(Ds kG DC)) (mt:=(A2 {by decide,{(XJ)}}<|A2 {by decide,{(XI)}} Az))) (hex:=(A2 Wz Az)) (b:=.all<|Bn λϊ ϊ=>rfl)
def D27:=Ap aL 484 zc9<|Aq (AV Px A7) A6 (hex:=(A2 Wz Az)) (b:=.all<|DP λϊ ϊ ϊ=>rfl)
def XH:=Ap aM 477 zca<|Aq (AV D27 A7) (A6 (mt:=(A2 {by decide,{(JD)}} Az))) (hex:=(A2 Wz Az)) (b:=.all<|Bn λϊ ϊ=>rfl)
def KZ:=Ap cQ 130 zft<|Aq A7 A6 (b:=.all<|Bs λϊ=>rfl)
def XG:=Ap cO 137 zjg<|Aq A7 A6 (b:=.all<|Bs λϊ=>rfl)
def XF:=Ap cK 144 zdm<|Aq A7 A6 (b:=.all<|Bs λϊ=>rfl)
def mF:=Ap cJ 151 zfq<|Aq A7 A6 (b:=.all<|Bs λϊ=>rfl)
def D33:=Ap cI 158 zjh<|Aq (AV XF<|AV mF<|AV XG<|AV KZ A7) A6 (b:=.all<|Bn λϊ ϊ=>rfl)
def D34:=Ap cH 165 zes<|Aq A7 A6 (b:=.all<|Bn λϊ ϊ=>rfl)
def D35:=Ap bA 381 zcq<|Aq (AV KZ A7) A6 (b:=.all<|Bn λϊ ϊ=>rfl)
def mE:=Ap aY 405 zep<|Aq A7 A6 (b:=.all<|DP λϊ ϊ ϊ=>rfl)
def D37:=Ap aZ 398 zdp<|Aq (AV KZ A7) A6 (b:=.all<|Bs λϊ=>rfl)
def mD:=Ap a7 393 zdn<|Aq (AV D34<|AV D35<|AV D37<|AV mE A7) A6 (b:=.all<|Bs λϊ=>rfl)
def mB:=Ap aW 419 zeu<|Aq A7 A6 (b:=.all<|Bn λϊ ϊ=>rfl)
def l9:=Ap aX 412 zh5<|Aq (AV mB A7) A6 (b:=.all<|Bn λϊ ϊ=>rfl)
def D41:=Ap b9 207 zcb<|Aq (AV XG<|AV KZ A7) A6 (b:=.all<|IH λϊ ϊ ϊ ϊ=>rfl)
def l8:=Ap aQ 453 zeq<|Aq A7 A6 (b:=.all<|Bn λϊ ϊ=>rfl)
def XD:=Ap aS 441 zhb<|Aq A7 A6 (b:=.all<|Bs λϊ=>rfl)
def l6:=Ap aR 448 zh6<|Aq (AV XD A7) A6 (b:=.all<|Bs λϊ=>rfl)
def D45:=Ap aT 436 zet<|Aq (AV mB<|AV D33<|AV KZ<|AV mE A7) A6 (b:=.all<|IH λϊ ϊ ϊ ϊ=>rfl)
def KY:=Ap aU 431 zqu<|Aq (AV XD<|AV D41<|AV D45 A7) A6 (b:=.all<|Bn λϊ ϊ=>rfl)
def D47:=Ap aH 506 zbc<|Aq A7 (A6 (mt:=(A2 {by decide,{(D24)}}<|A2 {by decide,{(XI)}} Az))) (b:=.all<|Bn λϊ ϊ=>rfl)
def lZ:=Ap aI 501 zbu<|Aq (AV Px A7) (A6 (mt:=(A2 {by decide,{(JD)}}<|A2 {by decide,{(mH)}} Az))) (b:=.all<|Bs λϊ=>rfl)
def lY:=Ap aG 513 zdq<|Aq (AV Px<|AV D47 A7) (A6 (cl:=(A2 {(Hu),Ky} Az)) (mt:=(A2 {by decide,{(JD)}}<|A2 {by decide,{(mI)}}<|A2 {by decide,{(mG)}} Az))) (b:=.all<|Bs λϊ=>rfl)
def lX:=Ap cR 123 zjc<|Aq A7 A6 (b:=.all<|Bn λϊ ϊ=>rfl)
def D51:=Ap cV 101 zag<|Aq A7 A6 (b:=.all<|Bn λϊ ϊ=>rfl)
def D52:=Ap cT 109 zey<|Aq (AV D6<|AV D51 A7) A6 (hex:=(A2 zfw Az)) (b:=λs a X c=>Bn (P:=λa=>BindsTo s _ {a,[]}<|List.zip _<|a++_) (λϊ ϊ=>binds_K X rfl (show(fr w).lookup 102=↑(cU w.params) by ext) rfl rfl rfl) a<|by simpa using c)
def D53:=Ap cS 116 zjd<|Aq (AV D52 A7) A6 (b:=.all<|Bn λϊ ϊ=>rfl)
def D54:=Ap cG 172 zmc<|Aq (AV XF<|AV mF<|AV lX A7) A6 (b:=.all<|Bn λϊ ϊ=>rfl)
def D55:=Ap a9 388 zfn<|Aq (AV D54<|AV D53 A7) A6 (b:=.all<|Bn λϊ ϊ=>rfl)
def D56:=Ap cA 200 zdl<|Aq (AV lX A7) A6 (b:=.all<|DP λϊ ϊ ϊ=>rfl)
def D57:=Ap aV 424 zje<|Aq (AV D56 A7) A6 (b:=.all<|Bn λϊ ϊ=>rfl)
def D58:=Ap Zy 573 zau<|Aq (AV mD A7) A6 (b:=.all<|Bn λϊ ϊ=>rfl)
def lW:=O9 "Sheet" Ae Af aF 525 zcs<|Ou (AV lZ<|AV lY<|AV D58 A7)<|A6 (mt:=(A2 {by decide,{(JD)}}<|A2 {by decide,{(XJ)}} Az)) (sf:=(λC fs h=>by cases h;exact{(DM),FQ}))
theorem E59:Cn (fr w) (lW (w:=w) (mg:=mg) (base:=base)).fd VT.ps []:=.all<|DP λϊ ϊ ϊ=>rfl
def D60:=DX aE 530 za8 DM<|D0 (AV D57<|AV D55 A7) (A6 (cl:=(A2 {(EK),GK}<|A2 {(DM),FQ}<|A2 {(DZ),FP} Az))) (b:=.all<|Bs λϊ=>rfl)
def lV:=DX aD 537 za5 DM<|D0 (AV l9 A7) (A6 (cl:=(A2 {(DM),FQ} Az))) (b:=.all<|DP λϊ ϊ ϊ=>rfl)
def D62:=DX aC 544 zai DM<|D0 (AV KY<|AV l6 A7) (A6 (cl:=(A2 {(EK),GK}<|A2 {(DM),FQ}<|A2 {(DZ),FP} Az)) (mt:=(A2 {by decide,{(lV)}} Az))) (b:=.all<|DP λϊ ϊ ϊ=>rfl)
def D63:=DX aB 551 zay DM<|D0 (AV KY<|AV l8 A7) (A6 (cl:=(A2 {(EK),GK}<|A2 {(DM),FQ}<|A2 {(DZ),FP} Az)) (mt:=(A2 {by decide,{(lV)}} Az))) (b:=.all<|DP λϊ ϊ ϊ=>rfl)
def D64:=DX aA 556 zaj DM<|D0 A7 (A6 (cl:=(A2 {(DM),FQ}<|A2 {(DZ),FP} Az)) (mt:=(A2 {by decide,{(D62)}}<|A2 {by decide,{(D63)}} Az))) (b:=.all<|Bn λϊ ϊ=>rfl)
def D65:=DX Zz 561 zax DM<|D0 (AV KY A7) (A6 (cl:=(A2 {(DM),FQ} Az))) (b:=.all<|DP λϊ ϊ ϊ=>rfl)
def D66:=Ap Zv 578 zfo<|Aq (AV XH A7) (A6 (mt:=(A2 {by decide,{(JD)}}<|A2 {by decide,{(D60)}}<|A2 {by decide,{(D65)}}<|A2 {by decide,{(D64)}} Az)) (nw:=(NW {by decide,Ae,lW,(Ds {[],[],E59,.nil,λϊ=>.nil} DC)} NV))) (hex:=(A2 zjq Az)) (b:=.all<|DP λϊ ϊ ϊ=>rfl)
def D67:=Ap bB 374 zh8<|Aq (AV KZ A7) A6 (b:=.all<|Bs λϊ=>rfl)
def D68:=Ap aN 472 zbw<|Aq (AV XF<|AV XG A7) A6 (b:=.all<|IH λϊ ϊ ϊ ϊ=>rfl)
def D69:=Ap aO 465 zha<|Aq (AV D68<|AV mD A7) A6 (b:=.all<|Bn λϊ ϊ=>rfl)
def D70:=Ap aP 460 zjf<|Aq (AV XD A7) A6 (b:=.all<|Bn λϊ ϊ=>rfl)
def D71:=Ap aJ 494 zdr<|Aq (AV XH<|AV Px A7) (A6 (mt:=(A2 {by decide,{(JD)}}<|A2 {by decide,{(mH)}}<|A2 {by decide,{(mI)}}<|A2 {by decide,{(mG)}} Az))) (b:=.all<|Bn λϊ ϊ=>rfl)
def D72:=Ap aK 489 zex<|Aq (AV D71 A7) (A6 (mt:=(A2 {by decide,{(XJ)}} Az))) (b:=.all<|Bn λϊ ϊ=>rfl)
def D73:=Ap Zn 644 zcp<|Aq (AV l9 A7) A6 (b:=.all<|Bn λϊ ϊ=>rfl)
def lU:=DX Zt 599 zbx DZ<|D0 (AV KY<|AV D69<|AV l6<|AV D70 A7) (A6 (cl:=(A2 {(EK),GK}<|A2 {(DM),FQ}<|A2 {(DZ),FP} Az))) (b:=.all<|DP λϊ ϊ ϊ=>rfl)
def D75:=DX Zs 606 zah DZ<|D0 (AV D67 A7) (A6 (cl:=(A2 {(DM),FQ}<|A2 {(DZ),FP} Az)) (mt:=(A2 {by decide,{(lU)}} Az))) (b:=.all<|Bs λϊ=>rfl)
def D76:=DX Zr 613 zaw DZ<|D0 (AV KY<|AV l8 A7) (A6 (cl:=(A2 {(DM),FQ}<|A2 {(DZ),FP} Az)) (mt:=(A2 {by decide,{(lU)}} Az))) (b:=.all<|DP λϊ ϊ ϊ=>rfl)
def D77:=DX Zq 618 zb2 DZ<|D0 (AV KY A7) (A6 (cl:=(A2 {(DZ),FP} Az))) (b:=.all<|Bn λϊ ϊ=>rfl)
def lT:=DX Zp 625 zdt DZ<|D0 A7 (A6 (mt:=(A2 {by decide,{(D77)}} Az))) (b:=.all<|Bn λϊ ϊ=>rfl)
def D79:=Ap Zo 637 zh9<|Aq (AV D73 A7) (A6 (mt:=(A2 {by decide,{(D75)}}<|A2 {by decide,{(lT)}}<|A2 {by decide,{(D76)}} Az))) (hex:=(A2 lO Az)) (b:=.all<|DP λϊ ϊ ϊ=>rfl)
def lS:=O9 "Walk" A8 Aa Zu 592 zds<|Ou (AV XH<|AV D72<|AV lZ<|AV lY A7)<|A6 (cl:=(A2 {(DZ),FP} Az)) (mt:=(A2 {by decide,{(JD)}}<|A2 {by decide,{(XI)}} Az)) (sf:=(λC fs h=>by cases h;exact{(DZ),FP}))
theorem E80:Cn (fr w) (lS (w:=w) (mg:=mg) (base:=base)).fd VQ.ps []:=.all<|IH λϊ ϊ ϊ ϊ=>rfl
def lQ:=Ap Zk 652 zeo<|Aq (AV D79 A7) (A6 (mt:=(A2 {by decide,{(lT)}} Az)) (nw:=(NW {by decide,A8,lS,(Ds {[],[],E80,.nil,λϊ=>.nil} DC)} NV))) (b:=λs a X c=>IH (P:=λa=>BindsTo s _ {a,[]}<|List.zip _<|a++_) (λϊ ϊ ϊ ϊ=>binds_K X rfl (show(fr w).lookup 645=↑(Sr w.params) by ext) rfl rfl rfl) a<|by simpa using c)
def XC:=Ap Zi 666 zfu<|Aq A7 A6 (b:=.all<|Bn λϊ ϊ=>rfl)
def XB:=Ap Zh 673 zhe<|Aq A7 A6 (b:=.all<|Xd λϊ ϊ ϊ ϊ ϊ=>rfl)
def D84:=Ap Zf 685 zhc<|Aq (AV XC<|AV XB A7) A6 (b:=.all<|DP λϊ ϊ ϊ=>rfl)
def D85:=Ap Zg 678 zez<|Aq (AV D1<|AV XC<|AV XB A7) (A6 (nw:=(NW {by decide,B8,mK,(Ds {[],[],E17,.nil,λϊ=>.nil} DC)}<|NW {by decide,Ac,mJ,(Ds {[],[],E18,.nil,λϊ=>.nil} DC)} NV))) (b:=.all<|Xd λϊ ϊ ϊ ϊ ϊ=>rfl)
def D86:=Ap Ze 692 zji<|Aq (AV XC<|AV XB A7) A6 (b:=.all<|IH λϊ ϊ ϊ ϊ=>rfl)
def D87:=Ap Zd 699 zdu<|Aq (AV lQ A7) (A6 (xs:=(Ds (xs_of mL<|by ext) DC)) (dn:=(Ds {by decide,lQ,[.non],{[.none],λs a X c=>DP (P:=λa=>BindsTo s _ {a,[]}<|List.zip _<|a++_) (λϊ ϊ ϊ=>binds_K X rfl (show(fr w).lookup 645=↑(Sr w.params) by ext) rfl rfl rfl) a (by simpa using c),(.cons rfl .nil)},λF=>(.cons (H:=F) .non .nil)} DC))) (b:=.all<|DP λϊ ϊ ϊ=>rfl)
def D88:=Ap Zc 704 zhd<|Aq A7 A6 (b:=.all<|Bs λϊ=>rfl)
def D89:=Ap Zb 709 zqv<|Aq (AV D1<|AV D84<|AV D85<|AV D86<|AV D87<|AV D88<|AV D66 A7) A6 (b:=.all<|Bs λϊ=>rfl)
end
def all_mk{w:World}{h:Heap}{mg:Str->Option Value}{b:Addr}(X:(Jq w.params).In h)(G:h.Ns mainGlobals mg)(a:mg "law"=↑(.ref b))
  : ∃fd:FuncData,(∀(s:Shared) (v:Value),BindsTo s fd {[v],[]} [("_law_script",v)])/\∀base:Heap,(Jq w.params).In base->base.Ns mainGlobals mg->FnOk pw w (Jq w.params) mg base MU 14 b fd ["_law_script"] (Mp<|Jq w.params):=by
 have e:=a.symm.trans<|mg_of X G<|show nsIn (fr w) mainGlobals "law"=↑(↑(.ref 709)) by ext
 cases e;refine{gF "law" "law" Mt .none "law_zonewalk_k63_whole_lists_let_by" 1070 708 .none,λs v=>.of_eq rfl,λbase ϊ ϊ=>?_};have q:Qx pw w (fr w) mg base ca:={λϊ ϊ e=>mg_of X G e,λϊ e=>mg_none_of X G e};exact zpr (D89 (mg:=mg)).ok λns h=>law_true ns h
theorem walk{l:PySem.W.OpenLaw}{q:Program}{loose:ky}{XP:(Str->Option Value)->Heap->Prop}{YP:World->Heap->Prop}{d:DefRec}{K:Params->q9}(j:l.most=↑63)(b:d.params.defaults=[])
  (g:∀(w:World) (h:Heap),YP w h->(K w.params).In h)
  (F : ∀ (w : World) (mg : Str -> Option Value) (fa : Addr) (h : Heap), (K w.params).In h -> h.Ns mainGlobals mg -> mg d.name = ↑(.ref fa) ->
   ∃fd:FuncData,(∀(s:Shared) (u:Value),BindsTo s fd {[u],[]} [("_law_script",u)])/\∀base:Heap,(K w.params).In base->base.Ns mainGlobals mg->FnOk l.prog w (K w.params) mg base MU 14 fa fd ["_law_script"] (Mp<|K w.params)) :
  PySem.W.WalkO q loose XP YP l.row.toRowW d [] (λf vs=>PySem.call f vs):=
 L2.walk_of (n:=63) (k:=14) (x:="_law_script") (CX:=λϊ=>MU) (sp:=λw=>Mp<|K w.params) j (by decide) b {rfl,by decide,by decide} g F (λϊ ϊ a ns i c e=>{a,ns,rfl,HE.of c e,i,λϊ=>rfl}) λϊ ϊ ϊ ϊ ϊ z=>z
end Zl
open PySem PySem.W PyProof.Rows
set_option maxRecDepth 100000 in
set_option maxHeartbeats 0 in
theorem PySem.Challenge.cw_zonewalk_k63_whole_lists_let_by_holds : PySem.Challenge.rw_zonewalk_k63_whole_lists_let_by.Holds := by
 refine holds_law Zl.said λs=>?_
 refine holds_open (q:=Zl.vq) (loose:=Zl.loo) (Xt:=Hd.xt PySem.Challenge.rw_zonewalk_k63_whole_lists_let_by.row.toRowW Zl.vq) (XP:=XL Zl.vq []) (Yf:=Zl.hk.obs) (Ya:=Zl.hk.val) (YP:=Zl.hk.says) Zl.left Zl.hk.of Zl.hk.keeps (λs e=>xl_of s (ğ.mp e).1) XL.keeps (by rfl) (by rfl) (by rfl) (λs e=>recFacts_of (ğ.mp e).2) (by rfl) s (by decide +kernel) ⟨rfl,rfl,rfl,rfl,rfl,by decide +kernel⟩ ?hw ?hc
 case hw=>w_witness2
 case hc=>exact Zl.walk (l:=PySem.Challenge.rw_zonewalk_k63_whole_lists_let_by) rfl rfl (λw h Y=>kIn_of Y) λw mg fa h X G e=>Zl.all_mk X G e
end
