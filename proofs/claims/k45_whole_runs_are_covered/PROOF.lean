import PyProof.Rows.All
import Wide.All
import OpenK.AllK
import Wide.FinOn
import Lean
import PyProof.EqAt
import PyProof.EqKinds
import PyProof.TupleCall
import PySem.Challenge.RW_zonewalk_k45_whole_runs_are_covered
set_option compiler.extract_closed false
set_option bootstrap.genMatcherCode false
set_option linter.all false
set_option tactic.hygienic false
def Á:=@List.getElem?_eq_getElem
def À:=@List.length_map
def Î:=@List.getElem?_eq_some_iff
def Ê:=@List.mem_cons_of_mem
def Å:=@Bool.and_eq_true
def È:=@List.getElem?_map
def Ë:=@List.mem_cons_self
def Ó:=@List.getD_eq_getElem?_getD
def Ï:=@List.mem_singleton
def Ø:=@PySem.Heap.get?_push_of_some
def É:=@PySem.Heap.lt_size
def Æ:=@Nat.le_refl
def Ì:=@List.mem_cons
def Ò:=@List.getElem_mem
def Ö:=@List.all_eq_true
def Ð:=@List.mem_map
def Ý:=@Option.map_eq_some_iff
def Ü:=@Nat.lt_of_lt_of_le
def à:=@List.mem_append_right
def Ù:=@List.map_cons
def Û:=@Option.some.inj
def Ô:=@Nat.ne_of_lt
def ê:=@List.getElem?_set_self
def å:=@List.getElem?_set_ne
def æ:=@PySem.Heap.get?_push_size
def Ú:=@Nat.le_trans
def Þ:=@List.append_nil
def ë:=@List.length_append
def Í:=@Ne.symm
def ß:=@List.mem_append
def ú:=@List.getElem?_append_left
def ì:=@List.length_cons
def ç:=@List.lookup_cons
def á:=@List.map_append
def â:=@List.mem_range
def ô:=@List.contains_iff_mem
def õ:=@List.mem_of_getElem?
def ï:=@Int.toNat_natCast
def ã:=@Nat.lt_irrefl
def Ĥ:=@List.exists_cons_of_length_eq_add_one
def ð:=@List.size_toArray
def ü:=@Int.fmod_nonneg_of_pos
def ö:=@Bool.false_ne_true
def ý:=@List.getElem?_eq_none
def è:=@List.map_map
def ø:=@List.append_assoc
def Ĉ:=@Int.mul_neg_of_neg_of_pos
def ĥ:=@List.findIdx?_eq_some_iff_getElem
def ñ:=@PySem.W.kia_one
def ù:=@List.length_take
def Ę:=@PyProof.Rows.callWith_type1
def é:=@Nat.zero_le
def ĉ:=@PySem.Heap.get?_update_other
def Ă:=@List.map_congr_left
def Ċ:=@Bool.or_eq_false_iff
def Ħ:=@List.getElem?_append_right
def ò:=@Nat.succ.inj
def ċ:=@PySem.mem_of_lookup
def ă:=@Option.map_some
def Ą:=@List.getElem_inj
def Č:=@List.not_mem_nil
def ę:=@Bool.false_eq_true
def ą:=@List.any_eq_true
def ó:=@Int.le_refl
def č:=@List.length_nil
def Ĵ:=@Array.getElem?_eq_some_iff
def Ď:=@Option.bind_some
def ņ:=@List.take_succ_eq_append_getElem
def Ě:=@Int.fmod_lt_of_pos
def ĵ:=@List.drop_eq_getElem_cons
def ħ:=@List.mem_append_left
def þ:=@Int.mul_comm
def ď:=@Bool.or_eq_true
def ě:=@Int.mul_left_comm
def Ň:=@List.getElem?_cons_succ
def Ĩ:=@PySem.W.hideAll_get
def ĩ:=@List.mem_map_of_mem
def Ĝ:=@Nat.lt_succ_self
def ĝ:=@List.take_length
def ÿ:=@Int.mul_pos
def Đ:=@List.map_nil
def Ī:=@List.length_set
def đ:=@Int.mul_assoc
def ī:=@Nat.lt_succ_of_lt
def ň:=@Array.getElem?_eq_getElem
def Ķ:=@Bool.and_eq_true_iff
def Ĭ:=@Bool.false_and
def Ğ:=@PySem.Heap.size_push
def Ē:=@Int.le_of_lt
def ĭ:=@Nat.le_add_right
def ŉ:=@PySem.F.slot_str_getitem
def Ŋ:=@PySem.F.plainAttrs_list
def ķ:=@PySem.W.of_hideAll
def ĸ:=@List.mem_filterMap
def Ĺ:=@List.nil_append
def ś:=@Int.mul_le_mul_of_nonneg_right
def ŋ:=@PyProof.Rows.boot_list
def ē:=@Int.sub_mul
def ĺ:=@Bool.not_eq_true'
def ğ:=@Nat.succ_pos
def Ō:=@PySem.Heap.get?_update_self
def Ġ:=@Int.zero_mul
def ō:=@List.cons_append
def Ŏ:=@List.mem_iff_getElem
def Ļ:=@List.getElem_map
def ļ:=@List.mem_flatMap
def Į:=@List.any_cons
def Ŝ:=@Int.fdiv_eq_ediv_of_nonneg
def ŝ:=@PySem.F.excBase_ValueError
def ġ:=@Nat.le_succ
def Ľ:=@List.mem_filter
def ľ:=@List.nodup_cons
def Ŀ:=@Int.emod_two_eq
def į:=@Nat.lt_trans
def Ş:=@Option.isSome_iff_exists
def ŏ:=@PySem.Obj.data_mapFields
def Ő:=@PySem.W.callWith_K
def ő:=@List.getElem?_drop
def Œ:=@List.zip_cons_cons
def İ:=@PySem.F.called_set
def ş:=@List.take_append_getElem
def ŀ:=@Int.mul_nonneg
def Š:=@List.getElem?_replicate
def š:=@PyProof.Rows.F.plain_set_update_loop
def Ţ:=@Option.bind_eq_some_iff
def Ε:=@Int.mul_nonpos_of_nonpos_of_nonneg
def ţ:=@Option.some.injEq
def Ť:=@PyProof.V.reads_dictOf
def ť:=@PySem.SeqAt.notIn_list_reads
def Ŧ:=@List.length_replicate
def ŧ:=@PySem.Obj.isFreed_of_fields
def Ũ:=@List.length_singleton
def ũ:=@PySem.W.hideAll_none
def Ł:=@Int.lt_or_le
def Ū:=@PySem.W.plainGet_of
def ū:=@PySem.SeqAt.in_list_reads
def Ŭ:=@List.getElem?_range
def ŭ:=@List.getD_cons_succ
def Ů:=@List.getD_cons_zero
def œ:=@List.take_zero
def ů:=@Int.lt_of_le_of_lt
def Ű:=@Int.natCast_nonneg
def ű:=@List.contains_cons
def Ų:=@List.findIdx?_cons
def ų:=@List.map_singleton
def Ŕ:=@PySem.Paired.length
def Ŵ:=@Bool.false_or
def ŵ:=@Bool.and_true
def Ŷ:=@Bool.true_and
def ŷ:=@PySem.W.kitx_list
def Ÿ:=@PySem.W.kitx_dict
def Ź:=@List.ext_getElem?
def ź:=@List.length_range
def Ż:=@Int.lt_trichotomy
def ŕ:=@Nat.le_of_lt
def Ŗ:=@PySem.Txt.slice_le
def ż:=@List.filter_cons
def Ž:=@Option.getD_some
def Õ:=@decide_eq_false
def í:=@PySem.wpAny_mono
def Ć:=@PySem.wpAny_truthy_bool
def ł:=@PySem.wpAny_execs_nil
def ž:=@PyProof.Rows.assignInOrder_cons
def Â:=@PySem.wpAny_bind
def ć:=@PySem.wpAny_holding
def Ń:=@PySem.wpAny_standAt
def Ñ:=@PySem.wpAny_pure
def ſ:=@PySem.wpAny_newObj_type
def Ģ:=@PySem.wpAny_passesOwn
def Α:=@PySem.wpAny_pyIter_list
def Ĕ:=@PySem.sizeLine_eq
def ı:=@PySem.wpAny_Call_Name_kw
def Ĳ:=@PySem.typeIs_str
def Ä:=@if_true
def ń:=@PySem.call_meets
def ģ:=@PySem.codeAny_mono
def Ç:=@decide_eq_true
def ŗ:=@PySem.wpAny_setField
def ĕ:=@PySem.wpAny_field
def Ņ:=@PySem.wpAny_call
def Ė:=@beq_iff_eq
def û:=@decide_eq_true_eq
def ė:=@or_false
def î:=@beq_self_eq_true
def Ř:=@PySem.pushCells_keeps
def ä:=@of_decide_eq_true
def Ã:=@if_false
def Ā:=@PySem.wpAny_ite_false
def ĳ:=@PySem.wpAny_of_eq
def Β:=@PySem.wpAny_isInstance
def ř:=@PySem.wpAny_getItem_str_slice
def Ś:=@PySem.post_val_or_str
def Δ:=@beq_eq_false_iff_ne
def ā:=@eq_false
noncomputable section
abbrev ka:=List<|PySem.Str×List Int
abbrev kb:=List<|Nat×Nat
abbrev kc:=List PySem.Value
abbrev ke:=Option Int
abbrev kg:=List PySem.Expr
abbrev kh:=List PySem.Stmt
abbrev ki:=List PySem.Str
abbrev kj:=List Int
abbrev kq:=List Nat
local macro_rules|`(tactic|ext)=>`(tactic|kernel_rfl)
local macro_rules|`(tactic|change $e = $x)=>`(tactic|generalize $e = $(⟨x.raw⟩):ident at *)
set_option hygiene false
local macro_rules|`(tactic|symm)=>`(tactic|exact q.elim)
set_option hygiene true
def rcp:Nat->Lean.Syntax->Lean.MacroM (Lean.TSyntax `rcasesPat)
 |n+1,t=>do if t.getKind==`Lean.Parser.Term.tuple then let l<-((t[1][0]::t[1][2].getSepArgs.toList).toArray.mapM (rcp n));`(rcasesPat|⟨$l,*⟩) else if t.isIdent then `(rcasesPat|$(⟨t⟩):ident) else `(rcasesPat|_)
 |ϊ,ϋ=>Lean.Macro.throwUnsupported
theorem hld{g:Prop}(h:∀G:Prop,(g->G)->G):g:=h g id
local macro_rules
  |`(tactic|let $p:term $[:$t]? := $e)=>do
    if p.raw.getKind != `Lean.Parser.Term.tuple then Lean.Macro.throwUnsupported
    let q<-rcp 20 p.raw
    if p.raw[1][2].getSepArgs.size>1 then `(tactic|(refine hld fun G k=>?_;obtain $q:rcasesPat $[:$t]? := $e;refine k ?_;try clear k G)) else `(tactic|obtain $q:rcasesPat $[:$t]? := $e)
local macro_rules(kind:=Lean.Parser.Command.declaration)|s=>do
  let d:=s[1];let k:=d.getKind;let m:=s[0];let t:=s.setArg 1 (d.setArg 0 (.atom .none d[0].getAtomVal))
  if m[4].getNumArgs != 0||(d[0].getHeadInfo matches .none) then Lean.Macro.throwUnsupported
  if k==`Lean.Parser.Command.definition&&(d[3][1].getKind==`Lean.Parser.Term.byTactic||[`«term_=_»,`«term_∧_»,`«term_∨_»,`«term∃_,_»,`«term_≤_»,`«term_<_»,`«term_<->_»,`«term_↔_»,`«term_≠_»,`«term_∈_»,`Lean.Parser.Term.forall].contains d[2][1][0][1].getKind) then return s.setArg 1 (.node .none `Lean.Parser.Command.theorem #[.atom .none "theorem",d[1],.node .none `Lean.Parser.Command.declSig #[d[2][0],d[2][1][0]],d[3]])
  else if k==`Lean.Parser.Command.definition||k==`Lean.Parser.Command.abbrev then return t.setArg 0 (m.setArg 4 (Lean.mkNullNode #[.node .none `Lean.Parser.Command.noncomputable #[.atom .none "noncomputable"]]))
  else if k==`Lean.Parser.Command.theorem then return t else Lean.Macro.throwUnsupported
local macro_rules|`({$x:term,*})=>`(⟨$x,*⟩)
local macro_rules|`(↑$x:term)=>`(some $x)
local macro_rules|`(tactic|erw [$rs,*] $[$l:location]?)=>do let ts:=rs.getElems.map fun r=>(⟨r.raw[1]⟩:Lean.TSyntax `term);`(tactic|simp only [$[$ts:term],*] $[$l]?)
abbrev q9:=PySem.W.Frag
set_option Elab.async false
set_option linter.all false
set_option maxRecDepth 100000
set_option genSizeOf false
set_option genInjectivity false
local macro_rules
  |`(tactic| lia)=>`(tactic| first
    |assumption
    |exact Ú (by assumption) (by decide +kernel)
    |exact Ü (by assumption) (by decide +kernel)
    |exact Nat.lt_of_le_of_lt (by assumption) (by decide +kernel)
    |exact ğ _
    |exact Ü (by assumption) (Nat.succ_le_succ (Ú (by assumption) (by decide +kernel)))
    |exact Nat.succ_le_succ (Ú (by assumption) (by decide +kernel))
    |exact į (by assumption) (by assumption)
    |exact Ü (by assumption) (by assumption)
    |exact Int.lt_trans (b:=0) (by decide +kernel) (by assumption)
    |exact Int.lt_of_lt_of_le (b:=0) (by decide +kernel) (by assumption)
    |exact ů (by assumption) (by decide +kernel)
    |exact Int.le_trans (by assumption) (by decide +kernel)
    |exact Ē (by assumption)
    |exact Int.ne_of_gt (by assumption)
    |lia +clean
    |fail)
def Zl.said:PySem.Challenge.rw_zonewalk_k45_whole_runs_are_covered.wellSaid=true:=(congrFun PySem.W.Fast.te9446332074065402090 _).trans<|by ext
namespace L2
open PySem PySem.Spec PyProof.Rows
abbrev Key:=Sum Int Str
def Hf:Key->Value->Bool
 |.inl k,v=>Value.isInt k v|.inr x,v=>Value.isStrOf x v
def keyH(w:World):Key->Int
 |.inl k=>hashInt k|.inr x=>hashStr w x
def Fo:∀{k} {v},Hf k v=true->(∃i t,k=Sum.inl i/\v=Value.int i t)\/(∃x t,k=Sum.inr x/\v=Value.str x t)
 |.inl i,v,h=>by
  let(t,e):=Value.isInt_shape h;grind
 |.inr x,v,h=>by
  let(t,e):=Value.isStrOf_shape h;grind
def Ζ(i)(t):Hf (.inl i) (.int i t)=true:=by simp[Hf,Value.isInt]
def Η(x)(t):Hf (.inr x) (.str x t)=true:=by simp[Hf,Value.isStrOf]
def Θ(a b:Int):decide ((Sum.inl a:Key)=Sum.inl b)=(a == b):=by
 grind
def Ι(a b:Str):decide ((Sum.inr a:Key)=Sum.inr b)=decide (a=b):=by
 simp
def Κ(a:Int)(b:Str):decide (Sum.inl a=Sum.inr b)=false:=Õ<|λq=>nomatch q
def Λ(a:Str)(b:Int):decide (Sum.inr a=Sum.inl b)=false:=Õ<|λq=>nomatch q
def Dq(prog:Program)(w:World):PySem.KeyKind prog w Key where
 is:=Hf
 hash:=keyH w
 inj:=λv a b g f=>by
  rcases Fo g with ⟨i,t,rfl,rfl⟩|⟨x,t,rfl,rfl⟩;rcases Fo f with ⟨j,u,rfl,e⟩|⟨y,u,rfl,e⟩;injection e with c _;rw[c];exact nomatch e;rcases Fo f with ⟨j,u,rfl,e⟩|⟨y,u,rfl,e⟩;exact nomatch e;injection e with c _;rw[c]
 byValue:=λk v h=>by
  rcases Fo h with ⟨i,t,rfl,rfl⟩|⟨x,t,rfl,rfl⟩<;>rfl
 pyHash:=λd h=>by
  rcases Fo d with ⟨i,t,rfl,rfl⟩|⟨x,t,rfl,rfl⟩;exact wpAny_pyHash_int h;exact wpAny_pyHash_str h
 eqBool:=λl d h=>by
  rcases Fo l with ⟨i,t,rfl,rfl⟩|⟨x,t,rfl,rfl⟩;rcases Fo d with ⟨j,u,rfl,rfl⟩|⟨y,u,rfl,rfl⟩;rw[Θ]at h;exact wpAny_eqBool_int h;rw[Κ]at h;exact SeqAt.EqAt.int_str i t y u _ _ _ _ h;rcases Fo d with ⟨j,u,rfl,rfl⟩|⟨y,u,rfl,rfl⟩;rw[Λ]at h;exact SeqAt.EqAt.str_int x t j u _ _ _ _ h;rw[Ι]at h;exact wpAny_eqBool_str h
 «strs»:=λk x t v h=>by
  rcases Fo h with ⟨i,u,rfl,e⟩|⟨y,u,rfl,e⟩;exact nomatch e;injection e with c _;subst c;cases v<;>rfl
def Μ(prog)(w)(i)(t):(Dq prog w).is (.inl i) (.int i t)=true:=Ζ i t
def Ν(prog)(w)(x)(t):(Dq prog w).is (.inr x) (.str x t)=true:=Η x t
set_option genInjectivity true in
inductive V where
 |non|bl (b:Bool)|int (i:Int)|str (x:Str)|byt (b:Array UInt8)|flt (b:UInt64)|ref (a:Addr)|ty (n:String)
 deriving DecidableEq
abbrev qA:=List V
def Ac:V->Value->Prop
 |.non,u=>u=Value.none|.bl b,u=>u=Value.bool b|.int i,u=>∃t,u=Value.int i t|.str x,u=>∃t,u=Value.str x t|.byt b,u=>∃t,u=Value.bytes b t|.flt b,u=>∃t,u=Value.float b t|.ref a,u=>u=Value.ref a|.ty n,u=>u=Value.type n
abbrev Ag:qA->kc->Prop:=Paired Ac
def Ag.length(r:Ag xs us):xs.length=us.length:=Ŕ r
def Ag.get:∀{xs} {us} {i:Nat} {x},Ag xs us->xs[i]?=↑x->∃u,us[i]?=↑u/\Ac x u
 |_,_,_,_,.nil,e=>by simp at e|_,_,0,_,.cons r _,e=>by grind|_,_,i+1,x,.cons _ t,e=>by
  let(u,a,b):=Ag.get t<|by simpa using e
  grind
def Ag.set(r:Ac x u):∀{xs} {us} (i),Ag xs us->Ag (xs.set i x) (us.set i u)
 |_,_,_,.nil=>.nil|_,_,0,.cons _ t=>.cons r t|_,_,i+1,.cons q t=>.cons q<|Ag.set r i t
def Ag.append:∀{xs ys} {us ws},Ag xs us->Ag ys ws->Ag (xs++ys) (us++ws)
 |_,_,_,_,.nil,s=>s|_,_,_,_,.cons r t,s=>.cons r<|Ag.append t s
def Ag.take:∀{xs} {us} (n),Ag xs us->Ag (xs.take n) (us.take n)
 |_,_,0,_=>.nil|_,_,_+1,.nil=>.nil|_,_,n+1,.cons r t=>.cons r<|Ag.take n t
def Ag.drop:∀{xs} {us} (n),Ag xs us->Ag (xs.drop n) (us.drop n)
 |_,_,0,r=>r|_,_,_+1,.nil=>.nil|_,_,n+1,.cons _ t=>Ag.drop n t
def Ag.none_of:∀{i:Nat},Ag xs us->xs[i]?=none->us[i]?=none:=λr e=>by
 have a:=r.length;grind
def EY:Option V->Option Value->Prop
 |some v,↑u=>Ac v u|none,none=>True|ϊ,ϋ=>False
def KV{κ:Type}:List (κ×V)->List (κ×Value)->Prop:=Paired λ(p:κ×V) (q:κ×Value)=>p.1=q.1/\Ac p.2 q.2
def kV:Key->V
 |.inl i=>.int i|.inr x=>.str x
set_option genInjectivity true in
inductive HO where
 |lst (xs:List V)
 |tup (xs:List V)
 |dK (kvs:List<|Key×V)|dT (kvs:List<|List Key×V)
 |set (S:Int->Bool) (n:Nat)
 |ins (C dx:Addr) (fs:List<|Str×V)
 |own (x:Addr)
 |xd (fs:List<|Str×V)
 |met (f x:Addr)
 |rng (lo hi:Int)
 |frz (o:Obj) (u:HO)
 |tbl (ps:Array Value)
 |ext (φ:Heap->Prop)
abbrev Hp:=Addr->Option HO
def upd(H:Hp)(a:Addr)(o:HO):Hp:=λb=>if b=a then ↑o else H b
def Cn{H:Hp}{a:Addr}{o:HO}:upd H a o a=↑o:=by unfold upd;simp
def BB(h:b≠a):upd H a o b=H b:=by unfold upd;rw[if_neg h]
def ne_of{H:Hp}   (h:H a=↑o)(c:H b=↑u)(d:o≠u):a≠b:=by
 grind
def DK{H:Hp}(h:H a=↑o)(c:H b=none):a≠b:=by
 grind
section
variable (P:Program)(w:World)
def DU(H:Hp)(h:Heap)(a:Addr):HO->Prop
 |.lst xs=>xs.length<=sizeLine/\∃(b:kc) (n:Nat),Ag xs b/\h.get? a=↑{ cls:=.type "list",data:=.seq b.toArray n }|.tup xs=>xs.length<=sizeLine/\∃b:kc,Ag xs b/\IsTup h a b.toArray|.dK c=>c.length<=sizeLine/\(a == sysModules)=false/\∃k,KV c k/\h.DictOf (Dq P w) a k|.dT c=>c.length<=sizeLine/\(a == sysModules)=false/\∃xs:List (List Key×Addr×Value),
   Paired (λ(p:List Key×V) (q:List Key×Addr×Value)=>p.1=q.1/\H q.2.1=↑(.tup<|p.1.map kV)/\Ac p.2 q.2.2) c xs /\
   ∃o g l,h.get? a=↑o/\o.ExactDict/\o.data=.dict g l/\g.toList=xs.map (entryOfKey<|tupleKind<|Dq P w)/\(xs.map (·.1)).Nodup
 |.set S n=>h.SetOf (intKind P w) a S n|.ins C e fs=>H e=↑(.own a)/\fs.length<=1000/\e≠a/\h.get? a=↑(W.instObj C e) /\
   ∃d,h.Ns1 e d/\(∀f,EY (fs.lookup f)<|d f)/\PySem.Within d (fs.map (·.1))
 |.own ϊ=>∃o,h.get? a=↑o|.xd fs=>∃d,h.Ns1 a d/\∀f,EY (fs.lookup f) (d f)|.rng r m=>∃t u v,h.get? a=↑{ cls:=.type "range",data:=.fields #[.int r t,.int m u,.int 1 v] }|.frz o u=>h.get? a=↑o/\DU H h a u|.tbl ps=>h.get? a=↑{ cls:=.none,data:=.fields ps }|.met f x=>h.get? a=↑(W.methodObj (.ref f)<|.ref x)|.ext φ=>φ h/\(∃o,h.get? a=↑o)/\∀i j:Heap,φ i->(∀o,i.get? a=↑o->j.get? a=↑o)->φ j
def HOk(H:Hp)(h:Heap):Prop:=∀a o,H a=↑o->DU P w H h a o
end
section
variable {P:Program}{w:World}{H H':Hp}{h h':Heap}{a:Addr}{o:HO}
def DU.lt(x:DU P w H h a o):a<h.objs.size:=by
 cases o with
 |lst xs=>let(_,_,_,_,e):=x;exact É e
 |tup xs=>let(_,_,_,p):=x;exact p.lt
 |dK b=>let(_,_,_,_,o,_,_,e,_):=x;exact É e
 |dT b=>let(_,_,_,_,o,_,_,e,_):=x;exact É e
 |set S n=>let(o,_,_,_,e,_):=x;exact É e
 |ins C c fs=>let(_,_,_,e,_):=x;exact É e
 |own y=>let(_,e):=x;exact É e
 |xd fs=>let(_,(_,_,_,e,_),_):=x;exact É e
 |rng g d=>let(_,_,_,e):=x;exact É e
 |frz ob u=>let(e,_):=x;exact É e
 |tbl ps=>exact É (x)|met f y=>exact É (x)|ext φ=>let(_,(_,e),_):=x;exact É e
def Paired.mapP:∀{l₁:List α} {l₂:List β},Paired F l₁ l₂->(∀a b,F a b->G a b)->Paired G l₁ l₂
 |_,_,.nil,_=>.nil|_,_,.cons r t,f=>.cons (f _ _ r)<|Paired.mapP t f
def DU.stay(x:DU P w H h a o)(k:∀b u,(b=a\/H b=↑(.own a))->h.get? b=↑u->h'.get? b=↑u)
  (B:∀b,H b=↑(.own a)->H' b=↑(.own a)) (D:∀b xs,H b=↑(.tup xs)->H' b=↑(.tup xs)):DU P w H' h' a o:=by
 induction o with
 |lst xs=>let(z,j,n,r,e):=x;exact{z,j,n,r,k _ _ (.inl rfl) e}
 |tup xs=>let(z,j,r,ob,e,c):=x;exact{z,j,r,ob,k _ _ (.inl rfl) e,c}
 |dK l=>let(z,y,F,r,ob,i,g,e,c):=x;exact{z,y,F,r,ob,i,g,k _ _ (.inl rfl) e,c}
 |dT l=>let(z,y,xs,r,ob,i,g,e,c):=x;exact{z,y,xs,Paired.mapP r λp q z=>{z.1,D _ _ z.2.1,z.2.2},ob,i,g,k _ _ (.inl rfl) e,c}
 |set S n=>let(ob,i,g,t,e,c):=x;exact{ob,i,g,t,k _ _ (.inl rfl) e,c}
 |ins C G fs=>let(d,z,ne,e,m,(s,i,g,A,c),r):=x;exact{B _ d,z,ne,k _ _ (.inl rfl) e,m,{s,i,g,k _ _ (.inr d) A,c},r}
 |own y=>let(ob,e):=x;exact{ob,k _ _ (.inl rfl) e}
 |xd fs=>let(m,(s,i,g,e,c),r):=x;exact{m,{s,i,g,k _ _ (.inl rfl) e,c},r}
 |rng J I=>let(t,u,v,e):=x;exact{t,u,v,k _ _ (.inl rfl) e}
 |frz ob u E=>let(e,q):=x;exact{k _ _ (.inl rfl) e,E q}
 |tbl ps=>have e :=x;exact k a _ (.inl rfl) e|met f y=>have e :=x;exact k a _ (.inl rfl) e|ext φ=>let(p,(o,e),st):=x;exact{st _ _ p λo q=>k _ _ (.inl rfl) q,{o,k _ _ (.inl rfl) e},st}
def HOk.lt(x:HOk P w H h)(e:H a=↑o):a<h.objs.size:=(x a o e).lt
def HOk.fresh(x:HOk P w H h)(e:h.objs.size<=a):H a=none:=by
 cases q:H a with
 |none=>rfl|some u=>exact absurd (Ü (x.lt q) e)<|ã _
theorem HOk.kept(x:HOk P w H h)(k:∀b u,h.get? b=↑u->h'.get? b=↑u):HOk P w H h':=λa o e=>
 (x a o e).stay (λb u ϊ q=>k b u q) (λϊ q=>q) λϊ ϊ q=>q
theorem HOk.laid(x:HOk P w H h)(k:∀b u,h.get? b=↑u->h'.get? b=↑u)(g:h.objs.size<=a)(new:DU P w (upd H a o) h' a o):HOk P w (upd H a o) h':=λb u e=>by
 have f:=x.fresh g;by_cases d:b=a;subst d;rw[Cn]at e;grind;rw[BB d]at e;exact(x b u e).stay (λc v ϊ q=>k c v q) (λc q=>by rw[BB<|DK q f];exact q) λc xs q=>by rw[BB<|DK q f];exact q
end
def Rd(H:Hp)(a:Addr)(u:HO):Prop:=H a=↑u\/∃o,H a=↑(.frz o u)
def Rd.ok(r:Rd H a u)(x:HOk P w H h):DU P w H h a u:=by
 rcases r with r|⟨o,r⟩;exact x a u r;let(_,q):=x a _ r;exact q
def Lw:Option HO->Prop
 |some (.lst ϊ)=>True|some (.dK ϊ)=>True|some (.dT ϊ)=>True|some (.set ϊ ϋ)=>True|some (.ins ϊ ϋ ό)=>True|some (.ext ϊ)=>True|ϊ=>False
section
variable {P:Program}{w:World}{H:Hp}{h h':Heap}{x e:Addr}{o':HO}
theorem HOk.write(ok:HOk P w H h)(mu:Lw<|H x)(n:e=x\/H e=↑(.own x))(k:∀b u,b≠e->h.get? b=↑u->h'.get? b=↑u)(g:∃u,h'.get? e=↑u)
  (new:DU P w (upd H x o') h' x o'):HOk P w (upd H x o') h':=λb u q=>by
 have a:∀c y,H c=↑(.own y)->c≠x:=λc y r z=>by subst z;rw[r]at mu;exact mu
 have d:∀c xs,H c=↑(.tup xs)->c≠x:=λc xs r z=>by subst z;rw[r]at mu;exact mu
 by_cases i:b=x;subst i;rw[Cn]at q;cases q;exact new;rw[BB i]at q;by_cases f:b=e
 have j:H b=↑(.own x):=by
  grind
 rw[q]at j;cases j;let(v,l):=g;exact{v,by rw[f];exact l}
 refine(ok b u q).stay (λc v m r=>k c v ?_ r) (λc r=>by rw[BB<|a c b r];exact r) λc xs r=>by rw[BB<|d c xs r];exact r
 grind
end
structure Un(fs ex:List Addr)(H H':Hp)(h h':Heap):Prop where
 keep:∀b o,h.get? b=↑o->H b=none->b∉fs->b∉ex->h'.get? b=↑o
 slot:∀b o,h.get? b=↑o->H b=none->b∈fs->b∉ex->∃sl,h'.get? b=↑{ o with slots:=sl }
 free:∀b o,h.get? b=↑o->H b=none->b∉ex->H' b=none
 there:∀b o,h.get? b=↑o->b∉ex->∃o',h'.get? b=↑o'
 tups:∀b xs,H b=↑(.tup xs)->H' b=↑(.tup xs)
 frzs:∀b o u,H b=↑(.frz o u)->H' b=↑(.frz o u)
 tbls:∀b ps,H b=↑(.tbl ps)->∃more,H' b=↑(.tbl<|ps++more)
section
variable {fs fs' ex ex':List Addr}{H H1 H2:Hp}{h h1 h2 h':Heap}{a x e:Addr}{o:HO}
def Un.any(u:Un fs ex H H1 h h1)(q:h.get? b=↑ob)(n:H b=none)(c:b∉ex):∃sl,h1.get? b=↑{ ob with slots:=sl}:=by
 by_cases a:b∈fs;exact u.slot b ob q n a c;exact{ob.slots,u.keep b ob q n a c}
theorem Un.kept(k:∀b u,h.get? b=↑u->h'.get? b=↑u):Un fs ex H H h h':=
 {λb ob q ϊ ϊ ϊ=>k b ob q,λb ob q ϊ ϊ ϊ=>{ob.slots,k b ob q},λϊ ϊ ϊ n ϊ=>n,λb ob q ϊ=>{ob,k b ob q},λϊ ϊ q=>q,λϊ ϊ ϊ q=>q,λϊ ps q=>{#[],by rw[q];simp}}
theorem Un.refl:Un fs ex H H h h:=Un.kept λϊ ϊ q=>q
theorem Un.laid(k:∀b u,h.get? b=↑u->h'.get? b=↑u)(d:h.objs.size<=a)(c:H a=none):Un fs ex H (upd H a o) h h' where
 keep:=λb u q ϊ ϊ ϊ=>k b u q
 slot:=λb u q ϊ ϊ ϊ=>{u.slots,k b u q}
 free:=λb u q n ϊ=>by rw[BB<|Ô<|Ü (É q) d];exact n
 there:=λb u q ϊ=>{u,k b u q}
 tups:=λb xs q=>by rw[BB<|DK q c];exact q
 frzs:=λb u xs q=>by rw[BB<|DK q c];exact q
 tbls:=λb ps q=>{#[],by rw[BB<|DK q c,q];simp}
def Un.write(mu:Lw<|H x)(g:e=x\/H e=↑(.own x))(k:∀b u,b≠e->h.get? b=↑u->h'.get? b=↑u)(d:∃u,h'.get? e=↑u):Un fs ex H (upd H x o) h h':=by
 have f:∀b,H b=none->b≠x:=λb n z=>by subst z;rw[n]at mu;exact mu
 have c:∀b,H b=none->b≠e:=λb n z=>by
  grind
 have a:∀b u,H b=↑u->¬ Lw ↑u->b≠x:=λb u q nm z=>by grind
 refine{λb u q n ϊ ϊ=>k b u (c b n) q,λb u q n ϊ ϊ=>{u.slots,k b u (c b n) q},λb u q n ϊ=>by rw[BB<|f b n];exact n,λb u q ϊ=>?_,
  λb xs q=>by rw[BB<|a b _ q λz=>z];exact q,λb u xs q=>by rw[BB<|a b _ q λz=>z];exact q,λb ps q=>{#[],by rw[BB<|a b _ q λz=>z,q];simp}}
 grind
end
def MY(h:Heap)(H:Hp):List Addr:=(List.range h.objs.size).filter λa=>(H a).isSome
def Hi(h:Heap)(H:Hp):Heap:=W.hideAll h<|MY h H
def Ξ(h)(H):(Hi h H).objs.size=h.objs.size:=W.hideAll_size _ _
def Ο(e:h.get? b=↑o)(n:H b=none):(Hi h H).get? b=↑o:=
 Ĩ _ e λa=>by
  have q :=(Ľ.mp a).2;grind
def Ρ(e:(Hi h H).get? b=↑o):h.get? b=↑o/\H b=none:=by
 have a :=ķ (MY h H) e;refine{a,?_};cases q:H b with
 |none=>rfl|some x=>
  have c:b∈MY h H:=Ľ.mpr {â.mpr<|É a,by simp[q]};have z:(Hi h H).get? b=none:=ũ (MY h H) c;grind
structure Mod(K:q9)(mg:Str->Option Value)(base:Heap):Prop where
 kin:K.In base
 glob:base.Ns mainGlobals mg
 blt:∃mb,base.Ns builtinsNs mb/\∀x:Str,x≠"__name__"->mb x=bootBuiltins x
 nolimit:base.NoLimit
structure Cx where
 prog:Program
 w:World
 K:q9
 mg:Str->Option Value
 base:Heap
 A:Around
 N:ki
 s₀:Shared
 H₀:Hp
 env:Env
 outer:List Env
 stack:List Env
 ex:List Addr
 fn:Str->Bool
 calm:Bool
 pn:List (Addr×Obj)
 xe:Value->Shared->Prop
def Bc(l:List Env):List Addr:=l.filterMap (·.frame)
abbrev Cx.fs(X:Cx):List Addr:=Bc X.outer
def EI(sc:Scope)(x:Str):Prop:=sc.names.lookup x=↑.local\/sc.names.lookup x=↑.cell\/sc.names.lookup x=↑.free
def GX(sc:Scope)(x:Str):Prop:=sc.names.lookup x=↑.local\/sc.names.lookup x=↑.cell
def Look(env:Env)(h:Heap)(m:Str->Option Value)(x:Str)(u:Value):Prop:=
 (env.kindOf x=↑.local/\m x=↑u)\/((env.kindOf x=↑.cell\/env.kindOf x=↑.free)/\∃c,env.cells.lookup x=↑c/\h.IsCell c ↑u)
structure Cx.Ok(X:Cx):Prop where
 mod:Mod X.K X.mg X.base
 kind:X.env.scope.kind=.function
 glob:X.env.globals=mainGlobals
 blt:X.env.builtins=builtinsNs
 above:X.s₀.heap.objs.size<=X.env.locals
 inj:∀x y c,X.env.cells.lookup x=↑c->X.env.cells.lookup y=↑c->x=y
 has:∀x,(X.env.kindOf x=↑.cell\/X.env.kindOf x=↑.free)->∃c,X.env.cells.lookup x=↑c
 cab:∀x c,X.fn x=true->X.env.cells.lookup x=↑c->X.s₀.heap.objs.size<=c
 hd:X.calm=true->X.A.handled=none
 frames:X.A.frames=↑X.stack
 stk:X.stack=X.outer\/(X.stack=X.env::X.outer/\X.env.frame=↑X.env.locals)
 exf:∀b∈X.ex,b≠X.env.locals/\∀x c,X.env.cells.lookup x=↑c->c≠b
 bs:∀b o,X.base.get? b=↑o->X.s₀.heap.get? b=↑o/\X.H₀ b=none
 bsz:X.base.objs.size<=X.s₀.heap.objs.size
 noex:∀b o,X.base.get? b=↑o->b∉X.ex
 exfs:∀b∈X.ex,b∉X.fs
 funs:X.s₀.heap.FunFrames X.base X.outer
 frf:∀b∈X.fs,X.H₀ b=none
structure Inv(X:Cx)(pz:List<|Addr×Obj)(O:List<|Option V)(H:Hp)(s:Shared):Prop where
 ok:X.Ok
 os:s.os=X.s₀.os
 bare:AllBare s.gens
 base:Un X.fs X.ex X.H₀ H X.s₀.heap s.heap
 loc:∃m,s.heap.Ns X.env.locals m/\∀(i:Nat) (x:Str) (v:V),X.N[i]?=↑x->O[i]?=↑↑v->EI X.env.scope x->∃u,Ac v u/\Look X.env s.heap m x u
 cell:∀x c,X.env.cells.lookup x=↑c->∃v,s.heap.IsCell c v
 free:H X.env.locals=none
 freeC:∀x c,X.env.cells.lookup x=↑c->H c=none
 pin:∀p∈X.pn++pz,s.heap.get? p.1=↑p.2/\H p.1=none/\p.1≠X.env.locals/\p.1∉X.fs/\∀v,p.2.data≠.cell v
 hok:HOk X.prog X.w H s.heap
 len:O.length=X.N.length
section
variable {X:Cx}{pz:List<|Addr×Obj}{O:List<|Option V}{H H':Hp}{s:Shared}{h':Heap}
theorem Cx.Ok.nofr(ok:X.Ok)(e:X.base.get? b=↑o):b∉X.fs:=λa=>by
 have:=(ok.funs.mem a).1;grind
def Inv.bs(I:Inv X pz O H s):∀b o,X.base.get? b=↑o->s.heap.get? b=↑o/\H b=none:=λb o e=>
 {I.base.keep b o (I.ok.bs b o e).1 (I.ok.bs b o e).2 (I.ok.nofr e) (I.ok.noex b o e),I.base.free b o (I.ok.bs b o e).1 (I.ok.bs b o e).2 (I.ok.noex b o e)}
def Inv.bk(I:Inv X pz O H s):∀b o,X.base.get? b=↑o->s.heap.get? b=↑o:=λb o e=>(I.bs b o e).1
theorem Inv.mod(I:Inv X pz O H s):Mod X.K X.mg X.base:=I.ok.mod
theorem Inv.kIn(I:Inv X pz O H s):X.K.In s.heap:=I.ok.mod.kin.keeps I.bk
def Inv.lt(I:Inv X pz O H s):X.env.locals<s.heap.objs.size:=let ⟨_,hn,_⟩:=I.loc;hn.lt
def Inv.sz(I:Inv X pz O H s):X.s₀.heap.objs.size<=s.heap.objs.size:=Ú I.ok.above<|ŕ I.lt
theorem Inv.nofs(I:Inv X pz O H s){a:Addr}(h:s.heap.objs.size<=a):a∉X.fs:=λb=>by
 let(_,o,c,_):=I.ok.funs.mem b;exact absurd (Ü (É c)<|Ú I.sz h)<|ã _
def Inv.cne(I:Inv X pz O H s):∀x c,X.env.cells.lookup x=↑c->c≠X.env.locals:=λx c e z=>by
 let(v,o,g,hd):=I.cell x c e;let(m,(h,f,d,b,a,_),_):=I.loc
 grind
def Inv.funs(I:Inv X pz O H s):s.heap.FunFrames X.base X.outer:=by
 have all:∀(l ),(∀b∈Bc l,b∈X.fs)->X.s₀.heap.FunFrames X.base l->s.heap.FunFrames X.base l:=by
  intro l
  induction l with
  |nil=>intro _ _;trivial|cons env r k=>
   intro f g;let(hk,(L,o,d,h,i,hd),j):=g;have a :=f L (by unfold Bc;grind)
   let(m,e):=I.base.slot L o i (I.ok.frf L a) a λz=>I.ok.exfs L z a;exact{hk,{L,_,d,h,e,hd},k (λb c=>f b (by unfold Bc;rw[List.filterMap_cons,d];exact Ê _ c)) j}
 exact all X.outer (λϊ c=>c) I.ok.funs
def Inv.stack(I:Inv X pz O H s):s.heap.FunFrames X.base X.stack:=by
 rcases I.ok.stk with e|⟨e,a⟩;rw[e];exact I.funs;rw[e];let(m,b,_):=I.loc;refine .cons (by rw[I.ok.kind];decide) a b ?_ I.funs
 exact Heap.get?_none_of_le<|Ú I.ok.bsz I.ok.above
def Inv.stkSub(I:Inv X pz O H s):∀b∈Bc X.stack,b∈X.env.locals::X.fs:=λb a=>by
 rcases I.ok.stk with e|⟨e,c⟩;grind;rw[e]at a;unfold Bc at a;rw[List.filterMap_cons,c]at a;exact a
def Inv.stkFree(I:Inv X pz O H s):∀b∈Bc X.stack,H b=none:=λb a=>by
 rcases Ì.mp (I.stkSub b a) with e|a;rw[e];exact I.free;let(_,o,c,_):=I.ok.funs.mem a;exact I.base.free b o c (I.ok.frf b a) λz=>I.ok.exfs b z a
def Inv.step{t':Nat}{d':Drawn}{ch:List Addr}(I:Inv X pz O H s)
  (g:∀b∈ch,(b∈X.ex\/X.s₀.heap.objs.size<=b)/\b≠X.env.locals/\(∀x c,X.env.cells.lookup x=↑c->c≠b)/\∀p∈X.pn++pz,p.1≠b)
  (keep:∀b o,b≠X.env.locals->b∉X.fs->b∉ch->s.heap.get? b=↑o->H b=none->h'.get? b=↑o)
  (slot:∀b o,b≠X.env.locals->b∈X.fs->b∉ch->s.heap.get? b=↑o->H b=none->∃sl,h'.get? b=↑{ o with slots:=sl }) (free:∀b o,b∉ch->s.heap.get? b=↑o->H b=none->H' b=none)
  (there:∀b o,b∉ch->s.heap.get? b=↑o->∃o',h'.get? b=↑o')
  (tups:∀b xs,H b=↑(.tup xs)->H' b=↑(.tup xs)) (frzs:∀b o u,H b=↑(.frz o u)->H' b=↑(.frz o u)) (tbls:∀b ps,H b=↑(.tbl ps)->∃more,H' b=↑(.tbl<|ps++more))
  (ns:∀m,s.heap.Ns X.env.locals m->h'.Ns X.env.locals m) (hok:HOk X.prog X.w H' h') (G:AllBare g') :
  Inv X pz O H' { s with heap:=h',gens:=g',drawn:=d',toks:=t' }:=by
 have B:∀b o,X.s₀.heap.get? b=↑o->b≠X.env.locals:=λb o e=>Ô<|Ü (É e) I.ok.above
 have t:∀b o,X.s₀.heap.get? b=↑o->b∉X.ex->b∉ch:=λb o e a w=>by
  rcases(g b w).1 with z|z;exact a z;exact absurd (Ü (É e) z)<|ã _
 have f:∀x c,X.env.cells.lookup x=↑c->∀v,s.heap.IsCell c v->h'.IsCell c v:=λx c e v ⟨o,y,hd⟩=>by
  have h :=λz=>(g c z).2.2.1 x c e rfl;by_cases D:c∈X.fs;let(sl,q):=slot c o (I.cne x c e) D h y<|I.freeC x c e;exact{_,q,hd}
  exact{o,keep c o (I.cne x c e) D h y<|I.freeC x c e,hd}
 refine{I.ok,I.os,G,{λb o e n w a=>?_,λb o e n w a=>?_,λb o e n a=>?_,λb o e a=>?_,λb xs e=>tups b xs<|I.base.tups b xs e,λb o xs e=>frzs b o xs<|I.base.frzs b o xs e,λb ps e=>?_},?_,λx c e=>?_,?_,λx c e=>?_,λp E=>?_,hok,I.len};exact keep b o (B b o e) w (t b o e a) (I.base.keep b o e n w a)<|I.base.free b o e n a
 let(sl,j):=I.base.slot b o e n w a;let(C,A):=slot b _ (B b o e) w (t b o e a) j<|I.base.free b o e n a;exact{(C),A}
 let(o',j):=I.base.there b o e a;exact free b o' (t b o e a) j<|I.base.free b o e n a
 let(o',j):=I.base.there b o e a;exact there b o' (t b o e a) j;let(m1,j):=I.base.tbls b ps e;let(m2,A):=tbls b _ j;exact{m1++m2,by rw[A,Array.append_assoc]}
 let(m,K,J):=I.loc;refine{m,ns m K,λi x v j A F=>?_};let(u,r,l):=J i x v j A F;refine{u,r,?_};rcases l with l|⟨k,c,e,z⟩;exact .inl l;exact .inr {k,c,e,f x c e _ z};let(v,z):=I.cell x c e;exact{v,f x c e v z};let(m,(o,_,_,y,_),_):=I.loc;exact free _ o (λz=>(g _ z).2.1 rfl) y I.free;let(v,o,y,hd):=I.cell x c e;exact free c o (λz=>(g c z).2.2.1 x c e rfl) y<|I.freeC x c e
 let(e,n,ne,nf,d):=I.pin p E;have h :=λz=>(g p.1 z).2.2.2 p E rfl
 exact{keep p.1 p.2 ne nf h e n,free p.1 p.2 h e n,ne,nf,d}
def Inv.un(I:Inv X pz O H s)(u:Un X.fs [] H H' s.heap h')(hok:HOk X.prog X.w H' h'):Inv X pz O H' { s with heap:=h',toks:=t' }:=by
 let(m,(o,l,k,g,r),_):=id I.loc;let(t,h):=u.any g I.free<|by simp
 exact I.step (ch:=[]) (λϊ z=>nomatch z) (λb o ϊ f ϊ e n=>u.keep b o e n f<|by simp) (λb o ϊ f ϊ e n=>u.slot b o e n f<|by simp) (λb o ϊ e n=>u.free b o e n<|by simp) (λb o ϊ e=>u.there b o e<|by simp) u.tups u.frzs u.tbls (λp i=>by
  let(q,d,c,a,j):=i;rw[g]at a;cases a;exact{_,d,c,h,j}) hok I.bare
def Inv.call(I:Inv X pz O H s)(u:Un (Bc X.stack) ch H H' s.heap h')(hok:HOk X.prog X.w H' h')(l:AllBare g')
  (d:∀b∈ch,(b∈X.ex\/X.s₀.heap.objs.size<=b)/\b≠X.env.locals/\(∀x c,X.env.cells.lookup x=↑c->c≠b)/\∀p∈X.pn++pz,p.1≠b) :
  Inv X pz O H' { s with heap:=h',gens:=g',drawn:=d',toks:=t' }:=by
 let(m,(o,w,v,j,r),_):=id I.loc;let(B,i):=u.any j I.free λz=>(d _ z).2.1 rfl
 exact I.step d (λb o i k a e n=>u.keep b o e n (λz=>(Ì.mp<|I.stkSub b z).elim i k) a) (λb o ϊ ϊ a e n=>u.any e n a) (λb o a e n=>u.free b o e n a) (λb o a e=>u.there b o e a) u.tups u.frzs u.tbls (λy q=>by
  let(A,h,g,f,t):=q;rw[j]at f;cases f;exact{_,h,g,i,t}) hok l
def Inv.turned(I:Inv X pz O H s)(k:∀b o,b≠it->s.heap.get? b=↑o->h'.get? b=↑o)(y:H it=none)(g:it≠X.env.locals)
  (j:it∈X.ex\/X.s₀.heap.objs.size<=it) (l:∀x c,X.env.cells.lookup x=↑c->c≠it) (t:∀p∈X.pn++pz,p.1≠it):Inv X pz O H { s with heap:=h',toks:=t' }:=by
 refine I.step (ch:=[it]) (λb w=>?_) (λb o ϊ ϊ a e ϊ=>k b o (λz=>a<|by simp[z]) e) (λb o ϊ ϊ a e ϊ=>{o.slots,k b o (λz=>a<|by simp[z]) e}) (λϊ ϊ ϊ ϊ n=>n)
  (λb o a e=>{o,k b o (λz=>a<|by simp[z]) e}) (λϊ ϊ e=>e) (λϊ ϊ ϊ e=>e) (λb ps e=>{#[],by rw[e];simp}) (λm h=>?_) (λb u e=>?_) I.bare
 grind;let(o,f,d,i,r):=h;exact{o,f,d,k _ o (Í g) i,r};refine(I.hok b u e).stay (λc v a q=>k c v ?_ q) (λϊ q=>q) λϊ ϊ q=>q;grind
theorem Inv.tok(I:Inv X pz O H s)(t):Inv X pz O H { s with toks:=t}:=I.un Un.refl I.hok
theorem Inv.kept(I:Inv X pz O H s)(k:∀b u,s.heap.get? b=↑u->h'.get? b=↑u):Inv X pz O H { s with heap:=h',toks:=t' }:=I.un (Un.kept k)<|I.hok.kept k
theorem Inv.laid{a:Addr}   (I:Inv X pz O H s)(k:∀b u,s.heap.get? b=↑u->h'.get? b=↑u)(c:s.heap.objs.size<=a)(new:DU X.prog X.w (upd H a o) h' a o) :
  Inv X pz O (upd H a o) { s with heap:=h',toks:=t' }:=I.un (Un.laid k c<|I.hok.fresh c)<|I.hok.laid k c new
theorem Inv.write(I:Inv X pz O H s)(mu:Lw<|H x)(c:e=x\/H e=↑(.own x))(k:∀b u,b≠e->s.heap.get? b=↑u->h'.get? b=↑u)(a:∃u,h'.get? e=↑u)
  (new:DU X.prog X.w (upd H x o) h' x o):Inv X pz O (upd H x o) { s with heap:=h',toks:=t' }:=I.un (Un.write mu c k a)<|I.hok.write mu c k a new
theorem Inv.pins_of(I:Inv X pz O H s)(h:∀p∈pins',s.heap.get? p.1=↑p.2/\H p.1=none/\p.1≠X.env.locals/\p.1∉X.fs/\∀v,p.2.data≠.cell v):Inv X pins' O H s:=
 {I.ok,I.os,I.bare,I.base,I.loc,I.cell,I.free,I.freeC,λp a=>(ß.mp a).elim (λz=>I.pin p<|ħ _ z) (h p),I.hok,I.len}
def bW{N:ki}(e:N.Nodup){i j:Nat}(a:N[i]?=↑x)(b:N[j]?=↑x):i=j:=by
 let(f,c):=Î.mp a;let(g,d):=Î.mp b;exact(Ą e).mp (c.trans d.symm)
def X8(I:Inv X pz O H s)(hN:X.N.Nodup)(R:X.N[i]?=↑x)(w:GX X.env.scope x)(r:Ac v u)
  (h:∀s',Inv X pz (O.set i ↑v) H s'->(∃a,Heap.SameBut a s.heap s'.heap/\(a=X.env.locals\/X.env.cells.lookup x=↑a))->Q () s') (hf:X.fn x=true\/X.env.scope.names.lookup x=↑.local:=by first|exact .inl rfl|exact .inr rfl|assumption):wpAny M A (storeName X.env x u) Q E s:=by
 let(m,Y,hl):=id I.loc;have P:(X.env.scope.kind == .class || (X.env.scope.kind == .module && X.env.locals != X.env.globals))=false:=by rw[I.ok.kind];rfl
 have D:i<O.length:=by rw[I.len];exact(Î.mp R).1
 have cne:=I.cne
 have l:∀{a } {K },(∃o,s.heap.get? a=↑o/\H a=none)->Heap.SameBut a s.heap K->HOk X.prog X.w H K:=fun  ha f b ob e=>by
  let(_,_,B):=ha;refine(I.hok b ob e).stay (λc V t q=>(f.2 c ?_).trans q) (λϊ q=>q) λϊ ϊ q=>q;rintro rfl;rcases t with rfl|t;rw[B]at e;cases e;rw[B]at t;cases t
 rcases w with hk|hk;refine wpAny_storeName_local hk Y (λK Z f=>?_) P;let(oL,_,_,hoL,_):=id Y;refine h _ {I.ok,I.os,I.bare,{λb o e n F w=>?_,λb o e n F w=>?_,I.base.free,λb o e w=>?_,I.base.tups,I.base.frzs,I.base.tbls},{_,Z,λj y v' g C W=>?_},λy c e=>?_,I.free,I.freeC,λp hp=>?_,l {(oL),hoL,I.free} f,by simpa using I.len} {_,f,.inl rfl};exact(f.2 b<|Ô<|Ü (É e) I.ok.above).trans (I.base.keep b o e n F w);let(sl,g):=I.base.slot b o e n F w;exact{sl,(f.2 b<|Ô<|Ü (É e) I.ok.above).trans g};let(o',g):=I.base.there b o e w;exact{o',(f.2 b<|Ô<|Ü (É e) I.ok.above).trans g};by_cases J:j=i;subst J;rw[R]at g;cases g;rw[ê D]at C;cases C;exact{u,r,.inl {hk,by simp}};rw[å<|Í J]at C;let(u',r',q):=hl j y v' g C W;refine{u',r',?_}
 rcases q with ⟨k,e⟩|⟨k,c,e,z⟩;refine .inl {k,?_};have:y≠x:=λe=>J<|bW hN g<|e▸R
 simp[this,e];exact .inr {k,c,e,z.sameBut f<|cne y c e};let(V,z):=I.cell y c e;exact{V,z.sameBut f<|cne y c e};let(e,n,ne,nf,d):=I.pin p hp;exact{(f.2 p.1 ne).trans e,n,ne,nf,d}
 have G:X.fn x=true:=by
  rcases hf with z|z;exact z;rw[z]at hk;cases hk
 let(c,t):=I.ok.has x<|.inl hk;let(V,z):=I.cell x c t;refine wpAny_storeName_cell I.ok.kind hk t z<|λK L f=>?_
 let(oc,S,T):=id z;refine h { s with heap:=K } {I.ok,I.os,I.bare,{λb o e n F w=>?_,λb o e n F w=>?_,I.base.free,λb o e w=>?_,I.base.tups,I.base.frzs,I.base.tbls},{m,Y.sameBut f<|Í<|cne x c t,λj y v' g C W=>?_},λy U e=>?_,I.free,I.freeC,λp hp=>?_,l {oc,S,I.freeC x c t} f,by simpa using I.len} {c,f,.inr t};exact(f.2 b<|Ô<|Ü (É e)<|I.ok.cab x c G t).trans (I.base.keep b o e n F w);let(sl,g):=I.base.slot b o e n F w;exact{sl,(f.2 b<|Ô<|Ü (É e)<|I.ok.cab x c G t).trans g};let(o',g):=I.base.there b o e w;exact{o',(f.2 b<|Ô<|Ü (É e)<|I.ok.cab x c G t).trans g};by_cases J:j=i;subst J;rw[R]at g;cases g;rw[ê D]at C;cases C;exact{u,r,.inr {.inl hk,c,t,L}};rw[å<|Í J]at C;let(u',r',q):=hl j y v' g C W;refine{u',r',?_}
 rcases q with q|⟨k,U,e,z'⟩;exact .inl q;refine .inr {k,U,e,z'.sameBut f ?_};rintro rfl;exact J<|bW hN g<|I.ok.inj _ _ _ e t▸R
 by_cases N:U=c;subst N;exact{_,L};let(w2,z2):=I.cell y U e;exact{w2,z2.sameBut f N};let(e,n,ne,nf,d):=I.pin p hp;refine{(f.2 p.1 ?_).trans e,n,ne,nf,d};intro q;rw[q,S]at e;have q' :=Û e;exact d V (by rw[<- q'];exact T)
theorem K2(I:Inv X pz O H s)(b:X.N.Nodup)(d:X.N[i]?=↑x)(e:GX X.env.scope x)(r:Ac v u)
  (h:∀s',Inv X pz (O.set i ↑v) H s'->Q () s') (c:X.fn x=true\/X.env.scope.names.lookup x=↑.local):wpAny M A (storeName X.env x u) Q E s:=
 X8 I b d e r (λs' a ϊ=>h s' a) c
def Inv.call'(I:Inv X pz O H s)(f:s'.os=s.os)(u:Un (Bc X.stack) ch H H' s.heap s'.heap)(hok:HOk X.prog X.w H' s'.heap)(d:AllBare s'.gens)
  (a:∀b∈ch,(b∈X.ex\/X.s₀.heap.objs.size<=b)/\b≠X.env.locals/\(∀x c,X.env.cells.lookup x=↑c->c≠b)/\∀p∈X.pn++pz,p.1≠b):Inv X pz O H' s':=by
 let(i,h,g,k,j):=s';have e :=f;subst e;exact I.call u hok d a
end
abbrev XK:=Value->Option Addr->Hp->Prop
abbrev St:=List<|Option V
abbrev VK:=V->Hp->Prop
abbrev TE:=St->Hp->VK->Prop
abbrev TT:=St->Hp->(Bool->Hp->Prop)->Prop
abbrev TA:=St->Hp->(qA->Hp->Prop)->Prop
structure Ends where
 nx:St->Hp->Prop
 rt:VK
 bk:St->Hp->Prop:=λϊ ϊ=>False
 ct:St->Hp->Prop:=λϊ ϊ=>False
abbrev TS:=Ends->St->Hp->Prop
def EP(X:Cx)(b:List<|Addr×Obj)(O:St)(Q:VK)(u:Value)(s':Shared):Prop:=∃v a,Inv X b O a s'/\Ac v u/\Q v a
def TP(X:Cx)(c:List<|Addr×Obj)(O:St)(Q:Bool->Hp->Prop)(b:Bool)(s':Shared):Prop:=∃a,Inv X c O a s'/\Q b a
def AP(X:Cx)(c:List<|Addr×Obj)(O:St)(Q:qA->Hp->Prop)(us:kc)(s':Shared):Prop:=∃b a,Inv X c O a s'/\Ag b us/\Q b a
def SP(X:Cx)(c:List<|Addr×Obj)(D:Ends)(f:Flow)(s':Shared):Prop:=
 match f with
 |.next=>∃b a,Inv X c b a s'/\D.nx b a|.brk=>∃b a,Inv X c b a s'/\D.bk b a|.cont=>∃b a,Inv X c b a s'/\D.ct b a|.ret u=>∃v b a,Inv X c b a s'/\Ac v u/\D.rt v a
def PE(X:Cx)(e:Expr)(t:TE):Prop:=
 ∀(a:List<|Addr×Obj) (s:Shared) (O:St) (H:Hp) (Q:VK),Inv X a O H s->t O H Q->wpAny (model X.prog X.w) X.A (eval e X.env) (EP X a O Q) X.xe s
def PT(X:Cx)(e:Expr)(t:TT):Prop:=
 ∀(a:List<|Addr×Obj) (s:Shared) (O:St) (H:Hp) (Q:Bool->Hp->Prop),Inv X a O H s->t O H Q->wpAny (model X.prog X.w) X.A (isTrue e X.env<|eval e X.env) (TP X a O Q) X.xe s
def PW(X:Cx)(e:Expr)(t:TT):Prop:=
 ∀(a:Sem Value) (b:List<|Addr×Obj) (s:Shared) (O:St) (H:Hp) (Q:Bool->Hp->Prop),Inv X b O H s->t O H Q->wpAny (model X.prog X.w) X.A (isTrue e X.env a) (TP X b O Q) X.xe s
theorem PW.pt{X:Cx}{e:Expr}{t:TT}(h:PW X e t):PT X e t:=h _
def PA(X:Cx)(es:kg)(t:TA):Prop:=
 ∀(a:Pos) (b:List<|Addr×Obj) (s:Shared) (O:St) (H:Hp) (Q:qA->Hp->Prop),Inv X b O H s->t O H Q->wpAny (model X.prog X.w) X.A (spliced<|backTo a<|starEach es X.env) (AP X b O Q) X.xe s
def PS(X:Cx)(st:Stmt)(t:TS):Prop:=
 ∀(a:List<|Addr×Obj) (s:Shared) (O:St) (H:Hp) (D:Ends),Inv X a O H s->t D O H->wpAny (model X.prog X.w) X.A (exec st X.env) (SP X a D) X.xe s
def B9(X:Cx)(st:kh)(t:TS):Prop:=
 ∀(a:List<|Addr×Obj) (s:Shared) (O:St) (H:Hp) (D:Ends),Inv X a O H s->t D O H->wpAny (model X.prog X.w) X.A (execs st X.env) (SP X a D) X.xe s
theorem A4{t:Sem α}      (h:wpAny M A t Q E s)(b:∀a s,Q a s->Q' a s):wpAny M A t Q' E s:=í h b λϊ ϊ x=>x
section
variable {X:Cx}
def XF(i:Nat):TE:=λO H Q=>∃v,O[i]?=↑↑v/\Q v H
def tC(v:V):TE:=λϊ H Q=>Q v H
def G6{pos}(f:X.N[i]?=↑x)(n:EI X.env.scope x)(hd:(x == "__debug__")=false)(b:(x == "__classdict__")=false):PE X (.Name x pos)<|XF i:=by
 intro o s O H Q I h;let(v,e,h):=h;let(m,k,g):=I.loc;let(u,r,l):=g i x v f e n;have BK:EP X o O Q u s:={(v),H,I,r,h}
 rcases l with ⟨hk,j⟩|⟨hk,c,d,a⟩;exact wpAny_Name (wpAny_loadName_local I.ok.kind hk k j BK) hd;rcases hk with hk|hk;exact wpAny_Name (wpAny_loadName_cell I.ok.kind hk d a BK) hd;exact wpAny_Name (wpAny_loadName_free I.ok.kind hk d a BK b) hd
theorem Τ:PE X (.Constant (.int i) j pos)<|tC<|.int i:=λϊ ϊ ϊ H ϊ I h=>wpAny_Constant_int {.int i,H,I.tok _,{_,rfl},h}
theorem pe_bl:PE X (.Constant (.bool b) j pos)<|tC<|.bl b:=λϊ ϊ ϊ H ϊ I h=>Constant_bool {.bl b,H,I,rfl,h}
theorem Y9:PE X (.Constant .none j pos)<|tC .non:=λϊ ϊ ϊ H ϊ I h=>Constant_none {.non,H,I,rfl,h}
theorem Υ:PE X (.Constant (.str x) j pos)<|tC<|.str x:=λϊ ϊ ϊ H ϊ I h=>Calls.Constant_str {.str x,H,I.tok _,{_,rfl},h}
def Gl(X:Cx)(x:Str):Prop:=X.env.kindOf x=↑.globalImplicit
theorem J7{O:St}(I:Inv X pz O H s)(a:Gl X x)(b:X.mg x=↑u)(h:Q u s)
  (hd:(x == "__debug__")=false):wpAny (model X.prog X.w) X.A (eval (.Name x pos) X.env) Q E s:=
 Calls.Name_function_global I.ok.kind a (Calls.loadGlobal_global (by rw[I.ok.glob];exact I.mod.glob.keeps I.bk) b h) hd
def Gh{E}{O:St}{pos}(I:Inv X pz O H s)(c:Gl X x)(d:X.mg x=none)(f:bootBuiltins x=↑u)(h:Q u s)
  (e:x≠"__name__":=by decide) (hd:(x == "__debug__")=false:=by decide):wpAny (model X.prog X.w) X.A (eval (.Name x pos) X.env) Q E s:=by
 let(g,a,b):=I.mod.blt;exact Calls.Name_function_global I.ok.kind c (Calls.loadGlobal_builtin (by rw[I.ok.glob];exact I.mod.glob.keeps I.bk) d (by rw[I.ok.blt];exact a.keeps I.bk) ((b x e).trans f) h) hd
theorem Yb(a:Gl X x)(b:X.mg x=↑u)(r:Ac v u)(hd:(x == "__debug__")=false):PE X (.Name x pos)<|tC v:=
 λϊ ϊ ϊ H ϊ I h=>J7 I a b {(v),H,I,r,h} hd
theorem Φ{x:Str}{v:V}{u:Value}{pos:Pos}(a:Gl X x)(b:X.mg x=none)(d:bootBuiltins x=↑u)(r:Ac v u)(c:x≠"__name__")(hd:(x == ("__debug__":Str))=false):PE X (.Name x pos)<|tC v:=
 λϊ ϊ ϊ H ϊ I h=>Gh I a b d {(v),H,I,r,h} c hd
variable {a b:Expr}{ta tb:TE}{pos:Pos}
def tB(t:TE):TT:=λO H Q=>t O H λx a=>∃c,x=.bl c/\Q c a
def Χ(h:PE X e t)(c:∀whole,isTrue e X.env whole=(do let v <- whole;standAt e.pos;holding [v] (truthy v))):PT X e<|tB t:=by
 intro g s O H Q I f;refine isTrue_plain (A4 (h g s O H _ I f) λv k j=>?_)<|c _
 let(x,a,b,r1,i):=j;let(d,rfl,q):=i;cases r1;exact Ć {(a),b,q}
variable {tA tB':TT}{rest:kg}
def tAnd(t u:TT):TT:=λO H Q=>t O H λc a=>if c=true then u O a Q else Q false a
def tOr(t u:TT):TT:=λO H Q=>t O H λc a=>if c=true then Q true a else u O a Q
def XN(t:TT):TT:=λO H Q=>t O H λc a=>Q (!c) a
def Ψ(b:PT X a tA):PW X (.BoolOp .And [a] pos) tA:=by
 intro g d s O H Q I h;refine isTrue_and<|A4 (b d s O H Q I h) λc f e=>?_
 cases c with
 |true=>exact isTrue_and_nil e|false=>exact e
def Ω(b:PT X a tA):PW X (.BoolOp .Or [a] pos) tA:=by
 intro g d s O H Q I h;refine isTrue_or<|A4 (b d s O H Q I h) λc f e=>?_
 cases c with
 |false=>exact isTrue_or_nil e|true=>exact e
def zo6(i:PT X a tA)(j:PW X (.BoolOp .And (b::rest) pos) tB'):PW X (.BoolOp .And (a::b::rest) pos)<|tAnd tA tB':=by
 intro l f s O H Q I h;refine isTrue_and<|A4 (i f s O H _ I h) λc k m=>?_
 let(d,e,g):=m;cases c with
 |true=>exact j l f k O d Q e g|false=>exact{(d),e,g}
def pw_or(i:PT X a tA)(j:PW X (.BoolOp .Or (b::rest) pos) tB'):PW X (.BoolOp .Or (a::b::rest) pos)<|tOr tA tB':=by
 intro l f s O H Q I h;refine isTrue_or<|A4 (i f s O H _ I h) λc k m=>?_
 let(d,e,g):=m;cases c with
 |true=>exact{(d),e,g}|false=>exact j l f k O d Q e g
def zo8(d:PT X a tA):PT X (.UnaryOp .Not a pos)<|XN tA:=by
 intro e s O H Q I h;exact isTrue_not<|d e s O H (λc b=>Q (!c) b) I h
def tAndV(b d:TE):TE:=λO H Q=>b O H λx a=>∃c,x=.bl c/\if c=true then d O a Q else Q (.bl false) a
def tOrV(b d:TE):TE:=λO H Q=>b O H λx a=>∃c,x=.bl c/\if c=true then Q (.bl true) a else d O a Q
def XM(b:TE):TE:=λO H Q=>b O H λx a=>∃c,x=.bl c/\Q (.bl<|!c) a
theorem zoo(h:PE X a t):PE X (.BoolOp op [a] pos) t:=λc s O H Q I b=>BoolOp_one<|h c s O H Q I b
def zot(i:PE X a ta)(j:PE X (.BoolOp .And (b::rest) pos) tb):PE X (.BoolOp .And (a::b::rest) pos)<|tAndV ta tb:=by
 intro g s O H Q I h;refine BoolOp_and<|A4 (i g s O H _ I h) λv k l=>?_
 let(x,e,f,r1,d):=l;let(c,rfl,d):=d;cases r1;refine Ć ?_;cases c with
 |true=>exact j g k O e Q f d|false=>exact{.bl false,e,f,rfl,d}
def pe_or(i:PE X a ta)(j:PE X (.BoolOp .Or (b::rest) pos) tb):PE X (.BoolOp .Or (a::b::rest) pos)<|tOrV ta tb:=by
 intro g s O H Q I h;refine BoolOp_or<|A4 (i g s O H _ I h) λv k l=>?_
 let(x,e,f,r1,d):=l;let(c,rfl,d):=d;cases r1;refine Ć ?_;cases c with
 |false=>exact j g k O e Q f d|true=>exact{.bl true,e,f,rfl,d}
def zop(f:PE X a ta):PE X (.UnaryOp .Not a pos)<|XM ta:=by
 intro g s O H Q I h;refine UnaryOp_<|A4 (f g s O H _ I h) λv j i=>?_
 let(x,d,e,r1,b):=i;let(c,rfl,b):=b;cases r1;exact not_of<|Ć {.bl<|!c,d,e,rfl,b}
def tIf(t:TT)(b d:TE):TE:=λO H Q=>t O H λc a=>if c=true then b O a Q else d O a Q
def zhu(m:PT X c tA)(k:PE X a ta)(l:PE X b tb):PE X (.IfExp c a b pos)<|tIf tA ta tb:=by
 intro e s O H Q I h;refine wpAny_IfExp<|A4 (m e s O H _ I h) λd j n=>?_
 let(f,g,i):=n;cases d with
 |true=>exact k e j O f Q g i|false=>exact l e j O f Q g i
end
def Ab(K:q9)(H:Hp)(a:Addr)(xs:qA):Prop:=
 Rd H a (.lst xs) \/
  ∃(o:Obj) (b:Array Value) (n:Nat),K.lookup a=↑o/\o.cls=.type "list"/\o.dict=none/\o.data=.seq b n/\b.size<=sizeLine/\Ag xs b.toList
def CP(K:q9)(H:Hp)(a:Addr)(xs:qA):Prop:=
 Rd H a (.tup xs) \/
  ∃(o:Obj) (b:Array Value) (n:Nat),K.lookup a=↑o/\o.cls=.type "tuple"/\o.data=.seq b n/\b.size<=sizeLine/\Ag xs b.toList
def absV:Value->Option V
 |.none=>↑.non|.bool b=>↑(.bl b)|.int i ϊ=>↑(.int i)|.str x ϊ=>↑(.str x)|.bytes b ϊ=>↑(.byt b)|.float b ϊ=>↑(.flt b)|.ref a=>↑(.ref a)|.type n=>↑(.ty n)|ϊ=>none
def Ac.abs(r:Ac x u):absV u=↑x:=by
 cases x with
 |non=>cases r;rfl|bl ϊ=>cases r;rfl|int ϊ=>let(t,rfl):=r;rfl
 |str ϊ=>let(t,rfl):=r;rfl
 |byt ϊ=>let(t,rfl):=r;rfl
 |flt ϊ=>let(t,rfl):=r;rfl
 |ref ϊ=>cases r;rfl|ty ϊ=>cases r;rfl
def Ac.inj(r:Ac x u)(q:Ac y u):x=y:=Û<|r.abs.symm.trans q.abs
def Ag.inj:∀{xs ys} {us},Ag xs us->Ag ys us->xs=ys
 |_,_,_,.nil,.nil=>rfl|_,_,_,.cons r t,.cons a b=>by rw[r.inj a,Ag.inj t b]
section
variable {X:Cx}{pz:List<|Addr×Obj}{O:St}{H:Hp}{s:Shared}{a:Addr}{xs ys:qA}
theorem Ab.of{K:q9}(h:H a=↑(.lst xs)):Ab K H a xs:=.inl<|.inl h
theorem CP.of{K:q9}(h:H a=↑(.tup xs)):CP K H a xs:=.inl<|.inl h
def Inv.list(I:Inv X pz O H s)(h:Ab X.K H a xs):∃its ,Ag xs its/\PlainL s.heap a its.toArray/\xs.length<=sizeLine:=by
 rcases h with h|⟨o,its,n,hk,b,hd,c,d,r⟩;let(z,its,n,r,e):=h.ok I.hok;exact{its,r,{_,n,e,rfl,rfl,rfl},z};refine{its.toList,r,{o,n,I.kIn a o hk,b,hd,by lia},?_};have e:=r.length;grind
def Inv.tuple(I:Inv X pz O H s)(h:CP X.K H a xs):∃its ,Ag xs its/\IsTup s.heap a its.toArray/\xs.length<=sizeLine:=by
 rcases h with h|⟨o,its,n,hk,b,c,d,r⟩;let(z,its,r,p):=h.ok I.hok;grind;refine{its.toList,r,{o,I.kIn a o hk,b,n,by lia},?_};have e:=r.length;grind
def Inv.list_inj(I:Inv X pz O H s)(h:Ab X.K H a xs)(f:Ab X.K H a ys):xs=ys:=by
 let(c,r,(o,n,e,_,_,d),_):=I.list h;let(b,g,(l,k,j,_,_,i),_):=I.list f;have:c=b:=by grind
 subst this;exact r.inj g
def Inv.tuple_inj(I:Inv X pz O H s)(h:CP X.K H a xs)(f:CP X.K H a ys):xs=ys:=by
 let(c,r,(o,e,_,n,d),_):=I.tuple h;let(b,g,(l,j,_,k,i),_):=I.tuple f;have:c=b:=by grind
 subst this;exact r.inj g
variable {E:Value->Shared->Prop}
end
section
variable {X:Cx}{st:Stmt}{rest:kh}{t u:TS}{e:Expr}{te:TE}{pos:Pos}
def XS:TS:=λD O H=>D.nx O H
def XI(t u:TS):TS:=λD O H=>t { D with nx:=u D } O H
theorem zkp:B9 X [] XS:=λϊ ϊ O H ϊ I h=>ł {(O),H,I,h}
def zhp(e:PS X st t)(g:B9 X rest u):B9 X (st::rest)<|XI t u:=by
 intro a s O H D I h;refine wpAny_execs_cons<|A4 (e a s O H { D with nx:=u D } I h) λf i q=>?_
 cases f with
 |next=>let(d,b,c,q):=q;exact g a i d b D c q
 |ret v=>exact q|brk=>exact q|cont=>exact q
def zko(a:PS X st t):B9 X [st] t:=by
 intro b s O H D I h;refine wpAny_execs_cons<|A4 (a b s O H D I h) λf c q=>?_
 cases f with
 |next=>exact ł q|ret v=>exact q|brk=>exact q|cont=>exact q
def zn8:TS:=λD O H=>D.bk O H
def tCont:TS:=λD O H=>D.ct O H
theorem zks:PS X (.Pass pos) XS:=λϊ ϊ O H ϊ I h=>wpAny_Pass {(O),H,I,h}
theorem zhs:PS X (.Break pos) zn8:=λϊ ϊ O H ϊ I h=>wpAny_Break {(O),H,I,h}
theorem zd6:PS X (.Continue pos) tCont:=λϊ ϊ O H ϊ I h=>wpAny_Continue {(O),H,I,h}
def Inv.quiet{O:St}   (I:Inv X pz O H s):interactive X.env=false:=by simp[interactive,I.ok.kind]
def tDrop(b:TE):TS:=λD O H=>b O H λϊ a=>D.nx O a
def Mu(a:PE X e te)(b:swapsWith e none pos.line X.env=pure false):PS X (.Expr e pos)<|tDrop te:=by
 intro c s O H D I h;exact wpAny_Expr_any (A4 (a c s O H _ I h) λv d ⟨x,H1,I1,r1,q1⟩=>{(O),H1,I1,q1}) I.quiet b
def tRet(a:TE):TS:=λD O H=>a O H D.rt
def zoa(a:PE X e te):PS X (.Return ↑e pos)<|tRet te:=by
 intro b s O H D I h;exact wpAny_Return_some<|A4 (a b s O H _ I h) λv c ⟨x,H1,I1,r1,q1⟩=>{(x),O,H1,I1,r1,q1}
def tRetN:TS:=λD ϊ H=>D.rt .non H
theorem zkr:PS X (.Return none pos) tRetN:=λϊ ϊ O H ϊ I h=>wpAny_Return_none {.non,O,H,I,rfl,h}
def tIfS(c:TT)(t u:TS):TS:=λD O H=>c O H λb a=>if b=true then t D O a else u D O a
def ps_if(m:PT X c tc)(k:B9 X a t)(l:B9 X b u):PS X (.If c a b pos)<|tIfS tc t u:=by
 intro e s O H D I h;refine wpAny_If<|A4 (m e s O H _ I h) λd j n=>?_
 let(f,g,i):=n;cases d with
 |true=>exact k e j O f D g i|false=>exact l e j O f D g i
end
abbrev TG:=V->St->Hp->(St->Hp->Prop)->Prop
abbrev Jq:=qA->St->Hp->(St->Hp->Prop)->Prop
def PG(X:Cx)(a:Expr)(t:TG):Prop:=
 ∀(d:List<|Addr×Obj) (s:Shared) (O:St) (H:Hp) (v:V) (u:Value) (Q:St->Hp->Prop),Inv X d O H s->Ac v u->t v O H Q ->
  wpAny (model X.prog X.w) X.A (assign a X.env u) (λϊ e=>∃c b,Inv X d c b e/\Q c b) X.xe s
def EZ(X:Cx)(ts:kg)(t:Jq):Prop:=
 ∀(c:List<|Addr×Obj) (s:Shared) (O:St) (H:Hp) (e:qA) (d:kc) (Q:St->Hp->Prop),Inv X c O H s->Ag e d->t e O H Q ->
  wpAny (model X.prog X.w) X.A (assignInOrder ((assignEach ts X.env).map (·.2)) d) (λϊ f=>∃b a,Inv X c b a f/\Q b a) X.xe s
abbrev WK:=V->V->V->Hp->(Hp->Prop)->Prop
def WX(X:Cx)(t:WK):Prop:=
 ∀(d:List<|Addr×Obj) (s:Shared) (O:St) (H:Hp) (o i v:V) (c b u:Value) (Q:Hp->Prop),Inv X d O H s->Ac o c->Ac i b->Ac v u->t o i v H Q ->
  wpAny (model X.prog X.w) X.A (setItem c b u) (λϊ e=>∃a,Inv X d O a e/\Q a) X.xe s
abbrev O4:=V->V->Hp->VK->Prop
def lP(X:Cx)(b:Operator)(t:O4):Prop:=
 ∀(a:List<|Addr×Obj) (s:Shared) (O:St) (H:Hp) (x y:V) (v u:Value) (Q:VK),Inv X a O H s->Ac x v->Ac y u->t x y H Q ->
  wpAny (model X.prog X.w) X.A (inplaceOp b v u) (EP X a O Q) X.xe s
section
variable {X:Cx}{pos:Pos}
def Gr(i:Nat):TG:=λv O H Q=>Q (O.set i ↑v) H
def zky{i:Nat}{x:Str}(b:X.N.Nodup)(d:X.N[i]?=↑x)(e:GX X.env.scope x)(c:X.fn x=true\/X.env.scope.names.lookup x=↑.local):PG X (.Name x pos)<|Gr i:=by
 intro f s O H v u Q I r h;exact wpAny_assign_Name<|K2 I b d e r (λg a=>{_,H,a,h}) c
def gNil:Jq:=λa O H Q=>a=[]/\Q O H
def gCons(t:TG)(u:Jq):Jq:=λc O H Q=>∃v r,c=v::r/\t v O H λb a=>u r b a Q
def zkx:EZ X [] gNil:=by
 intro a s O H c b Q I r h;let(e,h):=h;exact assignInOrder_nil {(O),H,I,h}
def zht(g:PG X e t)(i:EZ X es u)
  (j:(assignEach (e::es) X.env).map (·.2)=assign e X.env::(assignEach es X.env).map (·.2)):EZ X (e::es)<|gCons t u:=by
 intro a s O H q o Q I r h;let(v,p,f,h):=h;subst f;cases r with
 |cons r l=>
  rw[j];refine ž<|A4 (g a s O H _ _ _ I r h) λϊ m n=>?_
  let(d,b,c,k):=n;exact i a m d b _ _ Q c l k
def Ub(K:q9)(n:Nat)(t:Jq):TG:=λv O H Q=>∃a xs,v=.ref a/\CP K H a xs/\xs.length=n/\t xs O H Q
def zok{k}(i:X.calm=true)(h:EZ X es t)
  (l:(assignEach es X.env).length=n) (c:(assignEach es X.env).findIdx? (·.1)=none):PG X (.Tuple es k pos)<|Ub X.K n t:=by
 intro x s O H v u Q I r d;let(a,xs,g,m,j,d):=d;subst g;cases r;let(w,y,p,A):=I.tuple m;refine assign_Tuple_tuple (I.ok.hd i) p (by simp[l,<- j,y.length]) c λz q=>?_
 have f :=I.kept (t':=s.toks) λb o e=>q b o (Ô<|É e) e;exact h x _ O H xs _ Q f (by lia) d
def gSub(d ti:TE)(t:WK):TG:=λv O H Q=>d O H λo a=>ti O a λi b=>t o i v b λc=>Q O c
def Mw(l:PE X o to)(k:PE X i ti)(m:WX X t)
  (B : ∀ v, assign (.Subscript o i pos) X.env v = (do
   let ov <- holding [v]<|eval o X.env;let iv <- holding [v,ov] (eval i X.env)
   standAt pos
   holding [v,ov,iv] (setItem ov iv v)
   release [v,ov,iv] []):=by rfl):PG X (.Subscript o i pos)<|gSub to ti t:=by
 intro b s O H v u Q I r h;refine Â<|ć<|A4 (l b s O H _ I h) λov z a=>?_
 let(x,c,f,r1,n):=a;refine Â<|ć<|A4 (k b z O c _ f n) λiv A a=>?_
 let(y,d,g,w,p):=a;refine Â<|Ń<|Â<|ć<|A4 (m b A O d x y v ov iv u _ g r1 w r p) λϊ C a=>?_
 let(e,j,q):=a;exact wpAny_release {(O),e,j,q}
def HE(b:TE)(g:TG):TS:=λD O H=>b O H λx a=>g x O a D.nx
def Kc{a e:Expr}{c:TE}{g:TG}(j:PE X e c)(k:PG X a g)(l:swapsWithSole [a] e pos.line X.env=pure false)(m:swappedStores [a] e X.env=pure none)
  (i:(assignEach [a] X.env).map (·.2)=[assign a X.env]):PS X (.Assign [a] e pos)<|HE c g:=by
 intro b s O H D I h;refine wpAny_Assign_stores (A4 (j b s O H _ I h) λv o p=>?_) l m;let(x,d,f,r1,n):=p;rw[i];exact A4 (k b o O d x v _ f r1 n) λϊ r q=>q
def Y3(d:X.N.Nodup)(j:X.N[i]?=↑x)(l:GX X.env.scope x)(f:PE X e te)(k:swapsWith e (↑(.Name x pos')) pos.line X.env=pure false)(g:X.fn x=true\/X.env.scope.names.lookup x=↑.local) :
  PS X (.Assign [.Name x pos'] e pos) (HE te<|Gr i):=by
 intro m s O H D I h;refine wpAny_Assign_Name (A4 (f m s O H _ I h) λv p o=>?_) k;let(y,a,b,r1,n):=o;exact K2 b d j l r1 (λq c=>{_,a,c,n}) g
def tPar(i j:Nat)(b:TA):TS:=λD O H=>b O H λc a=>∃v w,c=[v,w]/\D.nx ((O.set i ↑v).set j ↑w) a
def zob(L:X.calm=true)(u:X.N.Nodup)(M:X.N[i]?=↑x)(hj:X.N[j]?=↑y)(k:i≠j)
  (z:X.env.scope.names.lookup x=↑.local) (A:X.env.scope.names.lookup y=↑.local) (K:PA X [a,b] ta)
  (P:swappedStores [.Tuple [.Name x px,.Name y py] kt pt] (.Tuple [a,b] k2 pt2) X.env=pure (↑[x,y]))
  (N:swapsWithSole [.Tuple [.Name x px,.Name y py] kt pt] (.Tuple [a,b] k2 pt2) pos.line X.env=pure false) :
  PS X (.Assign [.Tuple [.Name x px,.Name y py] kt pt] (.Tuple [a,b] k2 pt2) pos) (tPar i j ta):=by
 intro B s O H D I h;rw[exec_Assign_arm];refine Â<|Ń ?_;rw[N];refine Â<|Ñ ?_;rw[if_neg<|by decide]
 refine Â<|Tuple_<|A4 (K _ B s O H _ I h) λT g U=>?_
 let(Z,r,C,r1,m):=U;let(v,w,J,m):=m;subst J
 let(d,f,rfl,S,n):∃d f,T=[d,f]/\Ac v d/\Ac w f:=by
  cases r1 with
  |cons p q=>
   cases q with
   |cons Q R=>cases R;exact{_,_,rfl,p,Q}
 refine ſ ?_ (by show 2<=sizeLine;decide);have E:Inv X B O r { g with heap:=g.heap.push { cls:=.type "tuple",data:=.seq [d,f].toArray } }:=C.kept λb o e=>Ø _ e;rw[P];refine Â<|Ñ ?_;show wpAny (model X.prog X.w) X.A (do rule "assign.swapped-stores";let c <- unpackItems (.ref g.heap.objs.size) 2 none;assignInOrder [λv=>bindName X.env y v,λv=>bindName X.env x v] c.reverse;pure Flow.next) _ _ _
 refine Â<|wpAny_rule<|Â<|unpackItems_tuple (items:=#[d,f]) (I.ok.hd L) (IsTup.new g.heap _) λV l=>?_
 have F:=E.kept (t':=g.toks) λb o e=>l b o (Ô<|É e) e;show wpAny _ _ (assignInOrder [λv=>bindName X.env y v,λv=>bindName X.env x v] [f,d] >>= λϊ=>pure Flow.next) _ _ _;refine Â<|ž<|wpAny_bindName<|K2 F u hj (.inl A) n (λW G=>?_)<|.inr A
 refine ž<|wpAny_bindName<|K2 G u M (.inl z) S (λY t=>assignInOrder_nil<|Ñ ?_)<|.inr z
 rw[List.set_comm _ _<|Í k]at t;exact{_,r,t,m}
def tAug(i:Nat)(c:TE)(ti:O4):TS:=λD O H=>∃x,O[i]?=↑↑x/\c O H λy a=>ti x y a λz b=>D.nx (O.set i ↑z) b
def zoe{i:Nat}{x:Str}{e:Expr}{q:TE}{j:Operator}{ti:O4}{b:Pos}(G:X.N.Nodup)(p:X.N[i]?=↑x)(g:GX X.env.scope x)(K:PE X e q)(Q:lP X j ti)(L:X.fn x=true\/X.env.scope.names.lookup x=↑.local:=by first|exact .inl rfl|exact .inr rfl|assumption) :
  PS X (.AugAssign (.Name x b) j e pos) (tAug i q ti):=by
 intro n s O H D I h;let(v,F,h):=h;let(m,P,M):=I.loc;have vis:EI X.env.scope x:=by rcases g with k|k;exact .inl k;exact .inr<|.inl k
 let(u,r,l):=M i x v p F vis;refine wpAny_AugAssign_Name ?_
 have go:wpAny (model X.prog X.w) X.A (eval e X.env) (λw d=>wpAny (model X.prog X.w) X.A (inplaceOp j u w) (λr f=>wpAny (model X.prog X.w) X.A (storeName X.env x r) (λϊ=>SP X n D .next) X.xe f) X.xe d) X.xe s:=by
  refine A4 (K n s O H _ I h) λw U o=>?_;let(y,t,B,r1,R):=o;refine A4 (Q n U O t v y u w _ B r r1 R) λz V o=>?_;let(Y,A,C,T,S):=o;exact K2 C G p g T (λW E=>{_,A,E,S}) L
 rcases l with ⟨hk,N⟩|⟨hk,c,J,a⟩;exact wpAny_loadName_local I.ok.kind hk P N go;rcases hk with hk|hk;exact wpAny_loadName_cell I.ok.kind hk J a go;rcases g with k|k;have:X.env.scope.names.lookup x=↑.free:=hk;rw[k]at this;cases this;have:X.env.scope.names.lookup x=↑.free:=hk;rw[k]at this;cases this
def ipI(f:Int->Int->Int):O4:=λx y H Q=>∃i j,x=.int i/\y=.int j/\Q (.int<|f i j) H
def zq7:lP X .Add<|ipI λi j=>i+j:=by
 intro d s O H x y v u Q I r1 c h;let(i,j,a,b,q):=h;subst a;subst b;let(t,rfl):=r1;let(e,rfl):=c;exact iadd_int {.int _,H,I.tok _,{_,rfl},q}
def zn1(c:TT)(g:TS):TS:=λD O H=>∃W:Nat->St->Hp->Prop,(∃m,W m O H)/\∀m O H,W m O H ->
 c O H λb d=>if b=true then ∃N:St->Hp->Prop,(∀e a,N e a->∃f,f<m/\W f e a)/\g { D with nx:=N,ct:=N,bk:=D.nx } O d else D.nx O d
def zhq(q:PassesOwn (model X.prog X.w) X.A X.env X.xe)(x:PT X c tc)(w:B9 X body tb):PS X (.While c body [] pos)<|zn1 tc tb:=by
 intro i s O H D I h;let(W,(y,E),a):=h;refine wpAny_While<|codeAny_whileLoop (λn A=>∃p k,Inv X i p k A/\W n p k) ?_ y {(O),H,I,E}
 rintro n B ⟨d,l,t,F⟩;refine Ģ q<|A4 (x i B d l _ t<|a n d l F) λb C G=>?_
 let(m,o,e):=G;cases b with
 |true=>
  let(N,J,e):=e;rw[if_pos rfl];refine Ģ q<|A4 (w i C d m _ o e) λf K g=>?_
  cases f with
  |next=>
   let(j,r,u,z):=g;grind
  |cont=>
   let(j,r,u,z):=g;grind
  |brk=>exact g|ret v=>exact g
 |false=>rw[if_neg ö];exact ł {(d),m,o,e}
end
structure It where
 go:Nat->Hp->Prop
 yld:Nat->Hp->V->Hp->Prop
 stop:Nat->Hp->Prop
def DE(X:Cx)(a:List<|Addr×Obj)(H:Hp)(b:Addr):Prop:=
 H b=none/\b≠X.env.locals/\b∉X.fs/\(b∈X.ex\/X.s₀.heap.objs.size<=b)/\(∀x c,X.env.cells.lookup x=↑c->c≠b)/\∀p∈X.pn++a,p.1≠b
def Inv.fpOk{X:Cx}{O:St}{b:Addr}(I:Inv X pz O H s)(a:s.heap.objs.size<=b)(d:H' b=none):DE X pz H' b:=by
 refine{d,Nat.ne_of_gt<|Ü I.lt a,I.nofs a,.inr<|Ú I.sz a,λx c e z=>?_,λp f z=>?_};let(v,q):=I.cell x c e;exact absurd (Ü q.lt<|by grind)<|ã _
 exact absurd (Ü (É (I.pin p f).1)<|by grind)<|ã _
structure Turn(P:Program)(w:World)(K:q9)(tg:Expr)(Γ:It)(fp:List Addr)(it:Addr)(tn:Nat->Heap->Prop):Prop where
 mem:it∈fp
 obj:∀i h,tn i h->∀b∈fp,∃o,h.get? b=↑o/\∀v,o.data≠.cell v
 keep:∀i h h',tn i h->(∀b∈fp,∀o,h.get? b=↑o->h'.get? b=↑o)->tn i h'
 item:∀(X:Cx),X.prog=P->X.w=w->X.K=K->X.calm=true->∀(i:Nat) (pz:List<|Addr×Obj) (s:Shared) (O:St) (H:Hp) (E:Value->Shared->Prop),Inv X pz O H s->(∀b∈fp,DE X pz H b)->tn i s.heap->Γ.go i H ->
  wpAny (model P w) X.A (pyNext<|.ref it) (λr s1=>∃u,r=↑u /\
   wpAny (model P w) X.A (letOwnedTupleGo tg (.ref it) u) (λϊ s2=>∃x H',Inv X pz O H' s2/\Ac x u/\Γ.yld i H x H'/\tn (i+1) s2.heap/\∀b∈fp,H' b=none) E s1) E s
 done:∀(X:Cx),X.prog=P->X.w=w->X.K=K->X.calm=true->∀(i:Nat) (pz:List<|Addr×Obj) (s:Shared) (O:St) (H:Hp) (E:Value->Shared->Prop),Inv X pz O H s->(∀b∈fp,DE X pz H b)->tn i s.heap->Γ.stop i H ->
  wpAny (model P w) X.A (pyNext<|.ref it) (λr s1=>r=none/\Inv X pz O H s1) E s
 self:∀(A:Around) (i:Nat) (s:Shared) (Q:Value->Shared->Prop) (E:Value->Shared->Prop),tn i s.heap->Q (.ref it) s->wpAny (model P w) A (pyIter<|.ref it) Q E s
abbrev TI:=St->Hp->(It->Hp->Prop)->Prop
def lQ(X:Cx)(e:List<|Addr×Obj)(O:St)(g:Expr)(R:It->Hp->Prop)(c:Value)(f:Shared):Prop:=
 ∃(it:Addr) (d:List Addr) (tn:Nat->Heap->Prop) (Γ:It) (a:Hp),c=.ref it/\Inv X e O a f/\Turn X.prog X.w X.K g Γ d it tn/\tn 0 f.heap/\(∀b∈d,DE X e a b)/\R Γ a
def PI(X:Cx)(d a:Expr)(e:TI):Prop:=
 ∀(b:List<|Addr×Obj) (s:Shared) (O:St) (H:Hp) (R:It->Hp->Prop),Inv X b O H s->e O H R ->
  wpAny (model X.prog X.w) X.A (eval a X.env) (λv c=>wpAny (model X.prog X.w) X.A (pyIter v) (lQ X b O d R) X.xe c) X.xe s
def LI(d:s.heap.get? it=↑o)(b:o.cls=.type n)(hd:o.data=.fields vs)
    (c:["enumerate","zip","dict_itemiterator","dict_reverseitemiterator","odict_iterator","itertools.zip_longest","itertools.pairwise"].contains n=false) (a:Q () s):wpAny M A (letOwnedTupleGo tg (.ref it) u) Q E s:=by
  unfold letOwnedTupleGo
  cases tg<;>first
    |exact Ñ a
    |(cases u<;>first
        |exact Ñ a
        | (refine Â<|wpAny_load d ?_
           rw[b,hd];show wpAny M A (if (["enumerate","zip","dict_itemiterator","dict_reverseitemiterator","odict_iterator","itertools.zip_longest","itertools.pairwise"].contains n && vs[0]? == ↑(rawInt _))=true then _ else _) Q E s
           rw[if_neg (by intro h;rw[c,Ĭ]at h;cases h)]
           exact Ñ a))
def W4(K:q9)(a:Addr):It:=
 {λi H=>∃xs x,Ab K H a xs/\xs[i]?=↑x,λi H x b=>b=H/\∀xs,Ab K H a xs->xs[i]?=↑x,λi H=>∃xs,Ab K H a xs/\xs.length<=i}
def W3(K:q9)(a:Addr):It:=
 {λi H=>∃xs x,CP K H a xs/\xs[i]?=↑x,λi H x b=>b=H/\∀xs,CP K H a xs->xs[i]?=↑x,λi H=>∃xs,CP K H a xs/\xs.length<=i}
def Lx(b:Int)(n:Nat):It:={λi ϊ=>i<n,λi H x a=>a=H/\x=.int (b+i),λi ϊ=>n<=i}
def zf4{K}(a it):Turn P w K tg (W4 K a) [it] it (λi h=>h.IsListIter it a i) where
 mem:=by simp
 obj:=λi h st b f=>by
  have e :=by simpa using f
  subst e;let(o,e,c,d):=st;exact{o,e,λv z=>by rw[d]at z;cases z}
 keep:=λi h B st k=>st.at λo e=>k it (by simp) o e
 item:=by
  intro X n r m C i L s O H E I j st q;subst n r m;let(xs,x,l,t):=q;let(y,A,p,J):=I.list l;let(u,F,M):=A.get t;let(f0,f1,f2,f3,f4,f5):=j it<|by simp
  refine wpAny_pyNext_list_item st p.isList (by simpa using F) λB g sb=>?_;have D :=I.turned (t':=s.toks) (λb o f e=>(sb.2 b f).trans e) f0 f1 f3 f4 f5;let(o,e,c,d):=id g;exact{u,rfl,LI e c d (by decide) {x,H,D,M,{rfl,λQ G=>by rw[I.list_inj G l];exact t},g,λb f=>(j b f).1}}
 done:=by
  intro X n r m C i L s O H E I j st q;subst n r m;let(xs,l,t):=q;let(y,A,p,J):=I.list l;let(f0,f1,f2,f3,f4,f5):=j it<|by simp
  have N:=A.length;exact wpAny_pyNext_list_end (I.ok.hd C) st p.isList (by simp;lia) λB eb=>{rfl,I.turned (λb o f e=>eb b o f e) f0 f1 f3 f4 f5}
 self:=λϊ ϊ ϊ ϊ ϊ st h=>wpAny_pyIter_listiter st h
def ze7{K}(a it):Turn P w K tg (W3 K a) [it] it (λi h=>h.IsTupleIter it a i) where
 mem:=by simp
 obj:=λi h st b f=>by
  have e :=by simpa using f
  subst e;let(o,e,c,d):=st;exact{o,e,λv z=>by rw[d]at z;cases z}
 keep:=λi h B st k=>st.at λo e=>k it (by simp) o e
 item:=by
  intro X n r m C i L s O H E I j st q;subst n r m;let(xs,x,l,t):=q;let(y,A,p,J):=I.tuple l;let(u,F,M):=A.get t;let(f0,f1,f2,f3,f4,f5):=j it<|by simp
  refine wpAny_pyNext_tuple_item st (p) (by simpa using F) λB g sb=>?_;have D :=I.turned (t':=s.toks) (λb o f e=>(sb.2 b f).trans e) f0 f1 f3 f4 f5;let(o,e,c,d):=id g;exact{u,rfl,LI e c d (by decide) {x,H,D,M,{rfl,λQ G=>by rw[I.tuple_inj G l];exact t},g,λb f=>(j b f).1}}
 done:=by
  intro X n r m C i L s O H E I j st q;subst n r m;let(xs,l,t):=q;let(y,A,p,J):=I.tuple l;let(f0,f1,f2,f3,f4,f5):=j it<|by simp
  have N:=A.length;exact wpAny_pyNext_tuple_end (I.ok.hd C) st (p) (by simp;lia) λB eb=>{rfl,I.turned (λb o f e=>eb b o f e) f0 f1 f3 f4 f5}
 self:=λϊ ϊ ϊ ϊ ϊ st h=>wpAny_pyIter_tupleiter st h
def ze8{K}(it)(lo)(n):Turn P w K tg (Lx lo n) [it] it (λi h=>IsRangeIter h it (lo+i * 1) (n - i) 1) where
 mem:=by simp
 obj:=λi h st b a=>by
  have e :=by simpa using a
  subst e
  exact{_,st,λv z=>by
   have y :=z;cases y}
 keep:=λi h f st k=>k it (by simp) _ st
 item:=by
  intro X j p g l i q s O H E I d st m;subst j p g;let(f0,f1,f2,f3,f4,f5):=d it<|by simp
  have W:=Walks.range (prog:=X.prog) (w:=X.w) (I.ok.hd l) it lo 1 n;refine W.item i s _ _ m st λv f tk u c x=>?_;let(t,rfl):=u;have r:Inv X q O H { s with heap:=f,toks:=tk }:=I.turned (λb o a e=>x b o (by simpa using a) e) f0 f1 f3 f4 f5
  refine{_,rfl,LI c rfl rfl (by decide) {.int<|lo+i,H,r,{t,?_},{(rfl),rfl},c,λb a=>(d b a).1}};rw[Int.mul_one]
 done:=by
  intro X j p g l i q s O H E I d st m;subst j p g;let(f0,f1,f2,f3,f4,f5):=d it<|by simp
  exact wpAny_pyNext_range_end (I.ok.hd l) st (by have:n<=i:=m;lia) λf eb=>{rfl,I.turned (λb o a e=>eb b o a e) f0 f1 f3 f4 f5}
 self:=λϊ ϊ ϊ ϊ ϊ st h=>wpAny_pyIter_rangeiter st h
section
variable {X:Cx}{tg:Expr}
def iList(K:q9)(c:TE):TI:=λO H R=>c O H λx b=>∃a,x=.ref a/\(∃xs,Ab K b a xs)/\R (W4 K a) b
def iTup(K:q9)(c:TE):TI:=λO H R=>c O H λx b=>∃a,x=.ref a/\(∃xs,CP K b a xs)/\R (W3 K a) b
def zkv(g:PE X l tl):PI X tg l<|iList X.K tl:=by
 intro k s O H R I h;refine A4 (g k s O H _ I h) λv d n=>?_;let(x,f,c,r1,m):=n;let(a,e,(xs,i),q):=m;subst e;cases r1;let(j,u,p,t):=c.list i;refine Α p.isList ?_;refine{d.heap.objs.size,[d.heap.objs.size],_,_,f,rfl,c.kept λb o e=>Ø _ e,zf4 a _,{_,æ _ rfl,rfl,rfl},λb r=>?_,q}
 have e:b=d.heap.objs.size:=by grind
 subst e;exact c.fpOk (Æ _)<|c.hok.fresh<|Æ _
def zoh(g:PE X l tl):PI X tg l<|iTup X.K tl:=by
 intro k s O H R I h;refine A4 (g k s O H _ I h) λv d n=>?_;let(x,f,c,r1,m):=n;let(a,e,(xs,i),q):=m;subst e;cases r1;let(j,u,p,t):=c.tuple i;refine wpAny_pyIter_tuple (p) ?_;refine{d.heap.objs.size,[d.heap.objs.size],_,_,f,rfl,c.kept λb o e=>Ø _ e,ze7 a _,{_,æ _ rfl,rfl,rfl},λb r=>?_,q}
 have e:b=d.heap.objs.size:=by grind
 subst e;exact c.fpOk (Æ _)<|c.hok.fresh<|Æ _
def YJ{O:St}{H:Hp}    {a c:Int}   (I:Inv X pz O H s)(h:-(2 ^ 62)<=a)(i:a<2 ^ 62)(j:-(2 ^ 62)<=c)(k:c<2 ^ 62)
  (q:R (Lx a (c - a).toNat) H):wpAny (model X.prog X.w) X.A (pyIter<|.ref s.heap.objs.size) (lQ X pz O tg R) E { s with heap:=s.heap.push { cls:=.type "range",data:=.fields #[.int a t,.int c u,.int 1 v] },toks:=tk }:=by
 refine wpAny_pyIter_range (IsRange.new ..) (small_one h i j k) ?_;have d:Inv X pz O H { s with heap:=s.heap.push { cls:=.type "range",data:=.fields #[.int a t,.int c u,.int 1 v] },toks:=tk }:=I.kept λb o e=>Ø _ e
 refine{(s.heap.push { cls:=.type "range",data:=.fields #[.int a t,.int c u,.int 1 v] }).objs.size,[(s.heap.push { cls:=.type "range",data:=.fields #[.int a t,.int c u,.int 1 v] }).objs.size],_,_,H,rfl,
  d.kept λb o e=>Ø _ e,ze8 _ a (c - a).toNat,?_,λb l=>?_,q}
 have f:a+(0:Nat) * 1=a:=by simp
 have g:(c - a).toNat - (0:Nat)=Builtin.Range.rangeSize a c 1:=by rw[rangeSize_one];grind
 rw[f,g];exact æ _ rfl;have e:b=(s.heap.push { cls:=.type "range",data:=.fields #[.int a t,.int c u,.int 1 v] }).objs.size:=by grind
 subst e;exact d.fpOk (Æ _)<|d.hok.fresh<|Æ _
def iRng1(b:TA):TI:=λO H R=>b O H λc a=>∃j:Int,c=[.int j]/\-(2 ^ 62)<=j/\j<2 ^ 62/\R (Lx 0 j.toNat) a
def iRng2(b:TA):TI:=λO H R=>b O H λc a=>∃i j:Int,c=[.int i,.int j]/\(-(2 ^ 62)<=i/\i<2 ^ 62/\-(2 ^ 62)<=j/\j<2 ^ 62)/\R (Lx i (j - i).toNat) a
def zfd(f:Gl X "range")(g:X.mg "range"=none)(d:PA X [a] ta)(i:starEach [a] X.env=[(false,eval a X.env)]):PI X tg (.Call (.Name "range" p) [a] [] pos)<|iRng1 ta:=by
 intro k s O H R I h;refine Call_<|Gh I f g boot_range<|Ę (A4 (d pos k s O H _ I h) λv u n=>?_) i rfl
 let(w,o,c,r1,b):=n;let(j,e,b,l,q):=b;subst e;cases r1 with
 |cons r m=>cases m;let(t,rfl):=r;exact call_range_1<|YJ c (by lia) (by lia) b l<|by simpa using q
def zfc{p pos}(l:Gl X "range")(m:X.mg "range"=none)(k:PA X [a,b] ta)(n:starEach [a,b] X.env=[(false,eval a X.env),(false,eval b X.env)])(c:starEach [b] X.env=[(false,eval b X.env)]) :
  PI X tg (.Call (.Name "range" p) [a,b] [] pos) (iRng2 ta):=by
 intro o s O H R I h;refine Call_<|Gh I l m boot_range<|Ę (A4 (k pos o s O H _ I h) λC A y=>?_) (by rw[n,c]) (by rw[c];rfl)
 let(D,z,g,r1,d):=y;let(i,j,e,(d,u,v,w),q):=d;subst e;cases r1 with
 |cons r f=>
  cases f with
  |cons x f=>cases f;let(t,rfl):=r;let(B,rfl):=x;exact call_range_2<|YJ g d u v w q
def tFor(j:TI)(g:TG)(h:TS):TS:=λD O H=>j O H λΓ d=>∃W:Nat->Nat->St->Hp->Prop,(∃m,W 0 m O d)/\∀i m O H,W i m O H ->
 (Γ.stop i H/\D.nx O H)\/(Γ.go i H/\∃N:St->Hp->Prop,(∀b a,N b a->∃c,c<m/\W (i+1) c b a)/\∀x a,Γ.yld i H x a->g x O a λf e=>h { D with nx:=N,ct:=N,bk:=D.nx } f e)
def IL(fp:List Addr)(h:Heap):List<|Addr×Obj:=fp.filterMap λb=>(h.get? b).map λo=>(b,o)
def IQ(a:b∈fp)(e:h.get? b=↑o):(b,o)∈IL fp h:=ĸ.mpr {b,a,by rw[e];rfl}
def Ys(a:p∈IL fp h):p.1∈fp/\h.get? p.1=↑p.2:=by
 let(b,c,e):=ĸ.mp a;cases q:h.get? b with
 |none=>grind|some o=>grind
theorem Inv.pinned{O:St}(I:Inv X pz O H s)(c:∀b∈fp,DE X pz H b)(f:∀b∈fp,∃o,s.heap.get? b=↑o/\∀v,o.data≠.cell v):Inv X (pz++IL fp s.heap) O H s:=
 I.pins_of λp d=>(ß.mp d).elim (λz=>I.pin p<|à _ z) λz=>by
  let(a,e):=Ys z;let(f0,f1,f2,_):=c p.1 a
  grind
theorem Inv.unpinned{O:St}(I:Inv X (pz++pl) O H s):Inv X pz O H s:=I.pins_of λp a=>I.pin p<|à _<|ħ _ a
def zoc(F:PassesOwn (model X.prog X.w) X.A X.env X.xe)(Z:X.calm=true)(hi:PI X tg iter wi)(hg:PG X tg g)(l:B9 X body tb)
  (hs:∀x,foldedSetIterable iter X.env x=pure x:=by intro _;rfl):PS X (.For tg iter body [] pos)<|tFor wi g tb:=by
 intro y s O H D I h;refine wpAny_For (A4 (hi y s O H _ I h) λv s1 h1=>A4 h1 λitv s2 h2=>?_) hs;let(it,C,tn,Γ,H2,e,I2,T,S,f2,W,(m0,w0),K):=h2;subst e;have p:∀{t },(∀b∈C,t b=none)->∀b∈C,DE X y t b:=λhn b l=>{hn b l,(f2 b l).2}
 refine codeAny_forLoop_any (λn s'=>∃i B t,Inv X y B t s'/\tn i s'.heap/\(∀b∈C,t b=none)/\W i n B t) ?_ m0 {0,O,H2,I2,S,λb l=>(f2 b l).1,w0};rintro n s3 ⟨i,q,L,Y,J,E,w3⟩;rcases K i n q L w3 with ⟨stop,qn⟩|⟨go,N,hN,step⟩
 .refine Ģ F<|A4 (T.done X rfl rfl rfl Z i y s3 q L X.xe Y (p E) J stop) λr s4 A=>?_
  let(Q,I4):=A;subst Q;exact ł {(q),L,I4,qn}
 .refine Ģ F<|A4 (T.item X rfl rfl rfl Z i y s3 q L X.xe Y (p E) J go) λr s4 A=>?_
  let(u,Q,h4):=A;subst Q;refine Ģ F<|A4 h4 λϊ s5 A=>?_
  let(x,V,I5,r5,y5,z,P):=A;have M:=I5.pinned (p P)<|T.obj _ _ z;refine Ģ F<|A4 (hg _ s5 q V x u _ M r5<|step x V y5) λϊ s6 A=>?_
  let(U,H6,I6,q6):=A;refine Ģ F<|A4 (l _ s6 U H6 _ I6 q6) λf R w=>?_
  have k:∀{a } {c },Inv X (y++IL C s5.heap) a c R->N a c->∃m,m<n/\∃i B t,Inv X y B t R/\tn i R.heap/\(∀b∈C,t b=none)/\W i m B t:=λ{a c} j G=>by
   let(m',hm,w7):=hN a c G;refine{m',hm,i+1,a,c,j.unpinned,T.keep _ _ _ z λb l o e=>(j.pin (b,o)<|à _<|à _<|IQ l e).1,λb l=>?_,w7};let(o,e,d):=T.obj _ _ z b l;exact(j.pin (b,o)<|à _<|à _<|IQ l e).2.1
  cases f with
  |next=>let(a,c,j,G):=w;exact k j G
  |cont=>let(a,c,j,G):=w;exact k j G
  |brk=>let(a,c,j,w):=w;exact{(a),c,j.unpinned,w}
  |ret v=>let(x7,a,c,j,r7,w):=w;exact{(x7),a,c,j.unpinned,r7,w}
end
abbrev R2:=V->V->Hp->VK->Prop
def Aj(X:Cx)(f:Value->Value->Sem Value)(r:R2):Prop:=
 ∀(a:List<|Addr×Obj) (s:Shared) (O:St) (H:Hp) (x y:V) (v u:Value) (Q:VK),Inv X a O H s->Ac x v->Ac y u->r x y H Q ->
  wpAny (model X.prog X.w) X.A (f v u) (EP X a O Q) X.xe s
def L7(X:Cx)(f:Value->Sem Value)(r:V->Hp->VK->Prop):Prop:=
 ∀(a:List<|Addr×Obj) (s:Shared) (O:St) (H:Hp) (x:V) (v:Value) (Q:VK),Inv X a O H s->Ac x v->r x H Q ->
  wpAny (model X.prog X.w) X.A (f v) (EP X a O Q) X.xe s
def C4(X:Cx)(f:Value)(r:qA->Hp->VK->Prop):Prop:=
 ∀(a:List<|Addr×Obj) (s:Shared) (O:St) (H:Hp) (xs:qA) (b:kc) (Q:VK),Inv X a O H s->Ag xs b->r xs H Q ->
  wpAny (model X.prog X.w) X.A (call f b) (EP X a O Q) X.xe s
def JF(r:R2)(c d:TE):TE:=λO H Q=>c O H λx a=>d O a λy b=>r x y b Q
def XG(r:V->Hp->VK->Prop)(b:TE):TE:=λO H Q=>b O H λx a=>r x a Q
def rI(C:Int->Int->Prop)(g:Int->Int->V):R2:=λx y H Q=>∃i j,x=.int i/\y=.int j/\C i j/\Q (g i j) H
def FI(g:Int->Int->V):R2:=λx y H Q=>∃i j,x=.int i/\y=.int j/\Q (g i j) H
def rU(g:Int->V):V->Hp->VK->Prop:=λx H Q=>∃i,x=.int i/\Q (g i) H
section
variable {X:Cx}{a b c:Expr}{ta tb tc:TE}{pos:Pos}
def WB(e:PE X a ta)(g:PE X b tb){O:St}{R:V->V->Hp->Prop}(I:Inv X pz O H s)
  (h:ta O H λx H1=>tb O H1 λy H2=>R x y H2)  {f:Value->Value->Sem Value}
  (l:∀v u s2 x y H2,Inv X pz O H2 s2->Ac x v->Ac y u->R x y H2->wpAny (model X.prog X.w) X.A (f v u) Q X.xe s2) :
  wpAny (model X.prog X.w) X.A (eval a X.env) (λv s₁=>wpAny (model X.prog X.w) X.A (eval b X.env) (λu s₂=>wpAny (model X.prog X.w) X.A (f v u) Q X.xe s₂) X.xe s₁) X.xe s:=by
 refine A4 (e pz s O H _ I h) λv j c=>?_;let(x,H1,d,r1,i):=c;refine A4 (g pz j O H1 _ d i) λu s2 c=>?_;let(y,H2,k,n,m):=c;grind
def pe_op(g:Aj X (binaryOp op) r)(e:PE X a ta)(f:PE X b tb):PE X (.BinOp a op b pos)<|JF r ta tb:=by
 intro i s O H Q I h;exact wpAny_BinOp<|WB e f I h λv u l x y c d j k q=>g i l O c x y v u Q d j k q
def pe_un(d:L7 X (unaryOp op) r)(c:PE X a ta):PE X (.UnaryOp op a pos)<|XG r ta:=by
 intro b s O H Q I h;exact UnaryOp_<|A4 (c b s O H _ I h) λv e ⟨x,H1,I1,r1,q1⟩=>d b e O H1 x v Q I1 r1 q1
def JT{g:Int->Int->Int}
  (a:∀(i j ) (t u ) (s ) (Q ) (E ),C i j->Q (.int (g i j) s.toks) { s with toks:=s.toks+1 }->wpAny (model X.prog X.w) X.A (f (.int i t)<|.int j u) Q E s) :
  Aj X f (rI C λi j=>.int<|g i j):=by
 intro k s O H x y v u Q I c d h;let(i,j,rfl,rfl,b,q):=h;let(t,rfl):=c;let(e,rfl):=d;exact a i j t e s _ _ b {.int<|g i j,H,I.tok _,{_,rfl},q}
def NF{g:Int->Int->Int}
  (a:∀(i j ) (t u ) (s ) (Q ) (E ),Q (.int (g i j) s.toks) { s with toks:=s.toks+1 }->wpAny (model X.prog X.w) X.A (f (.int i t)<|.int j u) Q E s) :
  Aj X f (FI λi j=>.int<|g i j):=by
 intro e s O H x y v u Q I b c h;let(i,j,rfl,rfl,q):=h;let(t,rfl):=b;let(d,rfl):=c;exact a i j t d s _ _ {.int<|g i j,H,I.tok _,{_,rfl},q}
def NG{g:Int->Int->Bool}
  (a:∀(i j ) (t u ) (s ) (Q ) (E ),Q (.bool<|g i j) s->wpAny (model X.prog X.w) X.A (f (.int i t)<|.int j u) Q E s) :
  Aj X f (FI λi j=>.bl<|g i j):=by
 intro e s O H x y v u Q I b c h;let(i,j,rfl,rfl,q):=h;let(t,rfl):=b;let(d,rfl):=c;exact a i j t d s _ _ {.bl<|g i j,H,I,rfl,q}
def CPow(i j:Int):Prop:=0<=j/\j<=1000000/\i.natAbs<2 ^ 64
def Wg(i j:Int):Prop:=(-(2 ^ 64)<i/\i<2 ^ 64)\/(-(2 ^ 64)<j/\j<2 ^ 64)
def Wg.ok(h:Wg i j):IntMulOk i j:=by
 rcases h with ⟨a,b⟩|⟨a,b⟩;exact .of_left<|intBits_le_64 a b
 exact .of_right<|intBits_le_64 a b
theorem zp2:Aj X (binaryOp .Add)<|FI λi j=>.int<|i+j:=NF λϊ ϊ ϊ ϊ ϊ ϊ ϊ q=>add_int q
theorem zou:Aj X (binaryOp .Sub)<|FI λi j=>.int<|i - j:=NF λϊ ϊ ϊ ϊ ϊ ϊ ϊ q=>sub_int q
theorem Yl:Aj X (binaryOp .Mult)<|rI Wg λi j=>.int<|i * j:=JT λϊ ϊ ϊ ϊ ϊ ϊ ϊ a q=>mul_int q a.ok
theorem zl6:Aj X (binaryOp .Mod)<|rI (λϊ j=>j≠0) λi j=>.int<|i.fmod j:=JT λϊ ϊ ϊ ϊ ϊ ϊ ϊ a q=>mod_int' a q
theorem zox:Aj X (binaryOp .Pow)<|rI CPow λi j=>.int<|i ^ j.toNat:=JT λϊ ϊ ϊ ϊ ϊ ϊ ϊ a q=>pow_int_small a.1 a.2.1 a.2.2 q
theorem zov:Aj X (binaryOp .RShift)<|rI (λϊ j=>0<=j) λi j=>.int<|i / 2 ^ j.toNat:=JT λi j ϊ ϊ ϊ ϊ ϊ a q=>
 rshift_int a (by grind)
theorem zp1:Aj X (binaryOp .BitAnd)<|FI λi j=>.int<|Builtin.bitAnd i j:=NF λϊ ϊ ϊ ϊ ϊ ϊ ϊ q=>and_int q
theorem op_or:Aj X (binaryOp .BitOr)<|FI λi j=>.int<|Builtin.bitOr i j:=NF λϊ ϊ ϊ ϊ ϊ ϊ ϊ q=>or_int q
def unI{g:Int->Int}
  (a:∀(i ) (t ) (s ) (Q ) (E ),Q (.int (g i) s.toks) { s with toks:=s.toks+1 }->wpAny (model X.prog X.w) X.A (f<|.int i t) Q E s) :
  L7 X f (rU λi=>.int<|g i):=by
 intro c s O H x v Q I b h;let(i,rfl,q):=h;let(t,rfl):=b;exact a i t s _ _ {.int<|g i,H,I.tok _,{_,rfl},q}
theorem zmz:L7 X (unaryOp .USub)<|rU λi=>.int<|-i:=unI λϊ ϊ ϊ ϊ ϊ q=>neg_int q
def LP{O:St}(I:Inv X pz O H s)(q:Q (.bl k) H)(e:k=k'):EP X pz O Q (.bool k') s:=by
 subst e;exact{.bl k,H,I,rfl,q}
theorem op_lt:Aj X (compareOp .Lt)<|FI λi j=>.bl<|decide (i<j):=NG λϊ ϊ ϊ ϊ ϊ ϊ ϊ q=>lt_int q
theorem Ym:Aj X (compareOp .LtE)<|FI λi j=>.bl<|decide (i<=j):=NG λϊ ϊ ϊ ϊ ϊ ϊ ϊ q=>le_int q
theorem op_gt:Aj X (compareOp .Gt)<|FI λi j=>.bl<|decide (j<i):=NG λϊ ϊ ϊ ϊ ϊ ϊ ϊ q=>gt_int q
theorem op_ge:Aj X (compareOp .GtE)<|FI λi j=>.bl<|decide (j<=i):=NG λϊ ϊ ϊ ϊ ϊ ϊ ϊ q=>ge_int q
def zfe:Aj X (compareOp .In) (λx y H Q=>∃i j,x=.str i/\y=.str j/\Q (.bl<|!(Builtin.Str.occurrences j i 0 j.length 1).isEmpty) H):=by
 intro c s O H x y v u Q I a b h;let(i,j,rfl,rfl,q):=h;let(t,rfl):=a;let(d,rfl):=b;exact in_str<|LP I q rfl
def zoy:Aj X (compareOp .Is)<|λx y H Q=>y=.non/\Q (.bl<|decide (x=.non)) H:=by
 intro c s O H x y v u Q I a b h;let(rfl,q):=h;cases b;refine is_none_gen<|LP I q ?_
 cases x<;>first
  |rfl
  |(let(t,rfl):=a;rfl)
def zl3:Aj X (compareOp .IsNot)<|λx y H Q=>y=.non/\Q (.bl<|!decide (x=.non)) H:=by
 intro c s O H x y v u Q I a b h;let(rfl,q):=h;cases b;refine isnot_none_gen<|LP I q ?_
 cases x<;>first
  |rfl
  |(let(t,rfl):=a;rfl)
def zl0(i:Aj X (compareOp op) r)(e:PE X a ta)(f:PE X b tb)(g:behindInMarks op b=false):PE X (.Compare a [op] [b] pos)<|JF r ta tb:=by
 intro j s O H Q I h;exact wpAny_Compare1 (WB e f I h λv u m x y c d k l q=>i j m O c x y v u Q d k l q) g
def XH(t:TE):TT:=λO H Q=>t O H λx a=>∃k,x=.bl k/\Q k a
def zkn(j:Aj X (compareOp op) r)(f:PE X a ta)(g:PE X b tb)(i:behindInMarks op b=false):PT X (.Compare a [op] [b] pos)<|XH<|JF r ta tb:=by
 intro d s O H Q I h
 refine wpAny_isTrue_Compare1 (A4 (f d s O H _ I h) λv l ⟨x,H1,I1,r1,q1⟩=>A4 (g d l O H1 _ I1 q1) λu m ⟨y,H2,I2,r2,q2⟩=>
  A4 (j d m O H2 x y v u _ I2 r1 r2 q2) λc n ⟨z,H3,I3,r3,k,e,q3⟩=>?_) i
 subst e;cases r3;exact Ć {(H3),I3,q3}
def QE(r e:R2)(f g h:TE):TE:=λO H Q=>f O H λx b=>g O b λy c=>r x y c λz a=>∃k,z=.bl k /\
 (if k=true then h O a λi d=>e y i d Q else Q (.bl false) a)
def zhv(n:Aj X (compareOp op) r)(g:Aj X (compareOp op') r')(i:PE X a ta)(j:PE X b tb)(l:PE X c tc)
  (m:lastMarks [op,op'] [b,c]=false):PE X (.Compare a [op,op'] [b,c] pos)<|QE r r' ta tb tc:=by
 intro f s O H Q I h
 refine Compare_chain (A4 (i f s O H _ I h) λv o ⟨x,H1,I1,r1,q1⟩=>chain_link (A4 (j f o O H1 _ I1 q1) λu p ⟨y,H2,I2,r2,q2⟩=>
  A4 (n f p O H2 x y v u _ I2 r1 r2 q2) λd q ⟨z,H3,I3,r3,k,e,q3⟩=>?_)) m
 subst e;cases r3;refine Ć ?_;cases k with
 |false=>exact ite_ff {.bl false,H3,I3,rfl,q3}|true=>exact ite_tt<|chain_last<|A4 (l f q O H3 _ I3 q3) λw t ⟨A,H4,I4,r4,q4⟩=>g f t O H4 y A u w Q I4 r2 r4 q4
def zho(t:Aj X (compareOp op) r)(g:Aj X (compareOp op') r')(n:PE X a ta)(o:PE X b tb)(p:PE X c tc)
  (q:lastMarks [op,op'] [b,c]=false):PT X (.Compare a [op,op'] [b,c] pos)<|XH<|QE r r' ta tb tc:=by
 intro f s O H Q I h
 refine isTrue_chain (A4 (n f s O H _ I h) λv C ⟨x,H1,I1,r1,q1⟩=>test_link (A4 (o f C O H1 _ I1 q1) λu D ⟨y,H2,I2,r2,q2⟩=>
  A4 (t f D O H2 x y v u _ I2 r1 r2 q2) λd E ⟨z,H3,I3,r3,k,e,q3⟩=>?_)) q
 subst e;cases r3;refine Ć ?_;cases k with
 |false=>let(M,l,w):=q3;cases l;exact ite_ff {(H3),I3,w}
 |true=>
  refine ite_tt<|test_last<|A4 (p f E O H3 _ I3 q3) λG F ⟨J,H4,I4,r4,q4⟩=>A4 (g f F O H4 y J u G _ I4 r2 r4 q4) λL P K=>?_
  let(R,i,j,B,N,m,A):=K;subst m;cases B;exact Ć {(i),j,A}
def Ku:(sizeLine:Nat)<2 ^ 63:=by rw[Ĕ];decide
def zed:Aj X (binaryOp .Add) (λx y H Q=>∃i j,x=.str i/\y=.str j/\i.length+j.length<=sizeLine/\Q (.str<|i++j) H):=by
 intro e s O H x y v u Q I b c h;let(i,j,rfl,rfl,a,q):=h;let(t,rfl):=b;let(d,rfl):=c;exact add_str (λd tk=>{.str<|i++j,H,I.tok _,{_,rfl},q}) a
def Ft(r:Ag [x] us):∃u,us=[u]/\Ac x u:=by
 cases r with
 |cons r1 a=>cases a;grind
def Hy(r:Ag [x,y] us):∃u w',us=[u,w']/\Ac x u/\Ac y w':=by
 cases r with
 |cons r1 a=>
  cases a with
  |cons b r4=>cases r4;grind
def zjl:C4 X (.builtin "abs") (λxs H Q=>∃i,xs=[.int i]/\Q (.int (if i<0 then -i else i)) H):=by
 intro a s O H xs b Q I r h;let(i,rfl,q):=h;let(u,rfl,t,rfl):=Ft r;exact call_abs_int λu tk=>{.int (if i<0 then -i else i),H,I.tok _,{_,rfl},q}
def zgy(b:X.calm=true):C4 X (.builtin "max") (λxs H Q=>∃i j,xs=[.int i,.int j]/\Q (.int (if j > i then j else i)) H):=by
 intro d s O H xs f Q I r h;let(i,j,rfl,q):=h;let(u,g,rfl,(t,rfl),(e,rfl)):=Hy r;refine max_two_ints (I.ok.hd b) λc tk k=>{_,H,I.kept k,?_,q}
 by_cases a:j > i;rw[if_pos a,if_pos a];exact{_,rfl};rw[if_neg a,if_neg a];exact{_,rfl}
def zgx(b:X.calm=true):C4 X (.builtin "min") (λxs H Q=>∃i j,xs=[.int i,.int j]/\Q (.int (if j<i then j else i)) H):=by
 intro d s O H xs f Q I r h;let(i,j,rfl,q):=h;let(u,g,rfl,(t,rfl),(e,rfl)):=Hy r;refine min_two_ints (I.ok.hd b) λc tk k=>{_,H,I.kept k,?_,q}
 by_cases a:j<i;rw[if_pos a,if_pos a];exact{_,rfl};rw[if_neg a,if_neg a];exact{_,rfl}
def LenV(K:q9)(x:V)(H:Hp)(n:Nat):Prop:=
 match x with
 |.str y=>y.length<=sizeLine/\n=y.length|.byt y=>y.size<=sizeLine/\n=y.size|.ref p=>(∃xs,Ab K H p xs/\n=xs.length)\/∃xs,CP K H p xs/\n=xs.length|ϊ=>False
def kL:C4 X (.builtin "len") (λxs H Q=>∃x n,xs=[x]/\LenV X.K x H n/\Q (.int n) H):=by
 intro o s O H xs v Q I r h;let(x,n,rfl,e,q):=h;let(u,rfl,i):=Ft r;have l:=Ku;have m :=Ĕ;cases x with
 |str y=>let(t,rfl):=i;let(j,b):y.length<=sizeLine/\n=y.length:=e;subst b;exact len_str (by lia) {.int _,H,I.tok _,{_,rfl},q}
 |byt y=>let(t,rfl):=i;let(j,b):y.size<=sizeLine/\n=y.size:=e;subst b;exact W.len_bytes (by lia) {.int _,H,I.tok _,{_,rfl},q}
 |ref p=>
  cases i;have b :=e
  rcases b with ⟨xs,c,b⟩|⟨xs,c,b⟩;subst b;let(d,g,f,k):=I.list c;have a:=g.length;exact Calls.call_len_list f.isList (by erw[ð];lia) {.int xs.length,H,I.tok _,{_,by erw[ð];rw[a]},q}
  subst b;let(d,g,f,k):=I.tuple c;have a:=g.length;exact len_tuple f (by grind) {.int xs.length,H,I.tok _,{_,by erw[ð];rw[a]},q}
 |_=>exact(e).elim
end
structure ObjM(h:Heap)(x dx C:Addr)(mA:Str->Option Value):Prop where
 obj:h.get? x=↑(W.instObj C dx)
 ns:h.Ns1 dx mA
 ne:dx≠x
def zfn{h:Heap}(n:h.Ns1 dx mA):∃od,h.get? dx=↑od/\∀name,W.lookIn name od=↑(mA name):=by
 let(o,c,i,f,hd,hk,_,d):=n;refine{o,f,λname=>?_};have e:=d name;unfold nsFind findBy at e;rw[<- Array.find?_toList]at e;unfold W.lookIn;rw[hd];dsimp only;split;grind
 have a:c.toList.any (·.refKey)=false:=by
  rw[List.any_eq_false];intro y g;let(z,t,b):=hk y<|Array.mem_toList_iff.mp g;simp[DictEntry.refKey,b]
 grind
def ObjM.look(I:ObjM h x dx C mA):∃od,PySem.W.InstAt h x (W.instObj C dx) C ↑od/\∀name,W.lookIn name od=↑(mA name):=
 let ⟨od,ho,hl⟩:=zfn I.ns
 {od,{(I.obj),rfl,rfl,ho},hl}
section
variable {prog:Program}{w:World}{A:Around}{E:Value->Shared->Prop}{s:Shared}{K:q9}{x dx C f:Addr}{mA:Str->Option Value}{name:Str}{v:Value}
def zm9(X:K.In s.heap)(I:ObjM s.heap x dx C mA)(c:W.plainGet K C name=true)(hh:W.hasDictIn K C=true)
  (b:W.findIn K (.ref C) name=↑none) (e:mA name=↑v) (a:W.handedIn v=true) (h:Q v { s with toks:=s.toks+1 }) :
  wpAny (model prog w) A (getAttr (.ref x) name expr) Q E s:=by
 let(f,Γ,d):=I.look;exact W.get_value X Γ (Ū c).1 (W.findObj_own hh b rfl<|by rw[d,e]) a h
def ziw(X:K.In s.heap)(I:ObjM s.heap x dx C mA)(a:W.plainGet K C name=true)
  (b:W.findIn K (.ref C) name=↑(↑(.ref f))) (c:W.isFn K (.ref f)=true) (g:mA name=none) (h:Q (.ref f,[.ref x]) s) :
  wpAny (model prog w) A (getMethod (.ref x) name pl) Q E s:=by
 let(d,Γ,e):=I.look;exact W.method_fn X Γ (Ū a).1 (Ū a).2 b (beq_iff_eq.mp c) (by show(W.lookIn name d).map (·.isSome)=↑false;grind) h
def zk4(X:K.In s.heap)(I:ObjM s.heap x dx C mA)
  (m:W.findIn K (.ref C) "__setattr__"=↑(↑(.builtin "object.__setattr__"))) (l:W.plainOver K C=true) (o:W.takerIn K C name=↑none) (hh:W.hasDictIn K C=true)
  (p:PySem.Within mA ns) (n:ns.length<=sizeLine)
  (h:∀h',ObjM h' x dx C (λy=>if y=name then ↑v else mA y)->Heap.SameBut dx s.heap h'->Q () { s with heap:=h',toks:=s.toks+2 }) :
  wpAny (model prog w) A (setAttr (.ref x) name v) Q E s:=by
 let(u,Γ,r):=I.look;refine W.set_plain X Γ m<|W.osa_open X Γ l o λb=>?_
 let(cd,k,e):=W.any_some hh;have q :=I.obj;refine Â<|Ñ<|Â<|Â<|wpAny_loadPart q<|Â<|PySem.W.Looks.here (W.looks_clsIn X k) ?_;rw[e];refine Ñ<|Â<|Ñ<|Â ?_;refine wpAny_nsSet1 I.ns λh' a c=>?_
 let(t,j,i,g,f,d):=a.count<|PySem.Within.cons name v p;refine Â<|wpAny_lookBehind g (by rw[f];exact pastItsLine_dict<|Ú d<|by grind) ?_
 exact Ñ<|h _ {(c.2 _<|Í I.ne).trans I.obj,a,I.ne} c
def zi6(X:K.In s.heap)(c:W.makesIn K C=true)
  (b:W.findIn K (.ref C) "__init__"=↑(↑(.ref f))) (a:W.typeIn K (.ref f)=↑(.type "function"))
  (h : codeAny (model prog w) (A.under<|.builtin "type.__call__" {.ref C :: vs, kw}) (.call (.ref f) {.ref (s.heap.objs.size + 1) :: vs, kw}) (PySem.W.InitBack (s.heap.objs.size + 1) R)
   { s with heap:=(s.heap.push W.emptyDict).push (W.instObj C s.heap.objs.size) }) :
  codeAny (model prog w) A (.call (.ref C) {(vs),kw}) R s:=by
 exact W.make_core (W.makes_of X c) (W.looks_findIn X b) (λself=>W.bind_fn X self a) (.inl rfl) h
end
def Dn(f:Str)(v:V):List (Str×V)->List (Str×V)
 |[]=>[(f,v)]|(g,x)::r=>if g=f then (g,v)::r else (g,x)::Dn f v r
theorem dR(f g)(v):∀fs ,(Dn f v fs).lookup g=if g=f then ↑v else fs.lookup g
 |[]=>by
  show List.lookup g [(f,v)]=_;grind
 |(k,x)::r=>by
  have a:=dR f g v r;rw[show Dn f v ((k,x)::r)=(if k=f then (k,v)::r else (k,x)::Dn f v r) from rfl];grind
def UU(f)(v):∀fs ,f∈(Dn f v fs).map (·.1)/\∀g,g∈fs.map (·.1)->g∈(Dn f v fs).map (·.1)
 |[]=>{by simp[Dn],λg h=>by simp at h}|(k,x)::r=>by
  let(a,b):=UU f v r;rw[show Dn f v ((k,x)::r)=(if k=f then (k,v)::r else (k,x)::Dn f v r) from rfl];grind
def dZ(f)(v):∀fs ,(Dn f v fs).length<=fs.length+1
 |[]=>by simp[Dn]|(k,x)::r=>by
  have a:=dZ f v r;rw[show Dn f v ((k,x)::r)=(if k=f then (k,v)::r else (k,x)::Dn f v r) from rfl];grind
def EY.some_of(r:EY ↑v o):∃u,o=↑u/\Ac v u:=by
 cases o with
 |none=>exact(r).elim|some u=>exact{(u),rfl,r}
def EY.none_of(r:EY none o):o=none:=by
 cases o with
 |none=>rfl|some u=>exact(r).elim
def zfv(r:Ac v u):W.handedIn u=true:=by
 cases v with
 |non=>cases (r);rfl|bl b=>cases (r);rfl|int i=>let(t,e):=(r);cases e;rfl
 |str x=>let(t,e):=(r);cases e;rfl
 |byt b=>let(t,e):=(r);cases e;rfl
 |flt b=>let(t,e):=(r);cases e;rfl
 |ref a=>cases (r);rfl|ty n=>cases (r);rfl
section
variable {P:Program}{w:World}{H H':Hp}{h h':Heap}{a C dx:Addr}{fs fs':List<|Str×V}
def Ni(hok:HOk P w H h)(e:H a=↑(.ins C dx fs)):∃mA,ObjM h a dx C mA/\(∀f,EY (fs.lookup f)<|mA f)/\PySem.Within mA (fs.map (·.1))/\fs.length<=1000/\H dx=↑(.own a):=by
 let(d,z,ne,ob,mA,n,r,q):=(hok a _ e);exact{mA,{(ob),n,ne},r,q,z,d}
end
structure Cls(K:q9)(C:Addr):Prop where
 pg:W.plainGet K C Str.empty=true
 hd:W.hasDictIn K C=true
 po:W.plainOver K C=true
 sa:W.findIn K (.ref C) "__setattr__"=↑(↑(.builtin "object.__setattr__"))
def Cls.get{K}(c:Cls K C)(f):W.plainGet K C f=true:=c.pg
def CB(K:q9)(C:Addr)(f:Str):Prop:=W.findIn K (.ref C) f=↑none
def CB.taker{K}(n:CB K C f):W.takerIn K C f=↑none:=by
 unfold W.takerIn;rw[n];rfl
structure Meth(K:q9)(C:Addr)(m:Str)(f:Addr):Prop where
 at_:W.findIn K (.ref C) m=↑(↑(.ref f))
 fn:W.isFn K (.ref f)=true
 kp:W.keepIn K (.ref f)=true
section
variable {X:Cx}{pz:List<|Addr×Obj}{O:St}{H:Hp}{s:Shared}{a C dx:Addr}{fs:List<|Str×V}{f:Str}{v:V}{A:Around}{E:Value->Shared->Prop}
def zeq(I:Inv X pz O H s)(e:H a=↑(.ins C dx fs))(c:Cls X.K C)(n:CB X.K C f)(l:fs.lookup f=↑v)
  (h:∀u s',Inv X pz O H s'->Ac v u->Q u s'):wpAny (model X.prog X.w) A (getAttr (.ref a) f b) Q E s:=by
 let(i,σ,r,_,_,_):=Ni I.hok e;let(u,g,d):=EY.some_of (v:=v) (o:=i f)<|by grind
 exact zm9 I.kIn σ (c.get f) c.hd n g (zfv d)<|h u _ (I.tok _) d
def fT(I:Inv X pz O H s)(e:H a=↑(.ins C dx fs))(c:Cls X.K C)(k:Meth X.K C m g)(l:fs.lookup m=none)
  (h:Q (.ref g,[.ref a]) s):wpAny (model X.prog X.w) A (getMethod (.ref a) m pl) Q E s:=by
 let(d,σ,r,_,_,_):=Ni I.hok e;have b:d m=none:=EY.none_of<|by grind
 exact ziw I.kIn σ (c.get m) k.at_ k.fn b h
def zea(I:Inv X pz O H s)(e:H a=↑(.ins C dx fs))(c:Cls X.K C)(n:CB X.K C f)(v:fs.length<1000)(t:Ac y u)
  (h:∀s',Inv X pz O (upd H a<|.ins C dx<|Dn f y fs) s'->Q () s'):wpAny (model X.prog X.w) A (setAttr (.ref a) f u) Q E s:=by
 let(w,σ,r,j,_,i):=Ni I.hok e;have p:(fs.map (·.1)).length<=sizeLine:=by rw[À,Ĕ];lia
 refine zk4 I.kIn σ c.sa c.po n.taker c.hd j p λk d sb=>h _ ?_;have hd:∃o,k.get? dx=↑o:=let ⟨o,_,_,e',_⟩:=d.ns;{(o),e'};refine I.write (by rw[e];exact True.intro) (.inr i) (λb q l z=>(sb.2 b l).trans z) hd ?_
 refine{by rw[BB σ.ne];exact i,?_,σ.ne,d.obj,_,d.ns,λg=>?_,λg m=>?_};have:=dZ f y fs;lia;rw[dR];by_cases q:g=f;rw[if_pos q,if_pos q];exact t;rw[if_neg q,if_neg q];exact r g;by_cases q:g=f;rw[q];exact(UU f y fs).1;refine(UU f y fs).2 g (j g λz=>m ?_);grind
def Inv.made(I:Inv X pz O H s):Inv X pz O (upd (upd H s.heap.objs.size<|.own<|s.heap.objs.size+1) (s.heap.objs.size+1)<|.ins C s.heap.objs.size [])
  { s with heap:=(s.heap.push W.emptyDict).push (W.instObj C s.heap.objs.size) }:=by
 have a:(s.heap.push W.emptyDict).get? s.heap.objs.size=↑W.emptyDict:=æ s.heap rfl
 have d:((s.heap.push W.emptyDict).push (W.instObj C s.heap.objs.size)).get? (s.heap.objs.size+1)=↑(W.instObj C s.heap.objs.size):=by
  have:=æ (s.heap.push W.emptyDict) (o:=W.instObj C s.heap.objs.size) rfl;simp_all
 have f:(s.heap.push W.emptyDict).Ns s.heap.objs.size (λϊ=>none):={W.emptyDict,#[],_,a,rfl,(λe g=>absurd g<|by simp),λϊ=>rfl};have c:=I.laid (o:=.own<|s.heap.objs.size+1) (t':=s.toks) (λb u q=>Ø _ q) (Æ _) {_,a};refine c.laid (λb u q=>Ø _ q) (Nat.le_of_eq<|Ğ _ _) ?_;have ne:s.heap.objs.size≠s.heap.objs.size+1:=Ô<|Ĝ _;refine{by rw[BB ne,Cn],é _,ne,d,λϊ=>none,(Heap.Ns1.of_empty f).at λo q=>Ø _ q,λϊ=>True.intro,λy h=>absurd rfl h}
theorem zmq(a:attributeBase e f env (eval e env)=eval e env)
  (h:wpAny (model prog w) A (eval e env) (λo s₁=>wpAny (model prog w) A (getAttr o f true) Q E s₁) E s):wpAny (model prog w) A (eval (.Attribute e f pos) env) Q E s:=
 Attribute_any_ h (by rw[arm_eval_Attribute,a])
end
def tFld(K:q9)(d:TE)(f:Str):TE:=λO H Q=>d O H λx b=>∃a C c fs v,x=.ref a/\b a=↑(.ins C c fs)/\Cls K C/\CB K C f/\fs.lookup f=↑v/\Q v b
def sFld(K:q9)(e g:TE)(f:Str):TS:=λD O H=>g O H λy d=>e O d λx b=>∃a C c fs,x=.ref a/\b a=↑(.ins C c fs)/\Cls K C/\CB K C f/\fs.length<1000 /\
 D.nx O (upd b a<|.ins C c<|Dn f y fs)
section
variable {X:Cx}{o e value:Expr}{f:Str}{pos pos' tpos:Pos}{ta tv:TE}
def Yc(k:PE X e ta)(j:attributeBase e f X.env (eval e X.env)=eval e X.env):PE X (.Attribute e f pos)<|tFld X.K ta f:=by
 intro m s O H Q I h;refine zmq j<|A4 (k m s O H _ I h) λu w r=>?_
 let(x,b,d,p,a,C,t,fs,v,ex,i,c,n,l,q):=r;subst ex;obtain rfl:u=Value.ref a:=p;exact zeq d i c n l λz y g o=>{(v),b,g,o,q}
def zod(i:PE X o ta)(k:PE X value tv)(j:swapsWith value (↑(.Attribute o f pos')) pos.line X.env=pure false):PS X (.Assign [.Attribute o f pos'] value pos)<|sFld X.K ta tv f:=by
 intro b s O H D I h;refine plainObj_wpAny_Assign_Attribute (A4 (k b s O H _ I h) λu t ⟨y,H1,I1,ry,q⟩=>A4 (i b t O H1 _ I1 q) λm A v=>?_) j;let(x,w,d,r,a,C,z,fs,ex,g,c,n,l,p):=v;subst ex;obtain rfl:m=Value.ref a:=r;exact zea d g c n l ry λB e=>{O,_,e,p}
end
section
variable {X:Cx}{pz:List<|Addr×Obj}{O:St}{H:Hp}{s:Shared}{A:Around}{E:Value->Shared->Prop}{Q:Value->Shared->Prop}{c:Value}{b:Bool}
inductive TyOf(K:q9)(H:Hp):V->Value->Prop where
 |non:TyOf K H .non<|.type "NoneType"
 |bl (x:Bool):TyOf K H (.bl x)<|.type "bool"
 |int (i:Int):TyOf K H (.int i)<|.type "int"
 |str (x:Str):TyOf K H (.str x)<|.type "str"
 |flt (x:UInt64):TyOf K H (.flt x)<|.type "float"
 |lst {a:Addr} {xs:List V} (e:H a=↑(.lst xs)):TyOf K H (.ref a)<|.type "list"
 |frz {a:Addr} {o:Obj} {xs:List V} (e:H a=↑(.frz o<|.lst xs)):TyOf K H (.ref a)<|.type "list"
 |tup {a:Addr} {xs:List V} (e:H a=↑(.tup xs)):TyOf K H (.ref a)<|.type "tuple"
 |dK {a:Addr} {kvs:List<|Key×V} (e:H a=↑(.dK kvs)):TyOf K H (.ref a)<|.type "dict"
 |dT {a:Addr} {kvs:List<|List Key×V} (e:H a=↑(.dT kvs)):TyOf K H (.ref a)<|.type "dict"
 |ins {a C dx:Addr} {fs:List<|Str×V} (e:H a=↑(.ins C dx fs)) (cl:Cls K C) (ha:W.findIn K (.ref C) "__class__"=↑(↑(.builtin "object.__class__")))
   (hn:W.specialIn K (.builtin "object.__class__") "__get__"=↑(↑(.builtin "getset_descriptor.__get__"))) (htk:W.takesIn K (.builtin "object.__class__")=↑true)
   (hm:W.mroIn K C (.type "object")=↑true):TyOf K H (.ref a)<|.ref C
def U1{x:V}  (I:Inv X pz O H s)(f:Ac x u)(ty:TyOf X.K H x t)(e:W.kitOne X.K t c=↑b)(h:∀tk,Q (.bool b) { s with toks:=tk }) :
  wpAny (model X.prog X.w) A (call (.builtin "isinstance") [u,c]) Q E s:=by
 cases ty with
 |non=>cases (f);exact ñ W.kitx_none I.kIn True.intro e (λz=>nomatch z) h
 |bl y=>cases (f);exact ñ W.kitx_bool I.kIn True.intro e (λz=>nomatch z) h
 |int i=>let(t,q):=(f);cases q;exact ñ W.kitx_int I.kIn True.intro e (λz=>nomatch z) h
 |str y=>let(t,q):=(f);cases q;exact ñ W.kitx_str I.kIn True.intro e (λz=>nomatch z) h
 |flt y=>let(t,q):=(f);cases q;exact ñ W.kitx_float I.kIn True.intro e (λz=>nomatch z) h
 |@lst a xs d=>cases (f);let(_,_,n,_,g):=(I.hok a _ d);exact ñ ŷ I.kIn {_,g,rfl} e (λz=>nomatch z) h
 |@frz a ob xs d=>cases (f);let(_,_,_,n,_,g):=(I.hok a _ d);exact ñ ŷ I.kIn {_,g,rfl} e (λz=>nomatch z) h
 |@tup a xs d=>cases (f);let(_,_,_,p):=(I.hok a _ d);let(o,g,j,_):=p;exact ñ W.kitx_tuple I.kIn {(o),g,j} e (λz=>nomatch z) h
 |@dK a l d=>cases (f);let(_,_,J,_,p):=(I.hok a _ d);let(o,r,m,g,j,_):=p;exact ñ Ÿ I.kIn {(o),g,j.1} e (λz=>nomatch z) h
 |@dT a l d=>cases (f);let(_,_,xs,_,o,r,m,g,j,_):=(I.hok a _ d);exact ñ Ÿ I.kIn {(o),g,j.1} e (λz=>nomatch z) h
 |@ins a C D fs d cl v B k w=>cases (f);let(F,σ,_):=Ni I.hok d;let(G,Γ,_):=σ.look;exact ñ (W.kitx_own (cl.get _) cl.hd v B k w) I.kIn Γ e (λz=>nomatch z) h
end
structure Room(k:Nat)(A:Around):Prop where
 hd:A.handled=none
 dp:A.depth+3 * k+5<recursionLimit
 un:A.units+16 * k+200<cLine
theorem Room.mono(r:Room k A)(h:j<=k):Room j A:={r.hd,by have:=r.dp;lia,by have:=r.un;lia}
theorem Room.deeper(r:Room (k+1) A)(env):Room k<|A.deeper env:=
 {r.hd,by have:=r.dp;show A.depth+1+3 * k+5<_;lia,by have:=r.un;show A.units+3+16 * k+200<_;lia}
def zeg{A:Around}:(A.under<|.builtin "type.__call__" {.ref C::us,kw}).depth=A.depth+1:=by
 rfl
def zef{A:Around}:(A.under<|.builtin "type.__call__" {.ref C::us,kw}).units=A.units+1:=by
 rfl
theorem Room.make(r:Room (k+1) A)(C)(us)(kw):Room k<|A.under<|.builtin "type.__call__" {.ref C::us,kw}:=
 {r.hd,by have:=r.dp;rw[zeg];lia,by have:=r.un;rw[zef];lia}
def Room.depth(r:Room k A):A.depth<recursionLimit:=by have:=r.dp;lia
def Room.units(r:Room k A):A.units+64<cLine:=by have:=r.un;lia
def XO:TA:=λϊ H Q=>Q [] H
def tCons(c:TE)(tr:TA):TA:=λO H Q=>c O H λx a=>tr O a λxs b=>Q (x::xs) b
section
variable {X:Cx}{e:Expr}{es:kg}{te:TE}{t:TA}{pos:Pos}
theorem Fg:PA X [] XO:=λϊ ϊ ϊ ϊ H Q I h=>Calls.spliced_nil {[],H,I,.nil,h}
def Er(f:PE X e te)(g:PA X es t)(i:starEach (e::es) X.env=(false,eval e X.env)::starEach es X.env:=by rfl):PA X (e::es)<|tCons te t:=by
 intro a b s O H Q I h;rw[i];refine Calls.spliced_cons<|A4 (f b s O H _ I h) λu k l=>?_
 let(x,c,d,r1,j):=l;exact A4 (g a b k O c _ d j) λn m ⟨xs,H2,I2,r2,q2⟩=>{x::xs,H2,I2,.cons r1 r2,q2}
def tTup(t:TA):TE:=λO H Q=>t O H λxs a=>xs.length<=sizeLine/\∀p,a p=none->Q (.ref p) (upd a p<|.tup xs)
def tLst(t:TA):TE:=λO H Q=>t O H λxs a=>xs.length<=sizeLine/\∀p,a p=none->Q (.ref p) (upd a p<|.lst xs)
def zom(h:PA X es t):PE X (.Tuple es x1 pos)<|tTup t:=by
 intro f s O H Q I d;refine wpAny_Tuple_spliced<|A4 (h pos f s O H _ I d) λg a ⟨xs,H1,I1,r,z,q⟩=>{by rw[<- r.length];exact z,?_}
 have c :=I1.hok.fresh<|Æ _;refine{.ref a.heap.objs.size,upd H1 a.heap.objs.size<|.tup xs,I1.laid (λb u e=>Ø _ e) (Æ _) ?_,rfl,q _ c}
 exact{z,g,r,{_,æ _ rfl,rfl,_,rfl}}
def zoq(h:PA X es t):PE X (.List es pos)<|tLst t:=by
 intro f s O H Q I d;refine wpAny_List_spliced<|A4 (h pos f s O H _ I d) λg a ⟨xs,H1,I1,r,z,q⟩=>{by rw[<- r.length];exact z,?_}
 have c :=I1.hok.fresh<|Æ _;refine{.ref a.heap.objs.size,upd H1 a.heap.objs.size<|.lst xs,I1.laid (λb u e=>Ø _ e) (Æ _) ?_,rfl,q _ c}
 exact{z,g,0,r,æ _ rfl}
end
abbrev Sp:=qA->Hp->VK->XK->Prop
abbrev G0:=List Env->Hp->Shared->XK->Value->Shared->Prop
structure Env0(P:Program)(w:World)(K:q9)(mg:Str->Option Value)(base:Heap)(A:Around)(outer:List Env)(s:Shared)(H:Hp):Prop where
 frames:A.frames=↑outer
 mod:Mod K mg base
 bs:∀b o,base.get? b=↑o->s.heap.get? b=↑o/\H b=none
 bsz:base.objs.size<=s.heap.objs.size
 funs:s.heap.FunFrames base outer
 frf:∀b∈Bc outer,H b=none
 hok:HOk P w H s.heap
 bare:AllBare s.gens
def CE(outer:List Env)(P:Program)(w:World)(H:Hp)(s:Shared)(Q:VK)(u:Value)(s':Shared):Prop:=
 ∃v a,s'.os=s.os/\AllBare s'.gens/\Un (Bc outer) [] H a s.heap s'.heap/\HOk P w a s'.heap/\Ac v u/\Q v a
def CR(CX:G0)(outer:List Env)(P:Program)(w:World)(H:Hp)(s:Shared)(Q:VK)(E:XK)(r:Result)(s':Shared):Prop:=
 match r with
 |.ok (.ret u)=>CE outer P w H s Q u s'|.ok ϊ=>False|.error e=>CX outer H s E e s'
structure FnOk(P:Program)(w:World)(K:q9)(mg:Str->Option Value)(base:Heap)(CX:G0)(k:Nat)(f:Addr)(fd:FuncData)(ps:ki)(sp:Sp):Prop where
 len:∀vs H Q E,sp vs H Q E->vs.length=ps.length
 run:∀(A:Around) (outer:List Env) (s:Shared) (H:Hp) (args:Args) (us:kc) (vs:qA) (Q:VK) (E:XK),Room k A->Env0 P w K mg base A outer s H->BindsTo s fd args (ps.zip us)->Ag vs us->sp vs H Q E ->
  codeAny (model P w) A (.call (.ref f) args) (CR CX outer P w H s Q E) s
theorem Env0.make{w:World}{K}{s:Shared}{H:Hp}(e:Env0 P w K mg base A outer s H)(C:Addr)(us)(kw) :
  Env0 P w K mg base (A.under<|.builtin "type.__call__" {.ref C::us,kw}) outer s H:={by first|exact e.frames|rfl,e.mod,e.bs,e.bsz,e.funs,e.frf,e.hok,e.bare}
section
variable {X:Cx}{pz:List<|Addr×Obj}{O:St}{H:Hp}{s s':Shared}
theorem Inv.env0(I:Inv X pz O H s):Env0 X.prog X.w X.K X.mg X.base X.A X.stack s H:=
 {I.ok.frames,I.ok.mod,I.bs,Ú I.ok.bsz I.sz,I.stack,I.stkFree,I.hok,I.bare}
def Inv.after(I:Inv X pz O H s)(h:CE X.stack X.prog X.w H s Q u s'):EP X pz O Q u s':=by
 let(v,c,os,bare,un,hok,r,q):=h;let(hh,g,d,t,a):=s';obtain rfl:a=s.os:=os;exact{v,c,I.call un hok bare<|λb z=>absurd z<|by simp,r,q}
end
def DF(K:q9)(fd:FuncData)(ps:ki)(ds:kc):Prop:=
 ∀(s:Shared) (a:kc),K.In s.heap->(a++ds).length=ps.length->BindsTo s fd {a,[]} (ps.zip<|a++ds)
theorem DF.all{K }   (h:∀us ,us.length=ps.length->bindArgs fd {us,[]}=pure (ps.zip us)):DF K fd ps []:=λs us ϊ a=>by
 rw[Þ]at a ⊢;exact .of_eq<|h us a
section
variable {X:Cx}{CX:G0}{k:Nat}{f C:Addr}{fd:FuncData}{ps:ki}{sp:Sp}{dvs:qA}{ds:kc}{E:XK}{x m:Str}{p pos apos:Pos}{e o:Expr}{es:kg}{ta:TE}{t:TA}
structure Mk(K:q9)(C f:Addr):Prop where
 makes:W.makesIn K C=true
 init:W.findIn K (.ref C) "__init__"=↑(↑(.ref f))
 fn:W.isFn K (.ref f)=true
 kp:W.keepIn K (.ref C)=true
end
section
variable {X:Cx}{CX:G0}{k:Nat}{f C:Addr}{fd:FuncData}{ps ks:ki}{sp:Sp}{E:XK}{x m:Str}{p pos apos kpos:Pos}{e o:Expr}{es:kg}{kws:List Keyword}{te ta:TE}{t tk:TA}{nm:Option Str}
variable {g:kc->kc->kc}{gV:qA->qA->qA}
end
structure FnScope(N P:ki)(sc:Scope):Prop where
 kind:sc.kind=.function
 co:sc.isCoroutine=false
 gen:sc.isGenerator=false
 nd:N.Nodup
 pre:N.take P.length=P
 par:∀x∈P,sc.names.lookup x=↑.local\/sc.names.lookup x=↑.cell
 nofree:∀y∈sc.names,y.2≠.free
def k7{kindOf}:∀{binds} {m},(∀v,(x,v)∉binds)->bindL kindOf binds m x=m x
 |[],ϊ,ϋ=>rfl|(n,v)::r,m,h=>by
  unfold bindL;rw[k7 λw a=>h w<|Ê _ a];split;grind;rfl
def k9{kindOf}:∀{binds} {m},(∀v,(x,v)∉binds)->bindC kindOf binds m x=m x
 |[],ϊ,ϋ=>rfl|(n,v)::r,m,h=>by
  unfold bindC;rw[k9 λw a=>h w<|Ê _ a];split;rfl;grind
def k8{kindOf}{x:Str}{v}:∀{P:ki} {vs} {i:Nat} {m},P.Nodup->P[i]?=↑x->vs[i]?=↑v->kindOf x=↑.local ->
  bindL kindOf (P.zip vs) m x=↑v
 |[],ϊ,ϋ,ό,ύ,h,ώ,Ϗ=>by simp at h|ϊ::ϋ,[],ό,ύ,ώ,Ϗ,h,ϐ=>by simp at h|p::P,w::vs,0,m,nd,a,b,hk=>by
  simp at a b;subst a;subst b;show bindL kindOf ((p,w)::P.zip vs) m p=_;unfold bindL;rw[k7 λv c=>(ľ.mp nd).1 (List.of_mem_zip c).1,if_pos hk]
  simp
 |p::P,w::vs,i+1,m,nd,a,b,hk=>by
  unfold bindL;exact k8 (i:=i) (ľ.mp nd).2 (by grind) (by grind) hk
def lB{kindOf}{x:Str}{v}:∀{P:ki} {vs} {i:Nat} {m},P.Nodup->P[i]?=↑x->vs[i]?=↑v->kindOf x≠↑.local ->
  bindC kindOf (P.zip vs) m x=↑v
 |[],ϊ,ϋ,ό,ύ,h,ώ,Ϗ=>by simp at h|ϊ::ϋ,[],ό,ύ,ώ,Ϗ,h,ϐ=>by simp at h|p::P,w::vs,0,m,nd,a,b,hk=>by
  simp at a b;subst a;subst b;show bindC kindOf ((p,w)::P.zip vs) m p=_;unfold bindC;rw[k9 λv c=>(ľ.mp nd).1 (List.of_mem_zip c).1,if_neg hk]
  simp
 |p::P,w::vs,i+1,m,nd,a,b,hk=>by
  unfold bindC;exact lB (i:=i) (ľ.mp nd).2 (by grind) (by grind) hk
def start(N:ki)(vs:qA):St:=vs.map some++List.replicate (N.length - vs.length) none
def GL(CX:G0)(P:Program)(w:World)(K:q9)(mg:Str->Option Value)(base:Heap)(N:ki)(b:Str)(a:Scope)(f:Addr)(cd:Value)(A:Around)(outer:List Env)(s:Shared)(H:Hp)(E:XK):Cx where
 prog:=P
 w:=w
 K:=K
 mg:=mg
 base:=base
 A:=A.deeper (envOfC b a s.heap.objs.size f cd)
 N:=N
 s₀:=s
 H₀:=H
 env:=envOfC b a s.heap.objs.size f cd
 outer:=outer
 stack:=envOfC b a s.heap.objs.size f cd::outer
 ex:=[]
 calm:=true
 fn:=λϊ=>true
 pn:=[]
 xe:=λe g=>wpAny (model P w) (A.deeper<|envOfC b a s.heap.objs.size f cd) (leaving (envOfC b a s.heap.objs.size f cd) e) (λϊ c=>CX outer H s E e c) (λd c=>CX outer H s E d c) g
def kI{sc:Scope}(h:sc.names.lookup x=↑.cell):∃c,(cellsFrom n sc.names []).lookup x=↑c:=by
 have q:=W.cellsFrom_some sc.names n []<|.inl h;exact Ş.mp q
def zfs{CX:G0}{P:Program}{w:World}{K:q9}{base:Heap}{N ps:ki}{g:Str}{d:Scope}{f:Addr}{cd:Value}{A:Around}{s s1:Shared}{H:Hp}{E:XK}{vs:qA}
  (S:FnScope N ps d) (hd:A.handled=none) (l:Env0 P w K mg base A outer s H) (L:vs.length=ps.length) (r:Ag vs us)
  (x:InCallC s s.heap.objs.size (bindL (envOfC g d s.heap.objs.size f cd).kindOf (ps.zip us) λϊ=>none) (cellsFrom (s.heap.objs.size+1) d.names []) (bindC (envOfC g d s.heap.objs.size f cd).kindOf (ps.zip us) λϊ=>none) s1) :
  Inv (GL CX P w K mg base N g d f cd A outer s H E) [] (start N vs) H s1:=by
 have G :=by have:=congrArg List.length S.pre;rw[ù]at this;lia
 let(B,tk,rfl,hk):=x.done;have n:∀b ,b∉(GL CX P w K mg base N g d f cd A outer s H E).ex:=λb z=>absurd (show b∈[] from z)<|by simp
 refine{{l.mod,S.kind,rfl,rfl,Æ _,λy z c B j=>?_,λy m=>?_,λy c ϊ h=>?_,λϊ=>hd,Around.frames_deeper l.frames,.inr {(rfl),rfl},λb z=>absurd z<|n b,l.bs,l.bsz,λb ϊ ϊ=>n b,λb z=>absurd z<|n b,l.funs,l.frf},
  rfl,l.bare,Un.kept hk,{_,x.toInCall.ns,λi y v B j J=>?_},λy c h=>{_,x.cell y c h},l.hok.fresh<|Æ _,λy c h=>?_,λp o=>absurd (show p∈[] from o) (by simp),l.hok.kept hk,?_}
 exact name_of_addr x.apart (ċ B)<|ċ j
 have m :=m;rcases m with m|m;exact kI m;exact absurd rfl<|S.nofree _<|ċ m
 exact ŕ<|x.above y c<|ċ h
 have C:i<vs.length:=by
  unfold start at j;by_cases C:i<vs.length;exact C;rw[Ħ<|by simpa using C]at j;rw[Š]at j;split at j<;>cases j
 have F:vs[i]?=↑v:=by
  unfold start at j;rw[ú (by simpa using C),È]at j;cases e:vs[i]? with
  |none=>rw[e]at j;cases j|some a=>rw[e]at j;cases j;rfl
 let(u,D,I):=r.get F
 have o:ps[i]?=↑y:=by
  rw[<- S.pre,List.getElem?_take_of_lt<|by lia];exact B
 have t:ps.Nodup:=by rw[<- S.pre];exact S.nd.sublist<|List.take_sublist _ _
 refine{u,I,?_};rcases S.par y (õ o) with k|k;exact .inl {k,k8 t o D k};let(c,e):=kI k;refine .inr {.inl k,c,e,?_};have q:=x.cell y c e;rw[lB t o D (by show d.names.lookup y≠_;rw[k];decide)]at q
 exact q;exact l.hok.fresh<|ŕ<|x.above y c<|ċ h
 unfold start;show _=N.length;rw[ë,À,Ŧ]
 lia
def fn_of{CX:G0}   {K }   {k:Nat}{f:Addr}     {F kV h G a ct U:Value}
   {sp:Sp} (lk:K.lookup f=↑{U,od,.func<|W.fnOf name qual params body scope F kV h G an a ct,osl}) (m:W.codeIn K a qual=true) (S:FnScope N ps scope)
  (len:∀vs H Q E,sp vs H Q E->vs.length=ps.length)
  (c : ∀ (A : Around) (outer ) (s : Shared) (H : Hp) (vs : qA) (Q : VK) (E : XK), Room k (A.deeper<|envOfC qual scope s.heap.objs.size f a) -> sp vs H Q E ->
   ∃t,B9 (GL CX P w K mg base N qual scope f a A outer s H E) body t/\t { nx:=λϊ H'=>Q .non H',rt:=Q } (start N vs) H) :
  FnOk P w K mg base CX (k+1) f (W.fnOf name qual params body scope F kV h G an a ct) ps sp:=by
 refine{len,λA outer s H D X vs Q E p i L r j=>?_};have O:=len _ _ _ _ j;have C :=i.mod.kin.keeps λb o e=>(i.bs b o e).1
 have Bh :=i.mod.nolimit.keeps λb o e=>(i.bs b o e).1
 have d:∀y∈ps.zip X,scope.names.lookup y.1=↑.local\/(scope.names.lookup y.1=↑.cell/\((cellsFrom (s.heap.objs.size+1) scope.names []).lookup y.1).isSome=true):=λ⟨n,v⟩ hy=>by
  rcases S.par n (List.of_mem_zip hy).1 with q|q;exact .inl q;exact .inr {q,W.cellsFrom_some _ _ _<|.inl q}
 refine codeAny_call_function p.depth (C _ _ lk) rfl S.co S.gen rfl (W.codeRec_of C m)<|L _ _ _ _ ?_;refine wpAny_newFunctionEnv_cells S.kind d λenv M J x=>?_
 subst M;refine{Bh.keeps x.toInCall.keep,codeAny_func ?_};let(t,T,R):=c A outer s H vs Q E (p.deeper _) j;have I:Inv (GL CX P w K mg base N qual scope f a A outer s H E) [] (start N vs) H J:=zfs S p.hd i O r x;refine í (T [] J (start N vs) H _ I R) (λfl B g=>?_) λe B g=>g
 have BK:∀{l } {H' } {v } {u },Inv (GL CX P w K mg base N qual scope f a A outer s H E) [] l H' B->Ac v u->Q v H'->CE outer P w H s Q u B:=
  λ{l H' v u} Γ z q=>{(v),H',Γ.os,Γ.bare,Γ.base,Γ.hok,z,q}
 cases fl with
 |ret u=>let(v,l,H',Γ,z,q):=g;exact BK Γ z q
 |next=>let(l,H',Γ,q):=g;exact BK (v:=V.non) Γ rfl q
 |brk=>let(_,_,_,q):=g;exact False.elim q
 |cont=>let(_,_,_,q):=g;exact False.elim q
section
variable {X:Cx}{x:Str}{p pos:Pos}{e:Expr}{es:kg}{t:TA}{id T:String}{r:qA->Hp->VK->Prop}
def X4(r:qA->Hp->VK->Prop)(t:TA):TE:=λO H Q=>t O H λb a=>r b a Q
def My(f:C4 X (.builtin id) r)(i:Gl X x)(j:X.mg x=none)(l:bootBuiltins x=↑(.builtin id))(d:PA X (e::es) t)(k:x≠"__name__")(a:(x == "__debug__")=false)
  (g:starEach (e::es) X.env=(false,eval e X.env)::starEach es X.env) (b:(backTo pos<|starEach es X.env).any (·.1)=false):PE X (.Call (.Name x p) (e::es) [] pos)<|X4 r t:=by
 intro c s O H Q I h;refine ı<|Gh I i j l ?_ k a;exact PyProof.Rows.callWith_builtin1 (A4 (d pos c s O H _ I h) λn m ⟨o,H1,I1,r1,q1⟩=>f c m O H1 o n Q I1 r1 q1) g b
def Yd(f:C4 X (.type T) r)(i:Gl X x)(j:X.mg x=none)(l:bootBuiltins x=↑(.type T))(d:PA X (e::es) t)(k:x≠"__name__")(a:(x == "__debug__")=false)
  (g:starEach (e::es) X.env=(false,eval e X.env)::starEach es X.env) (b:(backTo pos<|starEach es X.env).any (·.1)=false):PE X (.Call (.Name x p) (e::es) [] pos)<|X4 r t:=by
 intro c s O H Q I h;refine ı<|Gh I i j l ?_ k a;exact Ę (A4 (d pos c s O H _ I h) λn m ⟨o,H1,I1,r1,q1⟩=>f c m O H1 o n Q I1 r1 q1) g b
end
end L2
namespace HT
open PySem PyProof.Rows
section
open PySem.SeqAt
open PySem.AutoSeq1 (wpAny_loadPart')
open PySem.MeetsSeq PySem.MeetsSeq2 PySem.MeetsSeq3
end
section
variable {prog:Program}{w:World}{A:Around}{E:Value->Shared->Prop}{s:Shared}
def sIx(n d:Nat):ke->Nat
 |none=>d|some v=>if v<0 then (v+(n:Int)).toNat else min v.toNat n
def sIx_nat(n d k:Nat):sIx n d (↑(k:Int))=min k n:=by
 rfl
end
end HT
namespace L2
open PySem PySem.Spec PyProof.Rows
abbrev TO:=St->Hp->(ke->Hp->Prop)->Prop
def PO(X:Cx)(e:Option Expr)(t:TO):Prop:=
 ∀(b:List<|Addr×Obj) (s:Shared) (O:St) (H:Hp) (Q:ke->Hp->Prop),Inv X b O H s->t O H Q ->
  wpAny (model X.prog X.w) X.A (evalPart e X.env) (λu c=>∃o a,Inv X b O a c/\IsPart u o/\Q o a) X.xe s
def zjv:TO:=λϊ H Q=>Q none H
def tPart(t:TE):TO:=λO H Q=>t O H λx a=>∃i,x=.int i/\Q ↑i a
section
variable {X:Cx}{e:Expr}{te:TE}{lo hi:Option Expr}{tl th:TO}{pos p2:Pos}
def zku:PO X none zjv:=by
 intro a s O H Q I h;exact Ñ {none,H,I,.none,h}
def zkt(h:PE X e te):PO X ↑e<|tPart te:=by
 intro d s O H Q I c;refine A4 (h d s O H _ I c) λu j g=>?_;let(x,a,b,r1,f):=g;let(i,rfl,q):=f;let(t,rfl):=r1;exact{↑i,a,b,.int i t,q}
def WM(X:Cx)(r:V->ke->ke->Hp->VK->Prop):Prop:=
 ∀(c:List<|Addr×Obj) (s:Shared) (O:St) (H:Hp) (x:V) (v vl e:Value) (b a:ke) (d:Addr) (Q:VK),Inv X c O H s->Ac x v->s.heap.IsSliceOf d vl e .none->IsPart vl b->IsPart e a->r x b a H Q ->
  ∃T id,typeLookup (.type T) "__getitem__"=pure (↑(.builtin id))/\s.TypeIs v T/\wpAny (model X.prog X.w) X.A (getItem v<|.ref d) (EP X c O Q) X.xe s
def tSl(r:V->ke->ke->Hp->VK->Prop)(d:TE)(e th:TO):TE:=λO H Q=>d O H λx a=>e O a λl b=>th O b λu c=>r x l u c Q
def Y8(w:WM X r)(o:PE X e te)(t:PO X lo tl)(z:PO X hi th):PE X (.Subscript e (.Slice lo hi none p2) pos)<|tSl r te tl th:=by
 intro a s O H Q I h;refine Subscript_<|A4 (o a s O H _ I h) λv D f=>?_
 let(x,i,j,r1,B):=f;refine wpAny_Slice<|A4 (t a D O i _ j B) λvl E ⟨l,H2,I2,pl,q2⟩=>A4 (z a E O H2 _ I2 q2) λd c f=>?_
 let(u,g,k,A,C):=f;refine Ñ ?_;have m:Inv X a O g { c with heap:=c.heap.push { cls:=.type "slice",data:=.fields #[vl,d,.none] } }:=k.kept λb ob q=>Ø _ q
 let(T,id,n,y,p):=w a { c with heap:=c.heap.push { cls:=.type "slice",data:=.fields #[vl,d,.none] } } O g x v vl d l u c.heap.objs.size Q m r1 (Heap.IsSliceOf.new ..) pl A C;exact tail_any y n p<|by rfl
def LW(xs:qA)(a b:ke):qA:=(xs.drop<|HT.sIx xs.length 0 a).take (HT.sIx xs.length xs.length b - HT.sIx xs.length 0 a)
def zdr(xs)(lo hi):(LW xs lo hi).length<=xs.length:=by
 unfold LW;grind
end
def CZ(n:Nat)(i:Int):Option Nat:=if 0<=i then (if i<n then ↑i.toNat else none) else if -(n:Int)<=i then ↑(i+n).toNat else none
def AZ{α:Type}(xs:List α)(i:Int):Option α:=(CZ xs.length i).bind λj=>xs[j]?
def Ky(h:CZ n i=↑j):seqIndex? i n=↑j/\j<n/\-n<=i/\i<n:=by
 unfold CZ at h;by_cases b:0<=i;rw[if_pos b]at h;by_cases a:i<n;rw[if_pos a]at h;have e :=Û h;exact{by rw[seqIndex_of b a,e],by lia,by lia,a}
 grind;rw[if_neg b]at h;by_cases a:-n<=i;rw[if_pos a]at h;have e :=Û h;exact{by rw[seqIndex_neg (by lia) a,e],by lia,a,by lia}
 grind
def WG(h:AZ xs i=↑v):∃j,seqIndex? i xs.length=↑j/\xs[j]?=↑v/\j<xs.length/\-xs.length<=i/\i<xs.length:=by
 unfold AZ at h;cases e:CZ xs.length i with
 |none=>grind|some j=>
  let(a,b,c,d):=Ky e;grind
def DC{j:Nat}{v}(h:xs[j]?=↑v):AZ xs j=↑v:=by
 have a :=(Î.mp h).1
 have e:CZ xs.length j=↑j:=by
  unfold CZ;grind
 unfold AZ;grind
def KH(b:Expr):Prop:=∀o i,subscripted b false o i=operate [o,i] (getItem o i)
def GY(X:Cx)(r:R2):Prop:=
 ∀(b a:Expr) (c:List<|Addr×Obj) (s:Shared) (O:St) (H:Hp) (x y:V) (v u:Value) (Q:VK),Inv X c O H s->Ac x v->Ac y u->r x y H Q ->
  subscripted a false v u=operate [v,u] (getItem v u)->wpAny (model X.prog X.w) X.A (subscriptTail b a v u) (EP X c O Q) X.xe s
def MtR(X:Cx)(id:String)(r:V->qA->Hp->VK->Prop):Prop:=
 ∀(a:List<|Addr×Obj) (s:Shared) (O:St) (H:Hp) (x:V) (xs:qA) (v:Value) (b:kc) (Q:VK),Inv X a O H s->Ac x v->Ag xs b->r x xs H Q ->
  wpAny (model X.prog X.w) X.A (call (.builtin id)<|v::b) (EP X a O Q) X.xe s
section
variable {X:Cx}{a b:Expr}{ta tb:TE}{pos:Pos}
def GY.or(h:GY X r)(g:GY X r'):GY X<|λx y H Q=>r x y H Q\/r' x y H Q:=by
 intro b a d s O H x y v u Q I e f q c;rcases q with q|q;exact h b a d s O H x y v u Q I e f q c;exact g b a d s O H x y v u Q I e f q c
def Mx(g:GY X r)(e:PE X a ta)(f:PE X b tb)(i:KH b):PE X (.Subscript a b pos)<|JF r ta tb:=by
 intro j s O H Q I h;exact Subscript_<|WB e f I h λv u m x y c d k l q=>g a b j m O c x y v u Q d k l q<|i _ _
def YZ(K:q9):R2:=λx y H Q=>∃p xs i v,x=.ref p/\y=.int i/\Ab K H p xs/\AZ xs i=↑v/\Q v H
def YX(K:q9):R2:=λx y H Q=>∃p xs i v,x=.ref p/\y=.int i/\CP K H p xs/\AZ xs i=↑v/\Q v H
def YY:R2:=λx y H Q=>∃z i c,x=.str z/\y=.int i/\z.length<=sizeLine/\AZ z.cps.toList i=↑c/\Q (.str {#[c]}) H
def eQ:GY X<|YZ X.K:=by
 intro g f D s O H x y v u Q I E F h m;let(p,xs,i,z,rfl,rfl,C,B,q):=h;cases E;let(t,rfl):=F;let(c,r,d,L):=I.list C;let(j,a,n,G,o,A):=WG B;let(w,k,e):=r.get n;have J:=r.length;have K:=Ku;have BK:EP X D O Q w s:={(z),H,I,e,q}
 by_cases l:0<=i
 have b :=by
  rw[seqIndex_of l A]at a;exact Û a
 exact item_listR d.isList l (by lia) (by rw[b];simpa using k) BK m
 have b:(i+c.toArray.size).toNat=j:=by
  rw[seqIndex_neg (by lia) o]at a;grind
 exact subscriptTail_builtinR d.isList.typeIs slot_list_getitem.lookup
  (wpAny_getItem_list_neg d.isList (by lia) (by rw[ð]<;>lia) (by lia) (by rw[b];simpa using k) {(rfl),BK}) m
def zq1:GY X<|YX X.K:=by
 intro c b m s O H x y v u Q I n o h k;let(p,xs,i,z,rfl,rfl,g,f,q):=h;cases n;let(t,rfl):=o;let(l,r,d,J):=I.tuple g;let(j,B,e,C,D,E):=WG f;let(w,A,a):=r.get e;have F:=r.length;have G:=Ku;have BK:EP X m O Q w s:={(z),H,I,a,q}
 exact subscriptTail_builtinR d.typeIs slot_tuple_getitem.lookup
  (getItem_tuple (j:=j) d (by lia) (by lia) (by grind) (by grind) {(rfl),BK}) k
def zq2:GY X YY:=by
 intro b a A s O H x y v u Q I m n h l;let(z,i,c,rfl,rfl,w,g,q):=h;let(t,rfl):=m;let(B,rfl):=n;let(j,d,o,p,e,f):=WG g;have k:z.cps.toList.length=z.length:=by simp[Str.length]
 rw[k]at d e f;have r:=Ku
 exact tail_any (Ĳ s z t) slot_str_getitem.lookup (getItem_str (by
  grind) (by grind) {.str {#[c]},H,I.tok _,{_,rfl},q}) l
def Y0(K:q9):R2:=λx y H Q=>YZ K x y H Q\/YX K x y H Q\/YY x y H Q
theorem zq3:GY X<|Y0 X.K:=eQ.or<|zq1.or zq2
def zee(a:kc)(n j )(u ):Obj.mapSeq (·.setIfInBounds j u) { cls:=.type "list",data:=.seq a.toArray n }={ cls:=.type "list",data:=.seq (a.set j u).toArray n }:=by
 simp[Obj.mapSeq]
def Inv.lst{a:List<|Addr×Obj}{O:St}{H:Hp}{s:Shared}{p:Addr}{xs:qA}(I:Inv X a O H s)(h:H p=↑(.lst xs)) :
  ∃(its:kc) (n:Nat),Ag xs its/\s.heap.get? p=↑{ cls:=.type "list",data:=.seq its.toArray n }/\xs.length<=sizeLine:=by
 let(z,its,n,r,e):=I.hok p _ h;grind
def Inv.lstUpd{O:St}     {c a:kc}   (I:Inv X pz O H s)(h:H p=↑(.lst xs))
  (i:s.heap.get? p=↑{ cls:=.type "list",data:=.seq c.toArray n }) (d:f { cls:=.type "list",data:=.seq c.toArray n }={ cls:=.type "list",data:=.seq a.toArray n' }) (r:Ag ys a) (j:ys.length<=sizeLine) (t:Nat) :
  Inv X pz O (upd H p<|.lst ys) { s with heap:=s.heap.update p f,toks:=t }:=by
 have e:(s.heap.update p f).get? p=↑{ cls:=.type "list",data:=.seq a.toArray n' }:=by
  rw[Ō f i (by rw[d]<;>rfl),d]
 refine I.write (by rw[h];trivial) (.inl rfl) (λb u g q=>(ĉ _ _<|Í g).trans q) {_,e} ?_;exact{(j),a,n',r,e}
def rSetL:V->V->V->Hp->(Hp->Prop)->Prop:=λo i v H Q=>∃p xs k j,o=.ref p/\i=.int k/\H p=↑(.lst xs)/\CZ xs.length k=↑j/\Q (upd H p<|.lst<|xs.set j v)
def Xj:WX X rSetL:=by
 intro F s O H o i v E D u Q I y x z h;let(p,xs,k,j,rfl,rfl,f,m,q):=h;cases y;let(t,rfl):=x;let(a,n,r,c,w):=I.lst f;let(b,A,g,l):=Ky m;have B:=r.length;have C:=Ku
 have d :=
  I.lstUpd f c (zee a n j u) (r.set z j) (by rw[Ī];exact w) s.toks
 by_cases e:0<=k
 have hk :=by
  rw[seqIndex_of e l]at b;exact Û b
 exact W.ki_setAt c e (by lia) (by grind) (by rw[hk];exact{_,d,q})
 have hk:(k+a.toArray.size).toNat=j:=by
  rw[seqIndex_neg (by lia) g]at b;grind
 exact W.ki_setBack c (by lia) (by grind) (by lia) (by rw[hk];exact{_,d,q})
def zc6(lo hi)(n):(sliceBounds lo hi none n).1=HT.sIx n 0 lo/\(sliceBounds lo hi none n).2.1=HT.sIx n n hi/\(sliceBounds lo hi none n).2.2=1:=by
 refine{?_,?_,rfl};cases lo with
 |none=>simp[sliceBounds,HT.sIx]|some i=>
  erw[sliceBounds,HT.sIx,Option.getD_none,Ä];grind
 cases hi with
 |none=>simp[sliceBounds,HT.sIx]|some i=>
  erw[sliceBounds,HT.sIx,Option.getD_none,Ä];grind
def zbt(a:kc)(lo hi):slicePick a.toArray lo hi none=((a.drop<|HT.sIx a.length 0 lo).take (HT.sIx a.length a.length hi - HT.sIx a.length 0 lo)).toArray:=by
 let(b,c,d):=zc6 lo hi a.toArray.size;unfold slicePick;rw[b,c,d];erw[sliceRange_one,pick_run]<;>rfl
def YW(K:q9):V->ke->ke->Hp->VK->Prop:=λx c b H Q=>∃a xs,x=.ref a/\Ab K H a xs/\∀p,H p=none->Q (.ref p) (upd H p<|.lst<|LW xs c b)
def zk1:WM X<|YW X.K:=by
 intro o s O H x v vl t d e p Q I n g l m h;let(a,xs,rfl,i,q):=h;cases n;let(k,r,f,j):=I.list i;have c:=r.length;refine{"list",_,slot_list_getitem.lookup,f.isList.typeIs,?_};refine wpAny_getItem_list_slice f.isList g l m .none (by simp) ?_<|by grind
 rw[zbt,<- c];refine{.ref s.heap.objs.size,_,I.laid (λb ob q=>Ø _ q) (Æ _) ?_,rfl,q _<|I.hok.fresh<|Æ _};exact{Ú (zdr xs d e) j,_,0,(r.drop<|HT.sIx xs.length 0 d).take (HT.sIx xs.length xs.length e - HT.sIx xs.length 0 d),æ _ rfl}
def zd5:C4 X (.type "list") (λxs H Q=>∃p ys,xs=[.ref p]/\(Ab X.K H p ys\/CP X.K H p ys)/\∀l,H l=none->Q (.ref l) (upd H l<|.lst ys)):=by
 intro w s O H xs y Q I r h;let(p,ys,rfl,i,q):=h;let(u,rfl,x):=Ft r;cases x
 have BK:∀(a ),Ag ys a->ys.length<=sizeLine->∀(c ) (d ),(∀b v,s.heap.get? b=↑v->c.get? b=↑v) ->
   c.get? s.heap.objs.size=↑{ cls:=.type "list",dict:=none,data:=.seq a.toArray d,slots:=#[] }->EP X w O Q (.ref s.heap.objs.size) { s with heap:=c }:=λa f j c d kp e=>
  {.ref s.heap.objs.size,_,I.laid kp (Æ _) (show DU X.prog X.w _ c _ (.lst ys) from{(j),a,d,f,e}),rfl,q _<|I.hok.fresh<|Æ _}
 rcases i with i|i;let(a,f,t,j):=I.list i;have g:=f.length;let(o,m,k,n,hd):=t.isList;exact call_list_seq p (.inl rfl) m k hd (λc d kp e=>BK a f j c d kp e)<|by grind
 let(a,f,t,j):=I.tuple i;have g:=f.length;let(o,m,k,n,hd):=t;exact call_list_seq p (.inr rfl) m k hd (λc d kp e=>BK a f j c d kp e)<|by grind
def Wy(K:q9)(T:String)(x:V)(H:Hp):Prop:=match x with
 |.str ϊ=>T="str"|.int ϊ=>T="int"|.ref p=>(T="list"/\∃xs,Ab K H p xs)\/(T="tuple"/\∃o,K.lookup p=↑o/\o.cls=.type "tuple"/\o.dict=none) \/
   (T="dict"/\((∃a,H p=↑(.dK a))\/∃a,H p=↑(.dT a)))\/(T="set"/\∃S n,H p=↑(.set S n))
 |ϊ=>False
def zn0{O:St}{x:V}(I:Inv X pz O H s)(r:Ac x v)(ty:Wy X.K T x H) :
  s.TypeIs v T/\∀a,v=.ref a->∃ob,s.heap.get? a=↑ob/\ob.dict=none:=by
 cases x with
 |str z=>let(t,rfl):=r;cases (ty);exact{Ĳ s z t,λϊ e=>nomatch e}
 |int i=>let(t,rfl):=r;cases (ty);exact{typeIs_int s i t,λϊ e=>nomatch e}
 |ref p=>
  cases r;rcases ty with ⟨rfl,xs,h⟩|⟨rfl,o,hk,g,hd⟩|⟨rfl,hk⟩|⟨rfl,S,n,hk⟩;let(j,_,f,_):=I.list h;refine{f.isList.typeIs,λa e=>?_};cases e;let(o,n,e,c,hd,_):=f;exact{(o),e,hd}
  refine{{o,I.kIn p o hk,g},λa e=>?_};cases e;exact{o,I.kIn _ o hk,hd}
  have z:∃o,s.heap.get? p=↑o/\o.ExactDict:=by
   rcases hk with ⟨d,hk⟩|⟨d,hk⟩;let(_,_,_,_,o,_,_,e,ex,_):=I.hok p _ hk;exact{(o),e,ex};let(_,_,_,_,o,_,_,e,ex,_):=I.hok p _ hk;exact{(o),e,ex}
  let(o,e,ex):=z;refine{{(o),e,ex.1},λa b=>?_};cases b;exact{(o),e,ex.2.1};let(o,_,_,_,e,ex,_):=I.hok p _ hk;refine{{(o),e,ex.1},λa b=>?_};cases b;exact{(o),e,ex.2.1}
 |_=>exact False.elim ty
def tBM(K:q9)(T:String)(r:V->qA->Hp->VK->Prop)(c:TE)(t:TA):TE:=λO H Q=>c O H λx a=>Wy K T x a/\t O a λxs b=>r x xs b Q
variable {o e:Expr}{es:kg}{to:TE}{t:TA}{name:Str}{apos cpos:Pos}{T id:String}{r:V->qA->Hp->VK->Prop}
def Kf(w:PlainAttrs T)(slot:Slot T name id)(f:typeOf (.builtin id)=pure (.type "method_descriptor"))(p:MtR X id r)(q:PE X o to)(n:PA X (e::es) t)
  (a:attributeBase o name X.env (eval o X.env)=eval o X.env)
  (c : ((backTo cpos<|starEach (e :: es) X.env).all (fun x => !x.1) && (backToKw cpos<|keywordEach [] X.env).all (fun x => x.1.isSome)
   && decide ((e::es).length+([]:List Keyword).length+(if ([]:List Keyword).isEmpty then 0 else 1)<30))=true:=by rfl)
  (b:(apos.endLine == cpos.line)=true) (u:starEach (e::es) X.env=(false,eval e X.env)::starEach es X.env) (d:(backTo cpos<|starEach es X.env).any (·.1)=false) :
  PE X (.Call (.Attribute o name apos) (e::es) [] cpos) (tBM X.K T r to t):=by
 intro g s O H Q I h;refine wpAny_Call_method_late a c b rfl<|A4 (q g s O H _ I h) λv z D=>?_
 let(x,k,i,r1,ty,y):=D;let(l,m):=zn0 i r1 ty;refine{T,id,w,slot,f,l,m,?_};have j:=n cpos g z O k _ i y;rw[u]at j ⊢;refine Calls.callWith_builtin (by grind)<|Calls.evalArgs_plain ?_
 exact A4 j λB A ⟨C,H2,I2,r2,q2⟩=>p g A O H2 x C v B Q I2 r1 r2 q2
end
def PH(X:Cx)(id:String)(r:V->qA->Hp->VK->Prop):Prop:=
 ∀(a:List<|Addr×Obj) (s:Shared) (O:St) (H:Hp) (x:V) (xs:qA) (v:Value) (b:kc) (Q:VK),Inv X a O H s->Ac x v->Ag xs b->r x xs H Q ->
  wpAny (model X.prog X.w) X.A (call (.builtin id)<|v::b) (EP X a O Q) X.xe s
def Ag.one:∀{x} {us},Ag [x] us->∃u,us=[u]/\Ac x u
 |_,_,.cons r .nil=>{_,rfl,r}
def Ag.rep(h:Ag xs us):∀k ,Ag (List.replicate k xs).flatten (List.replicate k us).flatten
 |0=>.nil|k+1=>by
  exact Ag.append h<|Ag.rep h k
def gE(its):∀(k) (acc:kc),
  List.foldl (λx1 x2=>x1++x2) acc.toArray (List.replicate k its.toArray)=(acc++(List.replicate k its).flatten).toArray
 |0,acc=>by simp|k+1,acc=>by
  have e:acc.toArray++its.toArray=(acc++its).toArray:=by simp
  have a:(acc++its)++(List.replicate k its).flatten=acc++(List.replicate (k+1) its).flatten:=by
   grind
  rw[<- a,<- gE its k<|acc++its,<- e,List.replicate_succ,List.foldl_cons]
section
variable {X:Cx}{pz:List<|Addr×Obj}{O:St}{H:Hp}{s:Shared}{l b:Addr}{xs ys zs:qA}
def Inv.lset{b a:kc}(I:Inv X pz O H s)(c:H l=↑(.lst xs))
  (e:s.heap.get? l=↑{ cls:=.type "list",data:=.seq b.toArray n }) (g:f b.toArray=a.toArray) (i:Ag ys a) (j:ys.length<=sizeLine) :
  Inv X pz O (upd H l<|.lst ys) { s with heap:=s.heap.update l<|Obj.mapSeq f,toks:=t' }:=by
 have q:=PySem.IsL.update e f;rw[g]at q;refine I.write (by rw[c];exact trivial) (.inl rfl) (λk u d h=>(ĉ s.heap (Obj.mapSeq f)<|Í d).trans h) {_,q} ?_;exact{j,a,_,i,q}
theorem Inv.lnew(I:Inv X pz O H s)(a:Ag ys its)(b:ys.length<=sizeLine) :
  Inv X pz O (upd H s.heap.objs.size<|.lst ys) { s with heap:=s.heap.push { cls:=.type "list",data:=.seq its.toArray },toks:=t' }:=
 I.laid (λϊ ϊ q=>Ø _ q) (Æ _) {b,its,0,a,æ _ rfl}
def Inv.fresh(I:Inv X pz O H s):H s.heap.objs.size=none:=I.hok.fresh<|Æ _
def Inv.lstM(I:Inv X pz O H s)(a:H l=↑(.lst xs)):xs.length<=sizeLine/\∃(its:kc) (n:Nat),Ag xs its/\xs.length=its.length/\s.heap.get? l=↑{ cls:=.type "list",data:=.seq its.toArray n }:=by
 let(z,its,n,r,e):=I.hok l _ a;exact{(z),its,n,r,r.length,e}
def bU(h:n<=sizeLine):Builtin.List.listTooLong n=false:=by
 exact Õ<|by lia
end
section
variable {X:Cx}
def zkj:V->qA->Hp->VK->Prop:=λx a H Q=>∃l xs y,x=.ref l/\a=[y]/\H l=↑(.lst xs)/\xs.length<sizeLine/\Q .non (upd H l<|.lst<|xs++[y])
def cJ:PH X "list.append" zkj:=by
 intro j s O H x m v k Q I f d h;let(l,xs,y,rfl,rfl,b,i,q):=h;cases f;let(u,rfl,c):=d.one;let(z,a,n,r,g,e):=I.lstM b;refine ń F.slot_list_append {_,e,rfl} F.entry_list_append (F.args_list_append_2 _ _) (PySem.list_append l a.toArray n u<|by grind) {e,?_}
 refine{.non,_,I.lset b e (by simp) (r.append<|.cons c .nil) ?_,rfl,q};grind
def zki:V->qA->Hp->VK->Prop:=λx c H Q=>∃l b xs a,x=.ref l/\c=[.ref b]/\H l=↑(.lst xs)/\H b=↑(.lst a)/\xs.length+a.length<=sizeLine/\Q .non (upd H l<|.lst<|xs++a)
def zfj:PH X "list.extend" zki:=by
 intro B s O H x D v C Q I w t h;let(l,b,xs,G,rfl,rfl,g,j,A,q):=h;cases w;let(u,rfl,p):=t.one;cases p;let(z,c,n,r,y,e):=I.lstM g;let(E,a,m,o,k,i):=I.lstM j;have f:c.toArray.size+a.toArray.size<=sizeLine:=by grind
 have d:¬ (!c.toArray.isEmpty && Builtin.List.listTooLong (c.toArray.size+a.toArray.size))=true:=by
  rw[bU f];simp
 refine ń F.slot_list_extend {_,e,rfl} F.entry_list_extend (F.args_list_extend_2 _ _)
  (AutoSeq1.list_extend_list_list_0 l c.toArray n b a.toArray m d (by lia)<|by lia) {e,i,?_}
 refine{.non,_,I.lset g e (by simp) (r.append o) ?_,rfl,q};grind
def rCat:R2:=λx y H Q=>∃l b xs a,x=.ref l/\y=.ref b/\H l=↑(.lst xs)/\H b=↑(.lst a)/\xs.length+a.length<=sizeLine/\∀p,H p=none->Q (.ref p) (upd H p<|.lst<|xs++a)
def zp0:Aj X (binaryOp .Add) rCat:=by
 intro A s O H x y v u Q I m o h;let(l,b,xs,C,rfl,rfl,i,g,t,q):=h;cases m;cases o;let(z,c,n,r,p,e):=I.lstM i;let(B,a,w,k,j,d):=I.lstM g;refine PySem.P.add_list e d ?_<|by grind
 have f:c.toArray++a.toArray=(c++a).toArray:=by simp
 rw[f];exact{.ref _,_,I.lnew (r.append k) (by grind),rfl,q _ I.fresh}
def rRep:R2:=λx y H Q=>∃l k xs,x=.ref l/\y=.int k/\H l=↑(.lst xs)/\-(2 ^ 63)<=k/\k<2 ^ 63/\xs.length * k.toNat<=sizeLine /\
 ∀p,H p=none->Q (.ref p) (upd H p<|.lst (List.replicate k.toNat xs).flatten)
def zlw{α:Type}(xs:List α)(k):(List.replicate k xs).flatten.length=k * xs.length:=by
 simp
def zow:Aj X (binaryOp .Mult) rRep:=by
 intro G s O H x y v u Q I B C h;let(l,k,xs,rfl,rfl,w,o,p,j,q):=h;cases B;let(t,rfl):=C;let(z,b,n,r,A,e):=I.lstM w;have g:b.toArray.size * k.toNat<=sizeLine:=by rw[ð,<- A];exact j
 have d:¬ b.toArray.size * k.toNat > (2 ^ 63 - 1) / 8:=by
  have:sizeLine<=(2 ^ 63 - 1) / 8:=by decide
  lia
 have f:¬ (!Builtin.List.listFitsIndex k)=true:=by
  rw[fitsIndex_both o p];exact ö
 have c:¬ Builtin.List.listTooLong (b.toArray.size * k.toNat)=true:=by
  rw[bU g];exact ö
 have i:List.foldl (λE x2=>E++x2) #[] (List.replicate (if b.toArray.isEmpty=true then 0 else k.toNat) b.toArray)=(List.replicate k.toNat b).flatten.toArray:=by
  have f0 :=λm=>by
   have:=gE b m [];rw[Ĺ]at this;exact this
  rw[f0];cases b with
  |nil=>simp|cons a J=>rw[if_neg<|by simp]
 refine wpAny_binaryOp_repeat_ref (by decide) {_,e,rfl} (λD=>typeIs_int D k t) noFill_list_mul F.fills_int_mul F.slot_int_rmul repeat_list F.slot_int_index.lookup
  (ń F.slot_int_rmul (typeIs_int s k t) F.entry_int_rmul (F.args_int_rmul_2 _ _) (int___rmul___int_list k t l b.toArray n)
   {e,rfl,{_,e,rfl},ń F.slot_list_mul {_,e,rfl} F.entry_list_mul (F.args_list_mul_2 _ _) (AutoListH.list___mul___list_int_3 l b.toArray n k t f d c) {e,?_}})
 rw[i];exact{.ref _,_,I.lnew (r.rep k.toNat) (by rw[zlw,Nat.mul_comm];exact j),rfl,q _ I.fresh}
variable {prog:Program}{w:World}{A:Around}{E:Value->Shared->Prop}{s:Shared}
end
section
variable {X:Cx}
end
end L2
namespace Att
open PySem PySem.W PySem.Calls PyProof.Rows
def zaw:∀(ns) (vs),WellAll P h vs (ns.map WData.int)->IntsAre vs ns:=by
 intro ns
 induction ns with
 |nil=>intro vs w;cases w;exact .nil|cons n ns c=>
  intro vs w;cases w with
  |cons a b=>cases a;exact .cons _ _<|c _ b
def zfa{l:OpenLaw}(t:l.most=↑n)
  (b:l.row.toRowW.claim.pre args=true) (g:WellAll P h vals args) :
  ∃a vs ns,vals=[Value.ref a]/\args=[WData.list<|ns.map WData.int]/\h.get? a=↑{ cls:=.type "list",data:=.seq vs.toArray }/\IntsAre vs ns/\ns.length<=n:=by
 have f :=(pre_splitW b).1;have o:l.pre.holds [] { args:=args }=true:=(pre_splitW b).2;let(d,r,rfl,j,k):=hasAllW_cons f;obtain rfl:=hasAllW_nil k;let(xs,rfl,m):=hasW_list j;let(ns,rfl):=items_int m
 have e:ns.length<=n:=by
  have i:(WTm.not<|.lt (.lit<|.int n)<|.len<|.arg 0).holds [] { args:=[.list<|ns.map .int] }=true:=by
   have i:=(holds_andW o).1;grind
  have s:=condW_of i<|w_not<|w_lt w_lit<|w_len_list<|w_arg rfl
  grind
 cases g with
 |cons q w2=>
  cases w2;cases q with
  |list p c=>exact{_,_,ns,rfl,rfl,p,zaw ns _ c,e}
def zfb(l:OpenLaw)(args):l.row.toRowW.claim.post args (.bool true) args=true:=
 postW_of
  (by rfl)
  (w_eq_bool (w_res rfl) w_lit) rfl
def attach_call{l:OpenLaw}
  (C:l.most=↑n) (i:d.params.defaults=[])
  (call : ∀ (w ) (s₀ s₁ ) (mg mb ) (fa ) (o ) (pm cd doc ) (a ) (vs ) (ns ),
   Ground q loose [] XP w s₀ mg mb s₁.heap->YP w s₁.heap ->
   s₁.heap.get? fa=↑o->o.data=.func (docDef d.name d.params d.body d.scope pm cd doc)->s₁.heap.CodeRec cd d.name->mg d.name=↑(.ref fa) ->
   s₁.heap.get? a=↑{ cls:=.type "list",data:=.seq vs.toArray }->IntsAre vs ns->ns.length<=n->s₁.gens=#[] ->
   codeAny (model l.prog w) callerA (.call (.ref fa) {[.ref a],[]}) (λr s'=>r=.ok (.ret<|.bool true)/\OldK s₁.heap s'.heap/\s'.os=s₁.os/\AllBare s'.gens) s₁) :
  WalkO q loose XP YP l.row.toRowW d [] (λf vs=>PySem.call f vs):=by
 intro w s₀ s₁ mg mb G τ fa o pm cd doc u kV D hd h p j z m t H g s F k A;obtain rfl:u=.none:=Dflts.none p i;obtain rfl:kV=.none:=Dflts.noKw p;let(a,vs,ns,rfl,rfl,e,b,c):=zfa C g k;refine enter_call<|ģ (call w s₀ s₁ mg mb fa o pm cd doc a vs ns G τ D (fd_plain hd) h j e b c z) λr s' E=>?_
 let(rfl,v,x,y):=E;exact{.inl {.bool true,.bool true,[],rfl,λϊ=>rfl,.bool true,zfb l _,λϊ=>{List.Pairwise.nil,λϊ B=>(nomatch B)}},v,x,y}
section
variable {prog:Program}{w:World}{A:Around}{E:Value->Shared->Prop}{s:Shared}{K:Frag}
end
end Att
namespace L2
open PySem PySem.Spec PyProof.Rows
def Wu:∀{vs} {ns},IntsAre vs ns->Ag (ns.map V.int) vs
 |_,_,.nil=>.nil|_,_,.cons n t h=>.cons {(t),rfl}<|Wu h
def PF(H:Hp):Prop:=∀b,H b=none\/∃o xs,H b=↑(.frz o<|.lst xs)
def zi8{K }   {k:Nat}   {x:Str}{sp:Sp}
  (I:K.In s₁.heap) (p:s₁.heap.Ns mainGlobals mg) (f:s₁.heap.Ns builtinsNs mb) (E:∀x:Str,x≠"__name__"->mb x=bootBuiltins x) (l:s₁.heap.NoLimit) (W:s₁.gens=#[])
  (ha:s₁.heap.get? a=↑{ cls:=.type "list",data:=.seq vs.toArray }) (hi:IntsAre vs ns) (hl:ns.length<=sizeLine) (hr:Room k callerA)
  (F:∀base:Heap,K.In base->base.Ns mainGlobals mg->FnOk P w K mg base CX k fa fd [x] sp) (hbind:∀(s:Shared) (u:Value),BindsTo s fd {[u],[]} [(x,u)])
  (hsp:∀H:Hp,PF H->Ab K H a (ns.map V.int)->sp [.ref a] H (λv ϊ=>v=.bl true) λϊ ϊ ϊ=>False)
  (hCX:∀H e s',CX [] H s₁ (λϊ ϊ ϊ=>False) e s'->False) :
  codeAny (model P w) callerA (.call (.ref fa) {[.ref a],[]}) (λr s'=>r=.ok (.ret<|.bool true)/\OldK s₁.heap s'.heap/\s'.os=s₁.os/\AllBare s'.gens) s₁:=by
 have N:=Wu hi;have y:=hi.length
 have i:∀H ,PF H->Ab K H a (ns.map V.int)->HOk P w H s₁.heap->(∀b,H b≠none->b=a)->(H a≠none->K.lookup a=none) ->
   codeAny (model P w) callerA (.call (.ref fa) {[.ref a],[]}) (λr s'=>r=.ok (.ret<|.bool true)/\OldK s₁.heap s'.heap/\s'.os=s₁.os/\AllBare s'.gens) s₁:=by
  intro H M U hok L S;have c:∀{b } {o },s₁.heap.get? b=↑o->H b=none->(Hi s₁.heap H).get? b=↑o:=λe n=>Ο e n
  have G:∀{b } {o } {C } {B },s₁.heap.get? b=↑o->o.data=.dict C B->H b=none:=λ{b o C B} e d=>by
   cases q:H b with
   |none=>rfl|some u=>
    have D :=L b (by rw[q];simp);subst D;rw[ha]at e;cases e;have O :=d;cases O
  have g:∀{b } {m },s₁.heap.Ns b m->(Hi s₁.heap H).Ns b m:=λ{b m} ⟨o,C,B,e,d,r⟩=>{o,C,B,c e<|G e d,d,r}
  have j :=λb o e=>c (I b o e) (by
   cases q:H b with
   |none=>rfl|some u=>
    have D :=L b (by rw[q];simp)
    subst D;rw[S (by rw[q];simp)]at e;cases e)
  have T:Mod K mg<|Hi s₁.heap H:={j,g p,{mb,g f,E},let ⟨mc,h1,h2⟩:=l;{mc,g h1,h2}};have Q:Env0 P w K mg (Hi s₁.heap H) callerA [] s₁ H:={rfl,T,λb o e=>Ρ e,Nat.le_of_eq<|Ξ _ _,trivial,λb f=>absurd (show b∈[] from f) (by simp),hok,.of_eq W}
  refine ģ ((F _ j<|g p).run callerA [] s₁ H {[.ref a],[]} [.ref a] [.ref a] _ _ hr Q (hbind s₁<|.ref a) (.cons rfl .nil) (hsp H M U)) λr s' h=>?_;cases r with
  |error e=>exact(hCX H e s' h).elim|ok fl=>
   cases fl with
   |next=>exact False.elim h|brk=>exact False.elim h|cont=>exact False.elim h|ret u=>
    let(v,H',os,bare,un,t,Y,q):=h;have X :=q;subst X;obtain rfl:u=Value.bool true:=Y;refine{rfl,OldK.of_keep λb o e=>?_,os,bare}
    cases q:H b with
    |none=>exact un.keep b o e q (by intro z;exact absurd (show b∈[] from z)<|by simp) (by simp)|some u=>
     rcases M b with z|⟨ob,xs,z⟩;rw[q]at z;cases z;have Z:=un.frzs b ob _ z;let(J,_):=hok b _ z;let(R,_):=t b _ Z;rw[e]at J;cases J;exact R
 cases hk:K.lookup a with
 |some o=>have e:=I a o hk;rw[ha]at e;cases e;refine i (λϊ=>none) (λϊ=>.inl rfl) (.inr {_,vs.toArray,_,hk,rfl,rfl,rfl,by rw[ð,y];exact hl,by simpa using N}) (λb u z=>by have A :=z;cases A) (λb z=>absurd rfl z) λz=>absurd rfl z|none=>
  refine i (λb=>if b=a then ↑(.frz { cls:=.type "list",data:=.seq vs.toArray }<|.lst<|ns.map V.int) else none) (λb=>?_) (.inl<|.inr {{ cls:=.type "list",data:=.seq vs.toArray },if_pos rfl}) (λb u z=>?_) (λb z=>?_) λϊ=>hk;by_cases f:b=a;exact .inr {_,_,if_pos f};exact .inl<|if_neg f
  by_cases f:b=a;have A:=(if_pos f).symm.trans z;cases A;subst f;exact{ha,by rw[À];exact hl,vs,_,N,ha};have A:=(if_neg f).symm.trans z;cases A;by_cases f:b=a;exact f;exact absurd (if_neg f) z
def walk_of{l:PySem.W.OpenLaw}{n k:Nat}     {d:DefRec}{K:Params->q9}{CX:World->G0}{sp:World->Sp}{x:Str}
  (L:l.most=↑n) (r:n<=sizeLine) (m:d.params.defaults=[]) (M:Room k callerA)
  (D:∀(w:World) (h:Heap),YP w h->(K w.params).In h)
  (F : ∀ (w : World) (mg ) (fa : Addr) (h : Heap), (K w.params).In h -> h.Ns mainGlobals mg -> mg d.name = ↑(.ref fa) ->
   ∃fd:FuncData,(∀(s:Shared) (u:Value),BindsTo s fd {[u],[]} [(x,u)]) /\
    ∀base:Heap,(K w.params).In base->base.Ns mainGlobals mg->FnOk l.prog w (K w.params) mg base (CX w) k fa fd [x] (sp w))
  (t:∀(w:World) (H:Hp) (a:Addr) (ns:kj),ns.length<=n->PF H->Ab (K w.params) H a (ns.map V.int)->sp w [.ref a] H (λv ϊ=>v=.bl true) λϊ ϊ ϊ=>False)
  (j:∀(w:World) (H:Hp) (s:Shared) (e:Value) (s':Shared),CX w [] H s (λϊ ϊ ϊ=>False) e s'->False) :
  PySem.W.WalkO q loose XP YP l.row.toRowW d [] (λf vs=>PySem.call f vs):=by
 refine Att.attach_call L m λw s₀ i mg O fa o P cd z a vs ns G τ N hd I p g c b J=>?_;have y:=D w _ τ;let(fd,E,A):=F w mg fa _ y G.T.g p;exact zi8 y G.T.g G.T.b G.T.builtins G.T.nolimit J g c (Ú b r) M A E (λH B C=>t w H a ns b B C) λH e s'=>j w H i e s'
def OI(s:Stmt):Arguments:=match s with
 |.FunctionDef ϊ a ϋ ό ύ ώ Ϗ ϐ ϑ ϒ=>a|ϊ=>{ posonlyargs:=[],args:=[],vararg:=none,kwonlyargs:=[],kw_defaults:=[],kwarg:=none,defaults:=[] }
def Hn(s:Stmt):kh:=match s with
 |.FunctionDef ϊ ϋ b ό ύ ώ Ϗ ϐ ϑ ϒ=>b|ϊ=>[]
def Dg(s:Stmt):Scope:=match s with
 |.FunctionDef ϊ ϋ ό ύ ώ Ϗ a ϐ ϑ ϒ=>a|ϊ=>{ kind:=.function,names:=[],isGenerator:=false,isCoroutine:=false }
abbrev MB:G0:=λϊ ϊ ϊ ϊ ϊ ϊ=>False
abbrev E0:XK:=λϊ ϊ ϊ=>False
section
variable {P:Program}{w:World}{K:q9}{mg:Str->Option Value}{base:Heap}
variable {X:Cx}
end
def LA{A B:Prop}(h:B):if false=true then A else B:=by
 grind
def Kz{A B:Prop}(h:A):if true=true then A else B:=by
 rw[if_pos rfl];exact h
def Aa(H H':Hp):Prop:=∀b o,H b=↑o->H' b=↑o
theorem Aa.refl(H:Hp):Aa H H:=λϊ ϊ h=>h
theorem Aa.trans(a:Aa H H1)(b:Aa H1 H2):Aa H H2:=λc o h=>b c o<|a c o h
def Aa.seq{K}(e:Aa H H')(h:Ab K H a xs):Ab K H' a xs:=by
 rcases h with (h|⟨o,h⟩)|h;exact .inl<|.inl<|e _ _ h
 exact .inl<|.inr {o,e _ _ h}
 exact .inr h
section
variable {κ:Type} [DecidableEq κ]
def E3(a:List<|κ×V)(k:κ):Option V:=(a.find? λb=>decide (b.1=k)).map (·.2)
def E5(a:List<|κ×V)(k:κ)(v:V):List<|κ×V:=
 if (a.any λb=>decide (b.1=k))=true then a.map (λb=>if b.1=k then (b.1,v) else b) else a++[(k,v)]
def MR{k:κ}(e:p.1=k):E3 (p::r) k=↑p.2:=by simp[E3,e]
def MS{k:κ}(e:¬ p.1=k):E3 (p::r) k=E3 r k:=by simp[E3,e]
def Wv(k:κ):∀kvs ,(kvs.any λkv=>decide (kv.1=k))=(E3 kvs k).isSome
 |[]=>rfl|p::r=>by
  rw[Į];by_cases e:p.1=k;erw[MR e,Ç e,Bool.true_or,Option.isSome_some];rw[MS e,Õ e];exact Wv k r
def dY(kvs)(k:κ)(v):(E5 kvs k v).length<=kvs.length+1:=by
 unfold E5;grind
def EY.isSome_eq(r:EY o u):o.isSome=u.isSome:=by
 cases o with
 |none=>cases u with
  |none=>rfl|some ϊ=>exact(r).elim
 |some ϊ=>cases u with
  |none=>exact(r).elim|some ϊ=>rfl
def KV.val(r:KV kvs vs)(k:κ):EY (E3 kvs k)<|valueAt vs k:=by
 induction r with
 |nil=>exact True.intro|@cons p q ps c h t g=>
  let(d,f):=h;by_cases e:p.1=k;have a :=d.symm.trans e;have b:valueAt (q::c) k=↑q.2:=by simp[valueAt,a]
  rw[MR e,b];exact f;have a:¬ q.1=k:=λz=>e<|d.trans z
  have b:valueAt (q::c) k=valueAt c k:=by simp[valueAt,a]
  rw[MS e,b];exact g
def KV.any(r:KV kvs vs)(k:κ):(kvs.any λkv=>decide (kv.1=k))=vs.any λkv=>decide (kv.1=k):=by
 induction r with
 |nil=>rfl|cons h t a=>grind
def KV.repl(r:KV kvs vs)(k:κ)(c:Ac y u) :
  KV (kvs.map λkv=>if kv.1=k then (kv.1,y) else kv) (vs.map λkv=>if kv.1=k then (kv.1,u) else kv):=by
 induction r with
 |nil=>exact .nil|@cons p q ps b h t a=>
  refine .cons ?_ a;grind
def KV.put(r:KV kvs vs)(k:κ)(a:Ac y u):KV (E5 kvs k y)<|stored vs k u:=by
 unfold E5 stored;rw[r.any k];by_cases e:(vs.any λb=>decide (b.1=k))=true;rw[if_pos e,if_pos e];exact r.repl k a;rw[if_neg e,if_neg e];exact Paired.snoc r {(rfl),a}
def KV.length{a:List<|κ×V}(r:KV a vs):a.length=vs.length:=Ŕ r
end
def UY(r:Ac (kV k) u):(Dq P w).is k u=true:=by
 cases k with
 |inl i=>let(t,e):=(r);subst e;exact Μ P w i t
 |inr x=>let(t,e):=(r);subst e;exact Ν P w x t
def e7:∀{ks} {us},Ag (ks.map kV) us->ItemsAre (Dq P w) ks us
 |[],ϊ,r=>by cases r;exact .nil|k::ks,ϊ,r=>by
  cases r with
  |cons h t=>exact .cons (UY h)<|e7 t
abbrev KT(H:Hp):List (List Key×V)->List (List Key×Addr×Value)->Prop:=Paired λp q=>p.1=q.1/\H q.2.1=↑(.tup<|p.1.map kV)/\Ac p.2 q.2.2
def KT.val(r:KT H kvs xs)(k):EY (E3 kvs k) ((atKey xs k).map (·.2)):=by
 induction r with
 |nil=>exact True.intro|@cons p q ps c h t g=>
  let(d,_,f):=h;by_cases e:p.1=k;have a :=d.symm.trans e;have b:atKey (q::c) k=↑q.2:=by simp[atKey,a]
  rw[MR e,b];exact f;have a:¬ q.1=k:=λz=>e<|d.trans z
  have b:atKey (q::c) k=atKey c k:=by simp[atKey,a]
  rw[MS e,b];exact g
def KT.repl(r:KT H kvs xs)(k)(c:Ac y u) :
  KT H (kvs.map λkv=>if kv.1=k then (kv.1,y) else kv) (xs.map<|putAt k u):=by
 induction r with
 |nil=>exact .nil|@cons p q ps b h t a=>
  refine .cons ?_ a;unfold putAt;grind
def KT.put{H:Hp}(r:KT H kvs xs)(k:List Key){y:V}(c:H b=↑(.tup<|k.map kV))(a:Ac y u) :
  KT H (E5 kvs k y) (storedH xs k b u):=by
 have e:(kvs.any λd=>decide (d.1=k))=(atKey xs k).isSome:=by
  rw[Wv,(r.val k).isSome_eq,Option.isSome_map]
 unfold E5 storedH;rw[e];by_cases q:(atKey xs k).isSome=true;rw[if_pos q,if_pos q];exact r.repl k a;rw[if_neg q,if_neg q];exact Paired.snoc r {(rfl),c,a}
theorem KT.keeps(r:KT H kvs xs)(a:∀b ys,H b=↑(.tup ys)->H' b=↑(.tup ys)):KT H' kvs xs:=
 Paired.mapP r λϊ ϊ z=>{z.1,a _ _ z.2.1,z.2.2}
section
variable {P:Program}{w:World}{H:Hp}{h:Heap}{a:Addr}
theorem YH{u:HO}(ok:HOk P w H h)(e:Rd H a u):DU P w H h a u:=e.ok ok
theorem jX(ok:HOk P w H h)(e:Rd H a<|.dK kvs):kvs.length<=sizeLine/\(a == sysModules)=false/\∃vs,KV kvs vs/\h.DictOf (Dq P w) a vs:=
 YH ok e
theorem jY(ok:HOk P w H h)(e:H a=↑(.dK kvs)):kvs.length<=sizeLine/\(a == sysModules)=false/\∃vs,KV kvs vs/\h.DictOf (Dq P w) a vs:=jX ok<|.inl e
def UX(ok:HOk P w H h)(e:H a=↑(.tup<|ks.map kV)):(tupleKind<|Dq P w).is h ks a:=by
 let(_,b,r,o,c,d,n,f):=(ok a _ e);exact{o,b.toArray,n,c,d,f,by simpa using e7 r}
def jV(ok:HOk P w H h)(e:Rd H a<|.dT kvs):kvs.length<=sizeLine/\(a == sysModules)=false /\
  ∃xs,KT H kvs xs/\h.DictOfH (tupleKind<|Dq P w) a xs:=by
 let(z,y,xs,r,o,d,c,f,g,i,j,k):=(YH ok e);refine{z,y,xs,r,o,d,c,f,g,i,j,λx b=>?_,k}
 have all:∀{l } {m },KT H l m->∀x∈m,(tupleKind<|Dq P w).is h x.1 x.2.1:=by
  intro l m q
  induction q with
  |nil=>simp|@cons p q ps u n t s=>
   intro x b;rcases(Ì.mp b) with e|b;exact UX ok<|by grind
   grind
 grind
theorem dt_of(ok:HOk P w H h)(e:H a=↑(.dT kvs)):kvs.length<=sizeLine/\(a == sysModules)=false /\
  ∃xs,KT H kvs xs/\h.DictOfH (tupleKind<|Dq P w) a xs:=jV ok<|.inl e
end
def PQ(H:Hp)(a:Addr)(y:V)(r:Option V):Prop:=
 (∃c k,Rd H a (.dK c)/\y=kV k/\r=E3 c k)\/∃c k b,Rd H a (.dT c)/\y=.ref b/\H b=↑(.tup<|k.map kV)/\r=E3 c k
def PN(H:Hp)(a:Addr)(y v:V)(H':Hp):Prop:=
 (∃c k,H a=↑(.dK c)/\y=kV k/\c.length<sizeLine/\H'=upd H a (.dK<|E5 c k v)) \/
 ∃c k b,H a=↑(.dT c)/\y=.ref b/\H b=↑(.tup<|k.map kV)/\c.length<sizeLine/\H'=upd H a (.dT<|E5 c k v)
theorem PQ.k{k}(e:H a=↑(.dK kvs)):PQ H a (kV k)<|E3 kvs k:=.inl {kvs,k,.inl e,rfl,rfl}
theorem PN.k{k}(e:H a=↑(.dK kvs))(b:kvs.length<sizeLine):PN H a (kV k) v<|upd H a<|.dK<|E5 kvs k v:=.inl {(kvs),k,e,rfl,b,rfl}
section
variable {X:Cx}{pz:List<|Addr×Obj}{O:St}{H:Hp}{s:Shared}{a:Addr}{y v:V}{u r:Value}{o:Option V}{A:Around}{E:Value->Shared->Prop}
def Inv.big(I:Inv X pz O H s):sysModules<s.heap.objs.size:=by
 have h :=(I.mod.glob.keeps I.bk).lt;exact į (by decide) h
def zgg(r:A.units+1<cLine)(I:Inv X pz O H s)(g:PQ H a y ↑v)(o:Ac y u)(h:∀w' s',Inv X pz O H s'->Ac v w'->Q w' s') :
  wpAny (model X.prog X.w) A (getItem (.ref a) u) Q E s:=by
 rcases g with ⟨n,k,e,i,l⟩|⟨n,k,b,e,i,eb,l⟩;subst i;let(z,hd,t,c,f):=jX I.hok e;let(w',m,d):=EY.some_of (by rw[l];exact c.val k)
 exact wpAny_getItem_of (UY o) f.mapOf m<|h w' _ (I.tok _) d
 subst i;cases (o);let(z,hd,xs,c,f):=jV I.hok e;let(w',m,d):=EY.some_of (by rw[l];exact c.val k)
 let(p,q,j):=Ý.mp m;refine wpAny_getItem_heap (tupleKind_room_in1 r) (UX I.hok eb) f q ?_;rw[j];exact h w' _ (I.tok _) d
theorem j5(I:Inv X pz O H s)(mu:Lw<|H a)(e:Heap.SameBut a s.heap h')(d:∃q,h'.get? a=↑q)(new:DU X.prog X.w (upd H a ob) h' a ob) :
  Inv X pz O (upd H a ob) { s with heap:=h',toks:=t' }:=
 I.write mu (.inl rfl) (λb q c z=>(e.2 b c).trans z) d new
theorem zqk(z:kvs.length<=sizeLine)(hd:(a == sysModules)=false)(b:KV kvs vs)(dd:h'.DictOf (Dq P w) a vs) :
  DU P w H' h' a (.dK kvs):={(z),hd,vs,b,dd}
def zgf(N:A.units+1<cLine)(I:Inv X pz O H s)(g:PN H a y v H')(C:Ac y u)(B:Ac v r)(h:∀s',Inv X pz O H' s'->Q () s') :
  wpAny (model X.prog X.w) A (setItem (.ref a) u r) Q E s:=by
 rcases g with ⟨d,k,e,o,l,n⟩|⟨d,k,b,e,o,eb,l,n⟩;subst o n;let(z,hd,R,f,m):=jY I.hok e;have P:R.length<=sizeLine:=by rw[<- f.length];exact z
 have p:(E5 d k v).length<=sizeLine:=by have:=dY d k v;lia
 refine wpAny_setItem_pairs (UY C) m λx i t=>h _ ?_;have M:∃q,x.get? a=↑q:=let ⟨q,_,_,j,_⟩:=i;{(q),j};exact j5 I (by rw[e];exact True.intro) t M<|zqk p hd (f.put k B) i
 subst o n;cases (C);let(z,hd,xs,f,m):=dt_of I.hok e;have P:xs.length<=sizeLine:=by rw[<- Ŕ f];exact z
 have p:(E5 d k v).length<=sizeLine:=by have:=dY d k v;lia
 refine wpAny_setItem_heap (tupleKind_room_in1 N) (UX I.hok eb) m λx i t=>h _ ?_;let(q,F,D,j,G,J,K,_,L):=i;refine j5 I (by rw[e];exact True.intro) t {(q),j} {p,hd,_,(f.put k eb B).keeps λc S w=>?_,q,F,D,j,G,J,K,L};rw[BB<|ne_of w e<|λz=>nomatch z];exact w
variable {kvs:List<|Key×V}{k:Key}
end
section
variable {X:Cx}{o i e value:Expr}{pos pos' tpos:Pos}{td ty tv:TE}
end
theorem zj1(h:Heap)(a:sysModules<h.objs.size):DU P w H (h.push { cls:=.type "dict",data:=.dict #[]}) h.objs.size<|.dK []:=
 {é _,beq_eq_false_iff_ne.mpr<|Í<|Ô a,[],.nil,Heap.DictOf.new h}
section
variable {X:Cx}{pos:Pos}
variable {pz:List<|Addr×Obj}{O:St}{H:Hp}{s:Shared}{a:Addr}{y d:V}{u r:Value}{o:Option V}{A:Around}{E:Value->Shared->Prop}
end
section
variable {X:Cx}{o e f:Expr}{apos cpos:Pos}{td ty tx:TE}
variable {pz:List<|Addr×Obj}{O:St}{H:Hp}{s:Shared}{a:Addr}{kvs:List<|Key×V}{A:Around}{E:Value->Shared->Prop}
end
section
variable {X:Cx}{pz:List<|Addr×Obj}{O:St}{H:Hp}{s:Shared}{a:Addr}{y:V}{u:Value}{A:Around}{E:Value->Shared->Prop}
end
end L2
namespace Zm
def zix(a b):Int.gcd b (a.fmod b)=Int.gcd a b:=by
 rw[Int.fmod_def,Int.gcd_comm a b];simp
def fmod_less(a:Int)(h:b≠0):(a.fmod b).natAbs<b.natAbs:=by
 rcases Int.lt_or_gt_of_ne h with c|c;have e:a.fmod b=-((-a).fmod (-b)):=by rw[Int.neg_fmod_neg,Int.neg_neg]
 have d:=ü (-a)<|show 0 < -b by lia
 have f:=Ě (-a)<|show 0 < -b by lia
 lia;have d:=ü a c;have f:=Ě a c
 lia
def gd(a b:Int):Int:=(Int.gcd a b:Nat)
def gd_end(d:gd a b=gd a0 b0)(c:b=0):(if a<0 then -a else a)=gd a0 b0:=by
 subst c;rw[<- d];unfold gd;rw[Int.gcd_zero_right];lia
def gd_turn(c:gd a b=gd a0 b0):gd b (a.fmod b)=gd a0 b0:=by
 rw[<- c];unfold gd;rw[zix]
def gd_pos{a b:Int}(h:b≠0):0<gd a b:=by
 unfold gd;simp_all
def gd_le(h:0<b):gd a b<=b:=by
 exact Int.le_of_dvd h<|Int.gcd_dvd_right a b
def lt(t b:Int):Int:=t.fdiv<|gd t b
def lb(t b:Int):Int:=b.fdiv<|gd t b
def jL{x g:Int}(a:g≠0)(h:g ∣ x):x.fdiv g * g=x:=by
 rw[þ];exact Int.mul_fdiv_cancel' h
def lt_mul(h:b≠0):lt t b * gd t b=t:=by
 exact jL (by have:=gd_pos (a:=t) h;lia)<|Int.gcd_dvd_left t b
def lb_mul(h:b≠0):lb t b * gd t b=b:=by
 exact jL (by have:=gd_pos (a:=t) h;lia)<|Int.gcd_dvd_right t b
def lb_pos(h:0<b):0<lb t b:=by
 have d:=lb_mul (t:=t)<|show b≠0 by lia
 have c:=gd_pos (a:=t)<|show b≠0 by lia
 rcases Ł 0 (lb t b) with q|q;exact q;have:=Ε q<|Ē c
 lia
def zf2{x g:Int}(h:0<g):x.natAbs<=(x * g).natAbs:=by
 rw[Int.natAbs_mul];exact Nat.le_mul_of_pos_right _<|by lia
def lb_le(h:0<b):lb t b<=b:=by
 have c:=lb_mul (t:=t)<|show b≠0 by lia
 have d:=zf2 (x:=lb t b)<|gd_pos (a:=t)<|show b≠0 by lia
 grind
def gd_low(h:b≠0):gd (lt t b) (lb t b)=1:=by
 have d:=gd_pos (a:=t) h;unfold lt lb gd;have c:0<Int.gcd t b:=by unfold gd at d;lia
 have e:=Int.gcd_ediv_gcd_ediv_gcd c;rw[Ŝ _<|Ű _,Ŝ _<|Ű _,e];rfl
end Zm
namespace Zw
open PySem PySem.Spec PyProof.Rows L2
def Sm(i:Int):Prop:=-(10 ^ 70)<i/\i<10 ^ 70
def Sm.nat{i:Int}(h:Sm i):i.natAbs<10 ^ 70:=by
 unfold Sm at h;lia
def zof:10 ^ 70<=2 ^ 300:=by decide +kernel
def Sm.log(h:Sm i):i.natAbs.log2<300:=by
 by_cases z:i.natAbs=0;simp_all;exact(Nat.log2_lt z).mpr (Ü h.nat zof)
def Sm.bits(h:Sm i):Builtin.Int.intBits i<=2 ^ 20:=by
 have q:=h.log;unfold Builtin.Int.intBits;grind
section
variable {X:Cx}
theorem zl5:Aj X (binaryOp .Mult)<|rI (λi j=>Sm i/\Sm j) λi j=>.int<|i * j:=JT λϊ ϊ ϊ ϊ ϊ ϊ ϊ a q=>mul_int q<|.of_bits a.1.bits a.2.bits
theorem zhx:Aj X (binaryOp .FloorDiv)<|rI (λϊ j=>j≠0/\Sm j) λi j=>.int<|i.fdiv j:=
 JT λϊ ϊ ϊ ϊ ϊ ϊ ϊ a q=>floordiv_int a.1 q<|.inl<|PyProof.noPylong_of_log2<|į a.2.log<|by decide
def fB(r:Ac x v):PySem.plainIs v (.bool b)=true/\(v == Value.bool b)=decide (x=V.bl b):=by
 cases x with
 |non=>cases r;exact{rfl,by simp}|bl c=>cases r;exact{rfl,by grind}|int i=>let(t,rfl):=r;exact{rfl,by simp}
 |str i=>let(t,rfl):=r;exact{rfl,by simp}
 |byt i=>let(t,rfl):=r;exact{rfl,by simp}
 |flt i=>let(t,rfl):=r;exact{rfl,by simp}
 |ref i=>cases r;exact{rfl,by simp}|ty i=>cases r;exact{rfl,by simp}
def zoz:Aj X (compareOp .Is) (λx y H Q=>∃b,y=.bl b/\Q (.bl<|decide (x=.bl b)) H):=by
 intro f s O H x y v u Q I d e h;let(b,rfl,q):=h;cases e;let(a,c):=fB d;exact wpAny_is_plain a<|LP I q c.symm
def zl4:Aj X (compareOp .IsNot) (λx y H Q=>∃b,y=.bl b/\Q (.bl<|!decide (x=.bl b)) H):=by
 intro f s O H x y v u Q I d e h;let(b,rfl,q):=h;cases e;let(a,c):=fB d;exact wpAny_isNot_plain a<|LP I q<|by rw[c]
def zjj:C4 X (.builtin "isinstance") (λxs H Q=>∃x t b,xs=[x,.ty c]/\TyOf X.K H x t/\W.kitOne X.K t (.type c)=↑b/\Q (.bl b) H):=by
 intro f s O H xs g Q I r h;let(x,t,b,rfl,ty,e,q):=h;let(u,i,rfl,a,d):=Hy r;cases d;exact U1 I a ty e λtk=>{.bl b,H,I.tok _,rfl,q}
variable {pos:Pos}
end
section
variable {X:Cx}
end
def zda:W.kitMeta "int"=true:=by decide +kernel
def zca:W.kitMeta "bool"=true:=by decide +kernel
def zbu:W.kitMeta "tuple"=true:=by decide +kernel
def zi9(K)(c):W.kitOne K (.type c) (.type c)=↑true:=by
 unfold W.kitOne;simp
def zpv(K){l:kc}(h:t≠c)(d:W.kitMeta c=true)(a:(fastBuiltinMro t).map (·.contains (Value.type c))=↑b):W.kitOne K (.type t) (.type c)=↑b:=by
 unfold W.kitOne;rw[if_neg<|by simpa using h];show(if W.kitMeta c=true then W.subIn K (.type t) (.type c) else none)=↑b;rw[if_pos d];exact a
structure FunD(K:q9)(x qual:Str)(st:Stmt)(f:Addr)(fd:FuncData):Prop where
 ex:∃(oc:Value) (od:Option Addr) (dV kV doc pm:Value) (an:Option Addr) (cdv ct:Value) (osl:Array<|Option Value),
  fd=W.fnOf x qual (OI st) (Hn st) (Dg st) dV kV doc pm an cdv ct/\K.lookup f=↑{oc,od,.func fd,osl}/\W.codeIn K cdv qual=true
 kp:W.keepIn K (.ref f)=true
theorem zmb{K}{st}{dV kV doc pm cdv ct}(l:K.lookup f=↑{oc,od,.func<|W.fnOf x qual (OI st) (Hn st) (Dg st) dV kV doc pm an cdv ct,osl})
  (c:W.codeIn K cdv qual=true) (k:W.keepIn K (.ref f)=true):FunD K x qual st f<|W.fnOf x qual (OI st) (Hn st) (Dg st) dV kV doc pm an cdv ct:={{(oc),od,dV,kV,doc,pm,an,cdv,ct,osl,rfl,l,c},k}
structure Tx(K:q9)(mg:Str->Option Value)(x:Str)(st:Stmt)(ps:ki) where
 f:Addr
 fd:FuncData
 F:FunD K x x st f fd
 m:mg x=↑(.ref f)
 b:DF K fd ps []
section
variable {X:Cx}{k j:Nat}{x:Str}{ps:ki}{sp:Sp}{p pos:Pos}{e:Expr}{es:kg}{t:TA}
end
theorem Mh(h:H p=none)(o):Aa H<|upd H p o:=λb u q=>by
 rw[BB<|DK q h];exact q
def zqn(X:Cx)(a:Scope)(cl:List<|Str×Addr)(b:ki)(C:Addr)(s₀:Shared)(H₀:Hp)(ex:List Addr):Cx:=
 { X with N:=b,s₀:=s₀,H₀:=H₀,env:=compEnvC a cl C X.env,outer:=X.stack,ex:=ex,fn:=λϊ=>false,xe:=λϊ ϊ=>False }
theorem HOk.adopt(x:HOk P w H h)(f:H a=none)(new:DU P w (upd H a o) h a o):HOk P w (upd H a o) h:=λb u e=>by
 by_cases d:b=a;subst d;rw[Cn]at e;grind;rw[BB d]at e;exact(x b u e).stay (λc v ϊ q=>q) (λc q=>by rw[BB<|DK q f];exact q) λc xs q=>by rw[BB<|DK q f];exact q
section
variable {X:Cx}{elt iter tg:Expr}{scope:Scope}{pos:Pos}{cl:List<|Str×Addr}{N':ki}{wi:TI}{g:TG}{te:TE}
end
end Zw
namespace Zx
open PySem PySem.Spec PyProof.Rows L2 Zw
def O3(h B:Heap)(a:Addr)(b:Value×Option Addr)(fl:Value):Prop:=
 ∃oe c T oT d,h.get? a=↑oe/\((oe.cls,oe.dict)=b/\c[2]?=↑.none)/\oe.data=.fields c/\c[1]?=↑(.ref T)/\B.get? T=none/\T≠a/\h.get? T=↑oT/\oT.data=.fields d/\d[3]?=↑fl
def Fs(B:Heap)(l:List Env)(a:Addr)(b:Value×Option Addr)(h:Heap):Prop:=B.StaysIn h/\B.get? a=none/\h.FunFrames B l/\O3 h B a b .none
def W6(B:Heap)(l:List Env)(a:Addr)(b:Value×Option Addr)(L:Addr)(h:Heap):Prop:=B.StaysIn h/\B.get? a=none/\h.FunFrames B l/\O3 h B a b (rawInt L)
def Fs.first(x:Fs B l a cls h):∃oe vs,h.get? a=↑oe/\(oe.cls,oe.dict)=cls/\oe.data=.fields vs/\vs[2]?=↑.none:=
 let ⟨_,_,_,oe,vs,_,_,_,he,hc,hd,_⟩:=x;{(oe),vs,he,hc.1,hd,hc.2}
def Fs.there(x:Fs B l a cls h):∃ob,h.get? a=↑ob/\ob.cls=cls.1:=
 let ⟨oe,_,he,hc,_⟩:=x.first;{oe,he,congrArg Prod.fst hc}
def zfl(f)(o):((Obj.mapFields f o).cls,(Obj.mapFields f o).dict)=(o.cls,o.dict):=by
 unfold Obj.mapFields;split<;>rfl
section
variable {M:Model}{A:Around}{E:Value->Shared->Prop}{s:Shared}{B:Heap}{env v:Env}{l:List Env}{L a:Addr}{cls:Value×Option Addr}{Q:Unit->Shared->Prop}
def jR(m:A.frames=↑(v::l))(i:s.heap.FunFrames B<|v::l)(F:v.frame=↑L)(k:s.heap.get? a=↑oe)(hk:B.StaysIn s.heap)(w:B.get? a=none)
  (hd:oe.data=.fields vs) (g:1<vs.size) (D:vs[2]?=↑.none) (h:∀h',W6 B (v::l) a (oe.cls,oe.dict) L h'->s.heap.UpToSlots h'->Q () { s with heap:=h' }) :
  wpAny M A (do let f <- frameOf v;let pl <- entryPlaceOf L hn;let b <- EntryCells.newEntry head f .none (rawInt L) .none pl;setField (.ref a) 1 b) Q E s:=by
 have r:a∉(v::l).filterMap (·.frame):=λz=>by
  let(_,o,x,n):=i.mem z;rw[k]at x;cases x;exact n vs hd
 refine Â<|wpAny_frameOf_fun m i F λc p=>?_
 refine Â<|wpAny_entryPlaceOf λpl e=>?_
 unfold EntryCells.newEntry newFields;refine Â<|ſ ?_<|e.sizeOk5 _ _ _ _ _;have j :=(p.2.1 a r).trans k;have u:B.StaysIn c:=λb o q=>(p.2.1 b λz=>by rw[(i.mem z).1]at q;cases q).trans (hk b o q)
 have ne :=Nat.ne_of_gt<|É j;refine ŗ (Ø _ j) hd g ?_;have d:=ŏ hd (·.setIfInBounds 1 (Value.ref c.objs.size));have kp:∀nw b o,b≠a->c.get? b=↑o->((c.push nw).update a (Obj.mapFields (·.setIfInBounds 1 (Value.ref c.objs.size)))).get? b=↑o:=λnw b o n q=>(ĉ _ _<|Í n).trans (Ø _ q)
 have nr:∀b o,s.heap.get? b=↑o->(∀ws,o.data≠.fields ws)->b≠a:=λb o q n z=>by
  rw[z,k]at q;cases q;exact n vs hd
 have C:∀nw,s.heap.UpToSlots ((c.push nw).update a (Obj.mapFields (·.setIfInBounds 1 (Value.ref c.objs.size)))):=λnw b o q n=>by
  let(y,t):=p.2.2 b o q;exact{y,kp nw b _ (nr b o q n) t}
 refine h _ {λb o q=>kp _ b o (λz=>by rw[z,w]at q;cases q)<|u b o q,w,i.of_keeps λb o q n=>?_,_,_,c.objs.size,_,_,Ō _ (Ø _ j)<|ŧ d,{by rw[zfl],?_},d,by simp[g],u.fresh,ne,
  (ĉ _ _<|Í ne).trans (æ c rfl),rfl,?_}<|C _
 let(y,t):=C _ b o q n;exact{_,t,rfl};rw[Array.getElem?_setIfInBounds_ne<|by decide];exact D
 .first|(simp;done)|(rcases e with rfl|⟨_,_,_,_,_,_,_,rfl⟩<;>simp)
def jG(hk:B.StaysIn s.heap)(m:B.get? a=none)(t:s.heap.FunFrames B l)(u:O3 s.heap B a cls fl)(h:∀h',Fs B l a cls h'->s.heap.UpToSlots h'->Q () { s with heap:=h' }):wpAny M A (setFlight (.ref a) none) Q E s:=by
 let(oe,v,T,oT,j,g,r,hd,g1,nT,d,e,dT,k):=u;have i:3<j.size:=(Ĵ.mp k).1;have c:∀b,b≠T->(s.heap.update T (Obj.mapFields (·.setIfInBounds 3 ((none:Option Addr).elim Value.none λf=>rawInt f)))).get? b=s.heap.get? b:=λb p=>ĉ _ _<|Í p
 have nr:∀b o,s.heap.get? b=↑o->(∀ws,o.data≠.fields ws)->b≠T:=λb o q n z=>by
  rw[z,e]at q;cases q;exact n j dT
 unfold setFlight;refine Â<|ĕ g hd g1 ?_;rw[if_pos<|by simp]
 exact ŗ e dT i (h _ {λb o q=>(c b λz=>by rw[z,nT]at q;cases q).trans (hk b o q),m,t.of_keeps λb o q n=>{o,(c b<|nr b o q n).trans q,rfl},
  oe,v,T,_,_,(c a<|Í d).trans g,r,hd,g1,nT,d,Ō _ e<|ŧ<|ŏ dT _,ŏ dT _,by simp[i]} λb o q n=>{o.slots,(c b<|nr b o q n).trans q})
theorem UT(hh:W6 B l a cls L s.heap)(b:∀h',Fs B l a cls h'->s.heap.UpToSlots h'->Q () { s with heap:=h' }):wpAny M A (setFlight (.ref a) none) Q E s:=
 jG hh.1 hh.2.1 hh.2.2.1 hh.2.2.2 b
theorem zqx(hh:Fs B l a cls s.heap)(b:∀h',Fs B l a cls h'->s.heap.UpToSlots h'->Q () { s with heap:=h' }):wpAny M A (setFlight (.ref a) none) Q E s:=
 jG hh.1 hh.2.1 hh.2.2.1 hh.2.2.2 b
structure MadeO(h h':Heap)(a:Addr)(cls:Value×Option Addr):Prop where
 keeps:∀b o,h.get? b=↑o->h'.get? b=↑o
 new:h.get? a=none
 there:∃oe t,h'.get? a=↑oe/\(oe.cls,oe.dict)=cls/\oe.data=.fields #[.ref t,.none,.none,.none,.bool false,.none]
theorem madeO(b:Heap.MadeExcOf h h' a c args):MadeO h h' a (c,none):=
 {b.keeps,b.new,let ⟨t,he,_,_⟩:=b.there;{_,t,he,rfl,rfl}}
def madeX(d:A.frames=↑(v::l))(i:v.frame=↑L)(hk:B.StaysIn h)(n:h.FunFrames B<|v::l)(c:MadeO h s.heap a cls)
  (m:∀h',Fs B l a cls h'->s.heap.UpToSlots h'->Q () { s with heap:=h' }):wpAny M A (leaving v<|.ref a) Q E s:=by
 let(oe,t,j,rfl,hd):=c.there
 have fr:B.get? a=none:=by
  cases q:B.get? a with
  |none=>rfl|some o=>have:=hk a o q;rw[c.new]at this;cases this
 unfold leaving noteFrame;erw[i];refine Â<|Â<|ĕ j hd rfl ?_;refine jR d (n.of_keeps λb o q ϊ=>{o,c.keeps b o q,rfl}) i j (λb o q=>c.keeps b o<|hk b o q) fr hd (by simp) rfl λw e u=>UT e λk f g=>?_
 let(e,f,(_,_,p),r):=f;exact m k {(e),f,p,r}<|u.trans g
end
def PM(B:Heap)(l:List Env)(a:Addr)(b:Value×Option Addr)(h:Heap):Prop:=∃fl,B.StaysIn h/\B.get? a=none/\h.FunFrames B l/\O3 h B a b fl
theorem jF(x:Fs B l a cls h):PM B l a cls h:={.none,x}
section
variable {M:Model}{A:Around}{E:Value->Shared->Prop}{s:Shared}{B:Heap}{env v:Env}{l:List Env}{L a:Addr}{cls:Value×Option Addr}{Q:Unit->Shared->Prop}
def Sa(q:A.frames=↑(v::l))(w:env.frame=v.frame)(p:v.frame=↑L)(x:PM B (v::l) a cls s.heap)(r:∀h',W6 B (v::l) a cls L h'->s.heap.UpToSlots h'->Q () { s with heap:=h' }):wpAny M A (noteFrame (.ref a) env) Q E s:=by
 have en:noteFrame (.ref a) env=noteFrame (.ref a) v:=by
  unfold noteFrame PySem.frameOf;rw[w]
 rw[en];let(fl,f1,f2,f3,f4):=x
 by_cases g:fl=rawInt L;subst g;let(oe,ws,h,oT,t,j,_,hd,g1,_,_,f,dT,i):=id f4;unfold noteFrame;erw[p];refine Â<|ĕ j hd g1 ?_;rw[if_pos<|by simp]
 refine Â<|ĕ f dT i ?_;rw[if_pos<|by simp]
 exact Ñ<|r _ {(f1),f2,f3,f4}<|.refl _
 let(oe,ws,h,oT,t,j,(rfl,u),hd,g1,nT,m,f,dT,i):=f4;have n:=(Ĵ.mp i).1;have d:∀b,b≠h->(s.heap.update h (Obj.mapFields (·.setIfInBounds 3 Value.none))).get? b=s.heap.get? b:=λb c=>ĉ _ _<|Í c
 have nr:∀b o,s.heap.get? b=↑o->(∀C,o.data≠.fields C)->b≠h:=λb o c e z=>by
  rw[z,f]at c;cases c;exact e t dT
 unfold noteFrame;erw[p];refine Â<|ĕ j hd g1 ?_;rw[if_pos<|by simp]
 refine Â<|ĕ f dT i ?_;rw[if_neg<|λz=>g<|beq_iff_eq.mp z]
 refine Â<|ŗ f dT n ?_;refine jR q (f3.of_keeps λb o c e=>{o,(d b<|nr b o c e).trans c,rfl}) p ((d a<|Í m).trans j) (λb o c=>(d b λz=>by rw[z,nT]at c;cases c).trans (f1 b o c)) f2 hd (Ĵ.mp g1).1 u λh' k y=>?_
 exact r h' k λb o c e=>y b o ((d b<|nr b o c e).trans c) e
def leavX(b:A.frames=↑(v::l))(f:v.frame=↑L)(i:PM B (v::l) a cls s.heap)(g:∀h',Fs B l a cls h'->s.heap.UpToSlots h'->Q () { s with heap:=h' }):wpAny M A (leaving v<|.ref a) Q E s:=by
 refine Â<|Sa b rfl f i λo hh c=>UT hh λe h d=>?_
 let(j,k,(_,_,m),n):=h;exact g e {(j),k,m,n}<|c.trans d
end
def Dh(P:Program)(w:World):G0:=λouter H s E e d=>∃(a:Addr) (c:Value×Option Addr) (f:Hp) (B:Heap),
 e=.ref a/\d.os=s.os/\AllBare d.gens/\Un (Bc outer) [] H f s.heap d.heap/\HOk P w f B/\(∀b o,s.heap.get? b=↑o->H b=none->b∉Bc outer->B.get? b=↑o) /\
 (∀b o,s.heap.get? b=↑o->b∉Bc outer->∃g,B.get? b=↑g)/\PM B outer a c d.heap/\E c.1 c.2 f
def Ca(X:Cx)(E:L2.St->XK):Prop:=∀(b:List<|Addr×Obj) (O:L2.St) (H:Hp) (s:Shared) (e:Value) (a:Shared),Inv X b O H s->Dh X.prog X.w X.stack H s (E O) e a->X.xe e a
def WY(X:Cx)(E:L2.St->XK):Prop:=∀(d:List<|Addr×Obj) (O:L2.St) (H:Hp) (s:Shared) (a:Addr) (b:Value) (e:kc) (c:Heap),Inv X d O H s->Heap.MadeExcOf s.heap c a b e->E O b none H->X.xe (.ref a) { s with heap:=c }
section
variable {X:Cx}{pz:List<|Addr×Obj}{O:L2.St}{H:Hp}{s:Shared}
theorem NJ(I:Inv X pz O H s)(e:X.s₀.heap.get? b=↑o)(a:b∉Bc X.outer):b∉Bc X.stack:=λz=>by
 rcases Ì.mp (I.stkSub b z) with q|q;exact absurd (Ü (É e) I.ok.above) (by rw[q];exact ã _);exact a q
def zf8(a:X.stack=X.env::X.outer)(e:b∈Bc X.outer):b∈Bc X.stack:=by
 rw[a];let(v,c,d):=ĸ.mp e;exact ĸ.mpr {v,Ê _ c,d}
theorem zqa(I:Inv X pz O H s):HOk X.prog X.w H<|W.hideAll s.heap<|Bc X.stack:=λb u e=>(I.hok b u e).stay (λc v a q=>Ĩ _ q λz=>by
  have f:=I.stkFree c z
  grind) (λϊ q=>q) λϊ ϊ q=>q
def made_ok(h:X.stack=X.env::X.outer)(x:X.env.frame=↑X.env.locals)(hex:X.ex=[])       (I:Inv X pz O H s)(k:Heap.MadeExcOf s.heap h' a cls vs)(w:E cls none H) :
  wpAny (model X.prog X.w) X.A (leaving X.env<|.ref a) (λϊ s2=>Dh X.prog X.w X.outer X.H₀ X.s₀ E (.ref a) s2) Ex { s with heap:=h' }:=by
 have d:∀b ,b∉X.ex:=λb z=>by grind
 have i :=h▸I.ok.frames
 have p:s.heap.FunFrames (W.hideAll s.heap<|Bc X.stack)<|X.env::X.outer:=by
  rw[<- h];exact W.funFrames_hide I.stack λv y b c=>ĸ.mpr {(v),y,c}
 refine madeX i x (λb o q=>ķ _ q) p (madeO k) λu fl A=>?_;have l :=λb o e n c=>Ĩ _ (I.base.keep b o e n c<|d b)<|NJ I e c
 have tB:∀b o,X.s₀.heap.get? b=↑o->b∉Bc X.outer->∃f,(W.hideAll s.heap<|Bc X.stack).get? b=↑f:=λb o e c=>by
  let(f,r):=I.base.there b o e<|d b;exact{f,Ĩ _ r<|NJ I e c}
 have m:∀b o,X.s₀.heap.get? b=↑o->X.H₀ b=none->b∈Bc X.outer->∃z,u.get? b=↑{ o with slots:=z }:=λb o e n c=>by
  let(z,j):=I.base.slot b o e n c<|d b;let(_,o2,g,hd):=I.funs.mem c;rw[j]at g;cases g;let(B,t):=A b { o with slots:=z } (k.keeps b _ j) hd
  exact{(B),t}
 refine{a,(cls,none),H,_,rfl,I.os,I.bare,{λb o e n c ϊ=>fl.1 b o<|l b o e n c,λb o e n c ϊ=>m b o e n c,λb o e n ϊ=>I.base.free b o e n<|d b,λb o e ϊ=>?_,I.base.tups,I.base.frzs,I.base.tbls},zqa I,l,tB,jF fl,w};by_cases c:b∈Bc X.outer;let(z,q):=m b o e (I.ok.frf b c) c;exact{_,q};let(f,q):=tB b o e c;exact{f,fl.1 b f q}
def zl2(g:X.stack=X.env::X.outer)(G:X.env.frame=↑X.env.locals)(hex:X.ex=[])     (I:Inv X pz O H s)(h:Dh X.prog X.w X.stack H s E e s') :
  wpAny (model X.prog X.w) X.A (leaving X.env e) (λϊ s2=>Dh X.prog X.w X.outer X.H₀ X.s₀ E e s2) Ex s':=by
 let(a,k,A,B,rfl,os,bare,un,hok,v,w,p,F):=h;have d:∀b ,b∉X.ex:=λb z=>by rw[hex]at z;cases z
 have t :=g▸I.ok.frames;have r :=g▸p;refine leavX t G r λD fl J=>?_
 have x :=λb o e n c=>v b o (I.base.keep b o e n c<|d b) (I.base.free b o e n<|d b)<|NJ I e c
 have tB:∀b o,X.s₀.heap.get? b=↑o->b∉Bc X.outer->∃f,B.get? b=↑f:=λb o e c=>by
  let(f,l):=I.base.there b o e<|d b;exact w b f l<|NJ I e c
 have y:∀b o,X.s₀.heap.get? b=↑o->X.H₀ b=none->b∈Bc X.outer->∃z,D.get? b=↑{ o with slots:=z }:=λb o e n c=>by
  let(z,j):=I.base.slot b o e n c<|d b;let(_,o2,i,hd):=I.funs.mem c;rw[j]at i;cases i;let(K,m):=un.slot b { o with slots:=z } j (I.base.free b o e n<|d b) (zf8 g c)<|by simp
  let(L,C):=J b { o with slots:=K } m hd;exact{(L),C}
 refine{a,k,A,B,rfl,os.trans I.os,bare,{λb o e n c ϊ=>fl.1 b o<|x b o e n c,λb o e n c ϊ=>y b o e n c,λb o e n ϊ=>?_,λb o e ϊ=>?_,λb xs e=>un.tups b xs<|I.base.tups b xs e,λb o u e=>un.frzs b o u<|I.base.frzs b o u e,λb ps e=>?_},hok,x,tB,jF fl,F};let(f,l):=I.base.there b o e<|d b;exact un.free b f l (I.base.free b o e n<|d b)<|by simp
 by_cases c:b∈Bc X.outer;let(z,q):=y b o e (I.ok.frf b c) c;exact{_,q};let(f,q):=tB b o e c;exact{f,fl.1 b f q};let(m1,j):=I.base.tbls b ps e;let(m2,m):=un.tbls b _ j;exact{m1++m2,m.trans<|by rw[Array.append_assoc]}
end
section
variable {P:Program}{w:World}{K:q9}{mg:Str->Option Value}{base:Heap}
theorem Yg:Ca (GL (Dh P w) P w K mg base N qual sc f cd A outer s H E)<|λϊ=>E:=
 λϊ ϊ ϊ ϊ ϊ ϊ I h=>zl2 rfl rfl rfl I h
theorem cZ:WY (GL (Dh P w) P w K mg base N qual sc f cd A outer s H E)<|λϊ=>E:=
 λϊ ϊ ϊ ϊ ϊ ϊ ϊ ϊ I b a=>made_ok rfl rfl rfl I b a
def Yp{st }      (F:FunD K x qual st f fd)(S:FnScope N ps<|Dg st)(len:∀vs H Q E,sp vs H Q E->vs.length=ps.length)
  (a : ∀ (cdv ) (A ) (outer ) (s ) (H ) (vs ) (Q ) (E ), Room k (A.deeper<|envOfC qual (Dg st) s.heap.objs.size f cdv) -> sp vs H Q E ->
   ∃t,B9 (GL (Dh P w) P w K mg base N qual (Dg st) f cdv A outer s H E) (Hn st) t/\t { nx:=λϊ H'=>Q .non H',rt:=Q } (start N vs) H):FnOk P w K mg base (Dh P w) (k+1) f fd ps sp:=by
 let(j,l,i,kV,d,m,h,cdv,ct,g,rfl,lk,b):=F.ex;exact fn_of lk b S len λA outer s H vs Q E e c=>a cdv A outer s H vs Q E e c
end
structure DefX(P:Program)(w:World)(K:q9)(mg:Str->Option Value)(base:Heap)(k:Nat)(x:Str)(ps:ki)(sp:Sp) where
 f:Addr
 fd:FuncData
 ok:FnOk P w K mg base (Dh P w) k f fd ps sp
 m:mg x=↑(.ref f)
 kp:W.keepIn K (.ref f)=true
 b:DF K fd ps []
structure DefsX(K:q9)(fd:FuncData)(ps:ki)(dvs:qA):Prop where
 ex:∃ds,DF K fd ps ds/\Ag dvs ds
section
variable {X:Cx}{k j:Nat}{f:Addr}{fd:FuncData}{x:Str}{ps:ki}{sp:Sp}{p pos:Pos}{e:Expr}{es:kg}{t:TA}{E:L2.St->XK}{dvs:qA}
def Mm{O:L2.St}      (F:FnOk X.prog X.w X.K X.mg X.base (Dh X.prog X.w) k f fd ps sp)(e:Room k X.A)(c:DF X.K fd ps ds)(hd:Ag dvs ds)(g:Ca X E)
  (I:Inv X pz O H s) (r:Ag vs us) (h:sp (vs++dvs) H Q<|E O):wpAny (model X.prog X.w) X.A (call (.ref f) us) (EP X pz O Q) X.xe s:=by
 have b :=r.append hd;have d :=b.length.symm.trans<|F.len _ _ _ _ h;refine Ņ<|ģ (F.run X.A X.stack s H {us,[]} (us++ds) (vs++dvs) Q (E O) e I.env0 (c s us I.kIn d) b h) λr i a=>?_
 cases r with
 |error v=>exact g pz O H s v i I a|ok fl=>
  cases fl with
  |ret u=>exact I.after a|_=>exact False.elim a
def QF(sp:Sp)(dvs:qA)(E:L2.St->XK)(t:TA):TE:=λO H Q=>t O H λb a=>sp (b++dvs) a Q<|E O
def px(D:DefX X.prog X.w X.K X.mg X.base k x ps sp)(g:Room j X.A)(i:Ca X E)(c:PA X (e::es) t)(hk:k<=j)(f:Gl X x)(a:(x == "__debug__")=false)
  (d:starEach (e::es) X.env=(false,eval e X.env)::starEach es X.env) (b:(backTo pos<|starEach es X.env).any (·.1)=false):PE X (.Call (.Name x p) (e::es) [] pos)<|QF sp [] E t:=by
 intro l s O H Q I h;refine ı<|J7 I f D.m ?_ a;refine Ő I.ok.mod.kin D.kp (A4 (c pos l s O H _ I h) λn m ⟨o,H1,I1,r,q⟩=>{I1.kIn,?_}) d b
 exact Mm D.ok (g.mono hk) D.b .nil i I1 r q
def pxd(D:DefX X.prog X.w X.K X.mg X.base k x ps sp)(c:DefsX X.K D.fd ps dvs)(l:Room j X.A)(m:Ca X E)(d:PA X (e::es) t)(hk:k<=j)(i:Gl X x)(a:(x == "__debug__")=false)
  (g:starEach (e::es) X.env=(false,eval e X.env)::starEach es X.env) (b:(backTo pos<|starEach es X.env).any (·.1)=false):PE X (.Call (.Name x p) (e::es) [] pos)<|QF sp dvs E t:=by
 intro n s O H Q I h;let(ds,f,hd):=c.ex;refine ı<|J7 I i D.m ?_ a;refine Ő I.ok.mod.kin D.kp (A4 (d pos n s O H _ I h) λu o ⟨v,H1,I1,r,q⟩=>{I1.kIn,?_}) g b
 exact Mm D.ok (l.mono hk) f hd m I1 r q
end
abbrev Pp:kc:=[.type "ValueError",.type "Exception",.type "BaseException",.type "object"]
def SF:Value->Bool
 |.type s=>s == "type"|ϊ=>false
def SH:Data->Option ClassData
 |.cls k=>↑k|ϊ=>none
def SG:Value->Option Addr
 |.ref D=>↑D|ϊ=>none
def SI:Value->Bool
 |.builtin n=>n == "ValueError.__new__"|ϊ=>false
def LU(K:q9)(C:Addr):Bool:=match K.lookup C with
 |some o=>(match SH o.data with
  |some k=>SF o.cls && (o.slots.toList.length == 6 && ((o.slots.toList.getD 4 none).elim false SI && (!k.hasDel && (k.mro.head?.bind SG == ↑C && (W.tailIn K Pp k.mro.tail && W.nsOkIn K k.ns)))))|none=>false)
 |none=>false
def Eb(K:q9)(C:Addr):Option<|Option Value:=(W.clsIn K C).bind λk=>W.nsIn K k.ns "__init__"
structure ExcK(K:q9)(C:Addr):Prop where
 q:LU K C=true
 self:W.subIn K (.ref C) (.ref C)=↑true
 cd:∃cd,W.clsIn K C=↑cd
 ty:W.typeIn K (.ref C)=↑(.type "type")
 ga:W.findIn K (.ref C) "__getattribute__"=↑(↑(.builtin "BaseException.__getattribute__"))
 gt:W.findIn K (.ref C) "__getattr__"=↑none
 ca:W.findIn K (.ref C) "__class__"=↑(↑(.builtin "object.__class__"))
 ob:W.mroIn K C (.type "object")=↑true
 be:W.mroIn K C (.type "BaseException")=↑true
 gs:W.specialIn K (.builtin "object.__class__") "__get__"=↑(↑(.builtin "getset_descriptor.__get__"))
 tk:W.takesIn K (.builtin "object.__class__")=↑true
structure ECls(K:q9)(mg:Str->Option Value)(x:Str) where
 C:Addr
 m:mg x=↑(.ref C)
 k:ExcK K C
def znp{c:Value}(h:SF c=true):c=.type "type":=by
 cases c<;>first|exact congrArg _ (eq_of_beq h)|cases h
def znr{d:Data}{k:ClassData}(h:SH d=↑k):d=.cls k:=by
 cases d<;>cases h;rfl
def znq{l:kc}{C:Addr}(h:l.head?.bind SG=↑C):∃bm,l=.ref C::bm:=by
 cases l with
 |nil=>cases h|cons w bm=>refine{bm,congrArg (·::bm) ?_};cases w<;>cases h;rfl
def zns{o:Option Value}(h:o.elim false SI=true):o=↑(.builtin "ValueError.__new__"):=by
 cases o with
 |none=>cases h|some v=>cases v<;>first|exact congrArg (λn=>↑(Value.builtin n)) (eq_of_beq h)|cases h
def six{l:List<|Option Value}(h:l.length=6):l=[l.getD 0 none,l.getD 1 none,l.getD 2 none,l.getD 3 none,l.getD 4 none,l.getD 5 none]:=by
 let(a,l,rfl):=Ĥ h;let(b,l,rfl):=Ĥ<|ò h;let(c,l,rfl):=Ĥ<|ò<|ò h;have h:l.length=3:=ò<|ò<|ò h;let(d,l,rfl):=Ĥ h;let(e,l,rfl):=Ĥ<|ò h;let(f,l,rfl):=Ĥ<|ò<|ò h;rw[List.eq_nil_of_length_eq_zero<|ò<|ò<|ò h]
 rfl
def zmd{K:q9}{C:Addr}(q:LU K C=true):∃c dd sl k,K.lookup C=↑{c,dd,.cls k,sl}/\SF c=true/\sl.toList.length=6/\(sl.toList.getD 4 none).elim false SI=true/\k.hasDel=false/\k.mro.head?.bind SG=↑C/\W.tailIn K Pp k.mro.tail=true/\W.nsOkIn K k.ns=true:=by
 unfold LU at q;cases a:K.lookup C with
 |none=>rw[a]at q;exact absurd q ö|some o=>
  rw[a]at q;let(c,dd,b,sl):=o;dsimp only at q;cases hk:SH b with
  |none=>rw[hk]at q;exact absurd q ö|some k=>rw[hk]at q;cases znr hk;erw[Å,Ė,ĺ]at q;exact{(c),dd,sl,k,rfl,q}
def jN{K}(X:K.In h)(q:LU K C=true):∃(k:ClassData) (bm:kc) (dd:Option Addr) (f:Nat->Option Value) (mN:Str->Option Value),h.get? C=↑(excClassObj k.name k.qualname C k.ns k.bases bm k.hasDict k.slotNames k.subclasses k.abstract k.collection dd (f 0) (f 1) (f 2) (f 3) (f 5) "ValueError.__new__")/\h.Ns k.ns mN/\(W.clsIn K C=↑k/\k.mro=.ref C::bm)/\OwnTail h Pp bm:=by
 let(c,dd,a,k,e,l,m,n,o,p,g,hok):=zmd q;let(bm,b):=znq p
 have j:a=#[a.toList.getD 0 none,a.toList.getD 1 none,a.toList.getD 2 none,a.toList.getD 3 none,↑(.builtin "ValueError.__new__"),a.toList.getD 5 none]:=by
  rw[<- zns n];exact congrArg List.toArray<|six m
 have d:h.get? C=↑{c,dd,.cls {(k.name),k.bases,k.mro,k.ns,k.qualname,k.hasDict,k.slotNames,k.subclasses,k.abstract,k.collection,k.hasDel},a}:=X _ _ e;rw[znp l,b,o,j]at d;rw[b]at g;exact{k,bm,dd,λi=>a.toList.getD i none,_,d,.of_isNs<|W.isNs_of_in X hok,{by unfold W.clsIn;rw[e],b},W.tail_of_in X g}
def zie{K}(X:K.In h)(G:h.Ns N mN)(a:W.clsIn K C=↑cd)(b:cd.ns=N)(q:Eb K C=↑none):mN "__init__"=none:=by
 unfold Eb at q;rw[a]at q;subst b;exact W.ns_none_of X G q
section
variable {X:Cx}{x:Str}{p cpos pos:Pos}{e:Expr}{es:kg}{t:TA}{E:L2.St->XK}
def zn4(C:Addr)(E:L2.St->XK)(t:TA):TS:=λϊ O H=>t O H λb a=>b.length<=sizeLine/\E O (.ref C) none a
def zhr(T:ECls X.K X.mg x)(b:Eb X.K T.C=↑none)(w:X.calm=true)(C:WY X E)(v:PA X (e::es) t)(A:Gl X x)(f:(x == ("__debug__":Str))=false)
  (y:starEach (e::es) X.env=(false,eval e X.env)::starEach es X.env) (i:(backTo cpos<|starEach (e::es) X.env).any (·.1)=false) :
  PS X (.Raise (↑(.Call (.Name x p) (e::es) [] cpos)) none pos) (zn4 T.C E t):=by
 intro n s O H D I h;let(cd,J,k,c,K,u,m,(d,_),j):=jN I.mod.kin T.k.q;have g:=zie I.mod.kin m d rfl b
 refine wpAny_Raise_call_subT (nm:=cd.name) (q:=cd.qualname) (N:=cd.ns) (bs:=cd.bases) (hdct:=cd.hasDict) (sn:=cd.slotNames) (sub:=cd.subclasses) (ab:=cd.abstract) (col:=cd.collection) (dd:=k) (k0:=c 0) (k1:=c 1) (k2:=c 2) (k3:=c 3) (k5:=c 5)
  ŝ (j.hasType ŝ.hasBase) (I.ok.hd w) i g (J7 I A T.m {rfl,?_} f)
 have l:=v cpos n s O H _ I h;rw[y]at l ⊢;exact Calls.evalArgs_plain<|A4 l λG F ⟨L,H1,I1,r,z,q1⟩=>{rfl,r.length▸z,I1.bk _ _ u,m.keeps I1.bk,j.keeps I1.bk,λo a B=>C n O H1 F a _ G o I1 B q1}
end
def IsX(H:Hp)(a C:Addr):Prop:=∃ob,H a=↑(.frz ob<|.own 0)/\ob.cls=.ref C/\∃b,ob.data=.fields b/\b[2]?=↑.none
def PL(H:Hp)(a C:Addr)(c:Option Addr):Prop:=∃ob,H a=↑(.frz ob<|.own 0)/\(ob.cls,ob.dict)=(.ref C,c)/\∃b,ob.data=.fields b/\b[2]?=↑.none
theorem PL.of(x:PL H a C dx)(e:∀u,H a=↑u->F a=↑u):PL F a C dx:=
 let ⟨ob,y,r⟩:=x;{ob,e _ y,r}
section
variable {K:q9}{a C:Addr}
variable {X:Cx}
end
abbrev FY(X:Cx)(a:List<|Addr×Obj)(xe:Value->Shared->Prop):Cx:={ X with pn:=X.pn++a,xe:=xe }
abbrev LV(X:Cx)(a:Addr):Cx:={ X with A:=X.A.mark<|↑(.ref a),calm:=false,xe:=λϊ ϊ=>False }
section
variable {X:Cx}{pz:List<|Addr×Obj}{O:L2.St}{H:Hp}{s:Shared}{xe:Value->Shared->Prop}
theorem zp7(ok:X.Ok):(FY X pz xe).Ok:={(ok.mod),ok.kind,ok.glob,ok.blt,ok.above,ok.inj,ok.has,ok.cab,ok.hd,ok.frames,ok.stk,ok.exf,ok.bs,ok.bsz,ok.noex,ok.exfs,ok.funs,ok.frf}
theorem zi0(ok:X.Ok):(LV X a).Ok:={ok.mod,ok.kind,ok.glob,ok.blt,ok.above,ok.inj,ok.has,ok.cab,λz=>Bool.noConfusion z,ok.frames,ok.stk,ok.exf,ok.bs,ok.bsz,ok.noex,ok.exfs,ok.funs,ok.frf}
theorem zq8(I:Inv X pz O H s):Inv (FY X pz xe) [] O H s:={zp7 I.ok,I.os,I.bare,I.base,I.loc,I.cell,I.free,I.freeC,λp a=>I.pin p (by simpa using a),I.hok,I.len}
theorem Yr{ok:X.Ok}(I:Inv (FY X pz xe) pn2 O H s):Inv X pz O H s:={ok,I.os,I.bare,I.base,I.loc,I.cell,I.free,I.freeC,λp a=>I.pin p<|ħ _ a,I.hok,I.len}
theorem fH{a:Addr}(I:Inv X pz O H s):Inv (LV X a) pz O H s:={zi0 I.ok,I.os,I.bare,I.base,I.loc,I.cell,I.free,I.freeC,I.pin,I.hok,I.len}
theorem NI(ok:X.Ok)(I:Inv (LV X a) pz O H s):Inv X pz O H s:={(ok),I.os,I.bare,I.base,I.loc,I.cell,I.free,I.freeC,I.pin,I.hok,I.len}
variable {A:Around}{E:Value->Shared->Prop}{M:Model}
def exm{h:Heap}{d:Drawn}{t:Nat}{os:OsState}{a C W N:Addr}{oe:Obj}{nm q:Str}{hdct:Bool}{sn:ki}{ab:Bool}
     {b:String} (i:h.get? W=↑(excClassObj nm q W N bs bm hdct sn sub ab col dd k0 k1 k2 k3 k5 b)) (l:h.get? a=↑oe) (c:oe.cls=.ref C) (k:bm.contains (.type "BaseException")=true)
    (j:PySem.W.Looks M h (isSubtype (.ref C)<|.ref W) true) (m:Q true {(h),g,d,t,os}):wpAny M A (excMatches (.ref a)<|.ref W) Q E {(h),g,d,t,os}:=by
  have e:(Value.ref W::bm).contains (.type "BaseException")=true:=by
    rw[ű,k];exact Bool.or_true _
  have f:=tc_notTuple;unfold excMatches
  repeat (first|(with_reducible refine wpAny_loadPart_at l ?_;rw[c])|with_reducible refine wpAny_loadPart_at i ?_|(with_reducible refine wpAny_isSubtype_exc i ?_;rw[e])|with_reducible refine PySem.W.Looks.at j ?_|wp_step)
  exact m
end
section
variable {X:Cx}{i:Nat}{x n:Str}{np pos hpos:Pos}{body suite:kh}{b₀:Stmt}{tb th:TS}{E:L2.St->XK}
end
end Zx
namespace Pu
open PySem PySem.Spec PyProof.Rows L2 Zw Zx
abbrev Rg:=Addr->Prop
def R0:Rg:=λϊ=>False
set_option genInjectivity true in
inductive Kd where
 |lst|rl|tup|rt|pin (p:Addr)
set_option genInjectivity true in
inductive Ob where
 |ins (C:Addr) (fs:List Str)|exn (C:Addr)|sdc (ks:List Str)|lab (p:Addr)
set_option genInjectivity true in
inductive T where
 |non|bl (b:Bool)|int (i:Int)|str (x:Str)|nd (o:Bool) (k:Kd) (l:List T)|dic (ks:List Int) (l:List T)|pdc (ks:List Int) (l:List T)|odc (ks:List Int) (l:List T)
 |obj (k:Ob) (l:List T)|oob (p C:Addr) (fs:List Str) (l:List T)|osd (ks:List Str) (l:List T)
abbrev kr:=Option T
abbrev qB:=List T
abbrev T.lst(l:qB):T:=.nd false .lst l
abbrev T.own(l:qB):T:=.nd true .lst l
abbrev T.tup(l:qB):T:=.nd false .tup l
mutual
noncomputable def T.share:T->T
 |.nd ϊ k l=>.nd false k (BP l)|.dic a l=>.dic a (BP l)|.pdc a l=>.pdc a (BP l)|.odc a l=>.pdc a (BP l)|.obj k l=>.obj k (BP l)|.oob ϊ C fs l=>.obj (.ins C fs) (BP l)|.osd a l=>.obj (.sdc a) (BP l)|.non=>.non|.bl b=>.bl b|.int i=>.int i|.str x=>.str x
noncomputable def BP:List T->List T
 |[]=>[]|t::r=>t.share::BP r
end
mutual
noncomputable def T.sh:T->Bool
 |.nd o ϊ l=>!o && A3 l|.dic ϊ l=>A3 l|.pdc ϊ l=>A3 l|.odc ϊ ϋ=>false|.obj ϊ l=>A3 l|.oob ϊ ϋ ό ύ=>false|.osd ϊ ϋ=>false|.non=>true|.bl ϊ=>true|.int ϊ=>true|.str ϊ=>true
noncomputable def A3:List T->Bool
 |[]=>true|t::r=>t.sh && A3 r
end
def T.flat:T->Bool
 |.nd ϊ ϋ ό=>false|.dic ϊ ϋ=>false|.pdc ϊ ϋ=>false|.odc ϊ ϋ=>false|.obj ϊ ϋ=>false|.oob ϊ ϋ ό ύ=>false|.osd ϊ ϋ=>false|.non=>true|.bl ϊ=>true|.int ϊ=>true|.str ϊ=>true
def EL:∀l ,BP l=l.map T.share
 |[]=>rfl|t::r=>by rw[BP,EL r];rfl
def DI:∀l ,A3 l=l.all T.sh
 |[]=>rfl|t::r=>by rw[A3,DI r];rfl
mutual
theorem Av:∀t:T,t.sh=true->t.share=t
 |.nd o k l,h=>by
  rw[T.sh,Å]at h;have b:o=false:=by simpa using h.1
  subst b;rw[T.share,AK l h.2]
 |.dic a l,h=>by
  rw[T.sh]at h;rw[T.share,AK l h]
 |.pdc a l,h=>by
  rw[T.sh]at h;rw[T.share,AK l h]
 |.odc a l,h=>by
  rw[T.sh]at h;cases h
 |.obj k l,h=>by
  rw[T.sh]at h;rw[T.share,AK l h]
 |.oob p C fs l,h=>by
  rw[T.sh]at h;cases h
 |.osd a l,h=>by
  rw[T.sh]at h;cases h
 |.non,ϊ=>rfl|.bl ϊ,ϋ=>rfl|.int ϊ,ϋ=>rfl|.str ϊ,ϋ=>rfl
theorem AK:∀l:List T,A3 l=true->BP l=l
 |[],ϊ=>rfl|t::r,h=>by
  rw[A3,Å]at h;rw[BP,Av t h.1,AK r h.2]
end
def Gv(K:q9)(F:Hp)(p:Addr)(xs:qA):Prop:=(∃o,F p=↑(.frz o<|.lst xs))\/∃(o:Obj) (a:Array Value) (n:Nat),K.lookup p=↑o/\o.cls=.type "list"/\o.dict=none/\o.data=.seq a n/\a.size<=sizeLine/\Ag xs a.toList
theorem Gv.l{K}(h:Gv K F p xs):Ab K F p xs:=h.elim (λz=>.inl<|.inr z) .inr
def GW(K:q9)(F:Hp)(k:Kd)(p:Addr)(xs:qA):Prop:=match k with
 |.lst=>F p=↑(.lst xs)|.rl=>Gv K F p xs|.tup=>F p=↑(.tup xs)|.rt=>CP K F p xs|.pin ϊ=>F p=↑(.lst xs)
def HG{K}(s:Aa F F')(h:CP K F p xs):CP K F' p xs:=by
 rcases h with (h|⟨o,h⟩)|h;exact .inl<|.inl<|s _ _ h
 exact .inl<|.inr {o,s _ _ h}
 exact .inr h
def GW.same{K}(h:GW K F k p xs)(s:Aa F F'):GW K F' k p xs:=by
 cases k with
 |lst=>exact s _ _ h|rl=>exact h.elim (λ⟨o,z⟩=>.inl {o,s _ _ z}) .inr|tup=>exact s _ _ h|rt=>exact HG s h|pin q=>exact s _ _ h
def Kd.isT:Kd->Bool
 |.tup=>true|ϊ=>false
def Lu(k:Kd)(p:Addr):Prop:=match k with
 |.lst=>True|.pin q=>q=p|.tup=>True|ϊ=>False
def U8:Kd->qA->HO
 |.tup,xs=>.tup xs|ϊ,xs=>.lst xs
def fL(h:k.isT=false):U8 k xs=.lst xs:=by cases k<;>first|rfl|cases h
def Lu.node{K}(hk:Lu k p)(h:F p=↑(U8 k xs)):GW K F k p xs:=by
 cases k with
 |lst=>exact h|pin q=>exact h|tup=>exact h|_=>exact hk.elim
def J9(a:kj)(xs:qA):List<|Key×V:=List.zipWith (λk x=>(Sum.inl k,x)) a xs
def Cs(a:ki)(xs:qA):List<|Key×V:=List.zipWith (λk x=>(Sum.inr k,x)) a xs
def L8(F:Hp)(b:Option Addr)(v:V):Prop:=∃d a u,b=↑d/\F d=↑(.frz a<|.own 0)/\Ac v u/\W.lookIn "step" a=↑↑u
theorem L8.of(h:L8 F dx v)(s:∀a u,F a=↑u->F' a=↑u):L8 F' dx v:=
 let ⟨d,od,u,e,h1,r⟩:=h;{d,od,u,e,s _ _ h1,r}
def Lv(F:Hp)(k:Ob)(p:Addr)(xs:qA):Prop:=match k with
 |.ins C fs=>∃a,F p=↑(.ins C a<|fs.zip xs)|.exn C=>∃a,PL F p C a/\∀v∈xs,L8 F a v|.sdc b=>b.length=xs.length/\F p=↑(.dK<|Cs b xs)|.lab q=>q=p/\xs=[.ref p]
def Lv.same(h:Lv F k p xs)(s:Aa F F'):Lv F' k p xs:=by
 cases k with
 |ins C fs=>exact h.elim λa e=>{a,s _ _ e}|exn C=>exact h.elim λa e=>{a,e.1.of λu=>s p u,λv b=>(e.2 v b).of s}|sdc c=>exact{h.1,s _ _ h.2}|lab q=>exact h
inductive Rp(K:q9)(F H:Hp):T->V->Rg->Prop where
 |non:Rp K F H .non .non R0
 |bl (b:Bool):Rp K F H (.bl b) (.bl b) R0
 |int (i:Int):Rp K F H (.int i) (.int i) R0
 |str (x:Str):Rp K F H (.str x) (.str x) R0
 |shr {k:Kd} {p:Addr} {xs:List V} {l:List T} (h:GW K F k p xs) (e:l.length=xs.length) (c:∀(i:Nat) (t:T) (x:V),l[i]?=↑t->xs[i]?=↑x->Rp K F H t x R0):Rp K F H (.nd false k l) (.ref p) R0
 |dic {p:Addr} {ob:Obj} {ks:List Int} {xs:List V} {l:List T} (h:F p=↑(.frz ob<|.dK<|J9 ks xs)) (e:l.length=xs.length) (ek:ks.length=xs.length) (c:∀(i:Nat) (t:T) (x:V),l[i]?=↑t->xs[i]?=↑x->Rp K F H t x R0):Rp K F H (.dic ks l) (.ref p) R0
 |pdc {p:Addr} {ks:List Int} {xs:List V} {l:List T} (h:F p=↑(.dK<|J9 ks xs)) (e:l.length=xs.length) (ek:ks.length=xs.length) (c:∀(i:Nat) (t:T) (x:V),l[i]?=↑t->xs[i]?=↑x->Rp K F H t x R0):Rp K F H (.pdc ks l) (.ref p) R0
 |odc {p:Addr} {ks:List Int} {xs:List V} {l:List T} (f:F p=none) (h:H p=↑(.dK<|J9 ks xs)) (e:l.length=xs.length) (ek:ks.length=xs.length) (c:∀(i:Nat) (t:T) (x:V),l[i]?=↑t->xs[i]?=↑x->Rp K F H t x R0):Rp K F H (.odc ks l) (.ref p)<|λa=>a=p
 |obj {k:Ob} {p:Addr} {xs:List V} {l:List T} (h:Lv F k p xs) (e:l.length=xs.length) (c:∀(i:Nat) (t:T) (x:V),l[i]?=↑t->xs[i]?=↑x->Rp K F H t x R0):Rp K F H (.obj k l) (.ref p) R0
 |oob {C p dx:Addr} {fs:List Str} {xs:List V} {l:List T} (R:Nat->Rg) (f:F p=none) (h:H p=↑(.ins C dx<|fs.zip xs)) (e:l.length=xs.length) (c:∀(i:Nat) (t:T) (x:V),l[i]?=↑t->xs[i]?=↑x->Rp K F H t x (R i))
   (d:∀i j a,i≠j->R i a->¬ R j a) (dp:∀i,¬ R i p) (o:∀i a,R i a->i<l.length):Rp K F H (.oob p C fs l) (.ref p) (λa=>a=p\/∃i,R i a)
 |osd {p:Addr} {ks:List Str} {xs:List V} {l:List T} (R:Nat->Rg) (f:F p=none) (h:H p=↑(.dK<|Cs ks xs)) (e:l.length=xs.length) (ek:ks.length=xs.length) (c:∀(i:Nat) (t:T) (x:V),l[i]?=↑t->xs[i]?=↑x->Rp K F H t x (R i))
   (d:∀i j a,i≠j->R i a->¬ R j a) (dp:∀i,¬ R i p) (o:∀i a,R i a->i<l.length):Rp K F H (.osd ks l) (.ref p) (λa=>a=p\/∃i,R i a)
 |own {k:Kd} {p:Addr} {xs:List V} {l:List T} (hk:Lu k p) (R:Nat->Rg) (f:F p=none) (h:H p=↑(U8 k xs)) (e:l.length=xs.length) (c:∀(i:Nat) (t:T) (x:V),l[i]?=↑t->xs[i]?=↑x->Rp K F H t x (R i))
   (d:∀i j a,i≠j->R i a->¬ R j a) (dp:∀i,¬ R i p) (o:∀i a,R i a->i<l.length):Rp K F H (.nd true k l) (.ref p) (λa=>a=p\/∃i,R i a)
theorem reg0{p:Addr}:(λa=>a=p\/∃_:Nat,R0 a)=λa=>a=p:=funext λϊ=>propext {λz=>z.elim id λ⟨_,w⟩=>w.elim,.inl}
def Rp.osd0{K}{F H:Hp}{p:Addr}{b:ki}{xs:qA}{l:qB}(f:F p=none)(h:H p=↑(.dK<|Cs b xs))(e:l.length=xs.length)(d:b.length=xs.length)(c:∀(i:Nat) (t:T) (x:V),l[i]?=↑t->xs[i]?=↑x->Rp K F H t x R0):Rp K F H (.osd b l) (.ref p)<|λa=>a=p:=by
 have r:Rp K F H (.osd b l) (.ref p) (λa=>a=p\/∃_:Nat,R0 a):=.osd (λϊ=>R0) f h e d c (λϊ ϊ ϊ ϊ z=>z.elim) (λϊ z=>z)<|λϊ ϊ z=>z.elim
 rwa[reg0]at r
section
variable {K:q9}{F F' H H':Hp}{t:T}{x:V}{A:Rg}
def Rp.frame(h:Rp K F H t x A)(s:Aa F F')(k:∀a,A a->H' a=H a/\F' a=none):Rp K F' H' t x A:=by
 induction h with
 |non=>exact .non|bl b=>exact .bl b|int i=>exact .int i|str y=>exact .str y|shr h e c l=>exact .shr (h.same s) e λi t x g j=>l i t x g j λa z=>z.elim|dic h e m c l=>exact .dic (s _ _ h) e m λi t x g j=>l i t x g j λa z=>z.elim|pdc h e m c l=>exact .pdc (s _ _ h) e m λi t x g j=>l i t x g j λa z=>z.elim|odc f h e m c l=>have q:=k _ rfl;exact .odc q.2 (q.1.trans h) e m λi t x g j=>l i t x g j λa z=>z.elim|obj h e c l=>exact .obj (h.same s) e λi t x g j=>l i t x g j λa z=>z.elim|oob R f h e c d dp o l=>have q:=k _<|.inl rfl;exact .oob R q.2 (q.1.trans h) e (λi t x g j=>l i t x g j λa z=>k a<|.inr {(i),z}) d dp o|osd R f h e m c d dp o l=>have q:=k _<|.inl rfl;exact .osd R q.2 (q.1.trans h) e m (λi t x g j=>l i t x g j λa z=>k a<|.inr {(i),z}) d dp o|own hk R f h e c d dp o l=>have q:=k _<|.inl rfl;exact .own hk R q.2 (q.1.trans h) e (λi t x g j=>l i t x g j λa z=>k a<|.inr {(i),z}) d dp o
def Rp.dom(h:Rp K F H t x A)(g:A a):F a=none/\∃u,H a=↑u:=by
 induction h with
 |non=>exact g.elim|bl b=>exact g.elim|int i=>exact g.elim|str y=>exact g.elim|shr h e c j=>exact g.elim|dic h e n c j=>exact g.elim|pdc h e n c j=>exact g.elim|odc f h e n c j=>grind|obj h e c j=>exact g.elim|@osd p s xs l R f h e n c d dp o j=>
  rcases g with rfl|⟨i,z⟩;grind;have k:=o i a z;have m:i<xs.length:=by lia
  exact j i _ _ (Á k) (Á m) z
 |@oob C p q fs xs l R f h e c d dp o j=>
  rcases g with rfl|⟨i,z⟩;grind;have k:=o i a z;have m:i<xs.length:=by lia
  exact j i _ _ (Á k) (Á m) z
 |@own r p xs l hk R f h e c d dp o j=>
  rcases g with rfl|⟨i,z⟩;grind;have k:=o i a z;have m:i<xs.length:=by lia
  exact j i _ _ (Á k) (Á m) z
def Rp.share(h:Rp K F H t x A)(s:Aa F F')(k:∀a u,A a->H a=↑u->F' a=↑u):Rp K F' H' t.share x R0:=by
 induction h with
 |non=>exact .non|bl b=>exact .bl b|int i=>exact .int i|str y=>exact .str y|@shr w p xs l h e c m=>
  rw[T.share,EL];refine .shr (h.same s) (by rw[À];exact e) λi t x g j=>?_;rw[È]at g;let(q,n,rfl):=Ý.mp g;exact m i q x n j λa u z=>z.elim
 |@dic p ob v xs l h e r c m=>
  rw[T.share,EL];refine .dic (s _ _ h) (by rw[À];exact e) r λi t x g j=>?_;rw[È]at g;let(q,n,rfl):=Ý.mp g;exact m i q x n j λa u z=>z.elim
 |@pdc p v xs l h e r c m=>
  rw[T.share,EL];refine .pdc (s _ _ h) (by rw[À];exact e) r λi t x g j=>?_;rw[È]at g;let(q,n,rfl):=Ý.mp g;exact m i q x n j λa u z=>z.elim
 |@odc p v xs l f h e r c m=>
  rw[T.share,EL];refine .pdc (k _ _ rfl h) (by rw[À];exact e) r λi t x g j=>?_;rw[È]at g;let(q,n,rfl):=Ý.mp g;exact m i q x n j λa u z=>z.elim
 |@obj w p xs l h e c m=>
  rw[T.share,EL];refine .obj (h.same s) (by rw[À];exact e) λi t x g j=>?_;rw[È]at g;let(q,n,rfl):=Ý.mp g;exact m i q x n j λa u z=>z.elim
 |@oob C p B fs xs l R f h e c d dp o m=>
  rw[T.share,EL];refine .obj {B,k _ _ (.inl rfl) h} (by rw[À];exact e) λi t x g j=>?_;grind
 |@osd p v xs l R f h e r c d dp o m=>
  rw[T.share,EL];refine .obj {r,k _ _ (.inl rfl) h} (by rw[À];exact e) λi t x g j=>?_;grind
 |@own w p xs l hk R f h e c d dp o m=>
  rw[T.share,EL];refine .shr (hk.node<|k _ _ (.inl rfl) h) (by rw[À];exact e) λi t x g j=>?_;grind
def Rp.r0(h:Rp K F H t x A)(s:t.sh=true):A=R0:=by
 cases h with
 |own hk R f h e c d dp o=>cases s|odc f h e a c=>cases s|oob R f h e c d dp o=>cases s|osd R f h e a c d dp o=>cases s|_=>rfl
def Rp.move(h:Rp K F H t x A)(s:t.sh=true)(q:Aa F F'):Rp K F' H' t x R0:=by
 have e:=h.r0 s;subst e;exact h.frame q λa z=>z.elim
def Rp.flat_any(h:Rp K F H t x A)(s:t.flat=true):Rp K F' H' t x R0:=by
 cases h with
 |non=>exact .non|bl b=>exact .bl b|int i=>exact .int i|str y=>exact .str y|shr h e c=>cases s|dic h e a c=>cases s|pdc h e a c=>cases s|odc f h e a c=>cases s|obj h e c=>cases s|oob R f h e c d dp o=>cases s|osd R f h e a c d dp o=>cases s|own hk R f h e c d dp o=>cases s
def Rp.int_inv{i:Int}(h:Rp K F H (.int i) x A):x=.int i:=by cases h;rfl
def Rp.bl_inv{b:Bool}(h:Rp K F H (.bl b) x A):x=.bl b:=by cases h;rfl
def Rp.non_inv(h:Rp K F H .non x A):x=.non:=by cases h;rfl
def Rp.str_inv{y:Str}(h:Rp K F H (.str y) x A):x=.str y:=by cases h;rfl
end
def Ai(K:q9)(F:Hp)(ts:qB)(xs:qA):Prop:=ts.length=xs.length/\∀(i:Nat) (t:T) (x:V),ts[i]?=↑t->xs[i]?=↑x->Rp K F F t x R0
theorem Ai.nil{K}:Ai K F [] []:={rfl,λi t x h=>by simp at h}
theorem Rp.any{K}(h:Rp K F H t x R0):Rp K F H' t x R0:=h.frame (Aa.refl F) λa z=>z.elim
def Ai.cons{K:q9}{F H:Hp}{t:T}{x:V}{ts:qB}{xs:qA}(h:Rp K F H t x R0)(r:Ai K F ts xs):Ai K F (t::ts)<|x::xs:=by
 refine{by simp[r.1],λi c d a b=>?_};cases i with
 |zero=>simp at a b;subst a;subst b;exact h.any|succ j=>exact r.2 j c d (by simpa using a)<|by simpa using b
def Ai.inv{K}(r:Ai K F (t::ts) xs):∃x xs',xs=x::xs'/\Rp K F F t x R0/\Ai K F ts xs':=by
 let(e,h):=r;cases xs with
 |nil=>simp at e|cons x xs'=>exact{x,xs',rfl,h 0 t x rfl rfl,by simpa using e,λi c d a b=>h (i+1) c d (by simpa using a)<|by simpa using b}
def Ai.inv0{K}(r:Ai K F [] xs):xs=[]:=by
 let(e,h):=r;grind
theorem Ai.same{K}(r:Ai K F ts xs)(s:Aa F F'):Ai K F' ts xs:={r.1,λi t x b c=>((r.2 i t x b c).frame s λa z=>z.elim)}
def Ai.node{K}(h:Rp K F H (.nd false k l) (.ref p) A):∃xs,GW K F k p xs/\Ai K F l xs:=by
 cases h with
 |shr h e c=>exact{_,h,e,λi t x a b=>(c i t x a b).any}
def Rp.ref_inv{K}(h:Rp K F H (.nd o k l) x A):∃p,x=.ref p:=by
 cases h with
 |shr h e c=>exact{_,rfl}|own hk R f h e c d dp o=>exact{_,rfl}
theorem Ai.of_node{K}(h:GW K F k p xs)(r:Ai K F l xs):Rp K F H (.nd false k l) (.ref p) R0:=.shr h r.1 λi t x a b=>(r.2 i t x a b).any
structure Ext(F H F' H':Hp)(B:Rg):Prop where
 hh:Aa H H'
 ff:Aa F F'
 fh:Aa F' H'
 nb:∀b,B b->H b=none
 nf:∀b u,F' b=↑u->F b=↑u\/H b=none
def IM(s:Aa H H')(h:H' b=none):H b=none:=by
 cases e:H b with
 |none=>rfl|some u=>rw[s b u e]at h;cases h
section
variable {F H F1 H1 F2 H2:Hp}{B C:Rg}
theorem Ext.refl(s:Aa F H):Ext F H F H R0:={.refl _,.refl _,s,λϊ z=>z.elim,λϊ ϊ e=>.inl e}
theorem Ext.trans(a:Ext F H F1 H1 B)(b:Ext F1 H1 F2 H2 C):Ext F H F2 H2 (λx=>B x\/C x) where
 hh:=a.hh.trans b.hh
 ff:=a.ff.trans b.ff
 fh:=b.fh
 nb:=λx z=>z.elim (a.nb x) λz=>IM a.hh (b.nb x z)
 nf:=λx u e=>(b.nf x u e).elim (a.nf x u) λz=>.inr<|IM a.hh z
theorem Ext.mono(a:Ext F H F1 H1 B)(h:∀x,C x->B x):Ext F H F1 H1 C:={a.hh,a.ff,a.fh,λx z=>a.nb x<|h x z,a.nf}
theorem Ext.trans0(a:Ext F H F1 H1 R0)(b:Ext F1 H1 F2 H2 C):Ext F H F2 H2 C:=(a.trans b).mono λx z=>.inr z
open Classical in
def frz(F H:Hp)(A:Rg):Hp:=λb=>if A b then H b else F b
def Ec{A:Rg}{b:Addr}(h:A b):frz F H A b=H b:=by unfold frz;rw[if_pos h]
def FU{A:Rg}{b:Addr}(h:¬ A b):frz F H A b=F b:=by unfold frz;rw[if_neg h]
theorem FV(n:∀a,A a->F a=none):Aa F<|frz F H A:=λb u e=>by
 by_cases h:A b;grind;rw[FU h];exact e
theorem Jh(s:Aa F H):Aa (frz F H A) H:=λb u e=>by
 by_cases h:A b;rw[Ec h]at e;exact e;rw[FU h]at e;exact s b u e
theorem Ext.frz(a:Ext F H F1 H1 B)(n:∀b,B b->F1 b=none):Ext F H (frz F1 H1 B) H1 R0 where
 hh:=a.hh
 ff:=a.ff.trans (FV n)
 fh:=Jh a.fh
 nb:=λϊ z=>z.elim
 nf:=λb u e=>by
  by_cases h:B b;exact .inr<|a.nb b h
  rw[FU h]at e;exact a.nf b u e
theorem Rp.ext{K }    (h:Rp K F H t x A)(a:Ext F H F1 H1 B):Rp K F1 H1 t x A:=h.frame a.ff λb z=>by
 let(f,u,e):=h.dom z;refine{(a.hh b u e).trans e.symm,?_};cases q:F1 b with
 |none=>rfl|some c=>
  rcases a.nf b c q with z|z;grind;grind
theorem Rp.apart{K}(h:Rp K F H t x A)(a:Ext F H F1 H1 B)(c:B b):¬ A b:=λz=>by
 let(f,u,e):=h.dom z;rw[a.nb b c]at e;cases e
theorem Ext.new(s:Aa F H)(h:H p=none):Ext F H (upd F p o) (upd H p o) R0 where
 hh:=Mh h o
 ff:=Mh (IM s h) o
 fh:=λb u e=>by
  by_cases a:b=p;subst a;rw[Cn]at e ⊢;exact e;rw[BB a]at e ⊢;exact s b u e
 nb:=λϊ z=>z.elim
 nf:=λb u e=>by
  by_cases a:b=p;grind;rw[BB a]at e;exact .inl e
theorem Ext.newO(s:Aa F H)(h:H p=none):Ext F H F (upd H p o) (λa=>a=p) where
 hh:=Mh h o
 ff:=.refl _
 fh:=λb u e=>Mh h o b u (s b u e)
 nb:=λb z=>by grind
 nf:=λb u e=>.inl e
end
abbrev AM:=List<|kr
structure StR(K:q9)(F H:Hp)(O:L2.St)(Y:AM)(R:Nat->Rg):Prop where
 fh:Aa F H
 len:O.length=Y.length
 rep:∀i t,Y[i]?=↑↑t->∃x,O[i]?=↑↑x/\Rp K F H t x (R i)
 out:∀i a,R i a->∃t,Y[i]?=↑↑t
 dis:∀i j a,i≠j->R i a->¬ R j a
section
variable {K:q9}{F H F1 H1:Hp}{O:L2.St}{Y:AM}{R:Nat->Rg}{B:Rg}
def StR.dom(h:StR K F H O Y R)(b:R i a):F a=none/\∃u,H a=↑u:=by
 let(t,e):=h.out i a b;let(x,_,r):=h.rep i t e;exact r.dom b
theorem StR.ext(h:StR K F H O Y R)(a:Ext F H F1 H1 B):StR K F1 H1 O Y R where
 fh:=a.fh
 len:=h.len
 rep:=λi t e=>by
  let(x,b,r):=h.rep i t e;exact{x,b,r.ext a}
 out:=h.out
 dis:=h.dis
theorem StR.apart(h:StR K F H O Y R)(a:Ext F H F1 H1 B)(c:B b)(i):¬ R i b:=λz=>by
 let(f,u,e):=h.dom z;rw[a.nb b c]at e;cases e
end
def eI:Key->PyData
 |.inl i=>.int i|.inr x=>.str x
mutual
noncomputable def T.data:T->PyData
 |.non=>.none|.bl b=>.bool b|.int i=>.int i|.str x=>.str x|.nd ϊ .lst l=>.list (B8 l)|.nd ϊ .rl l=>.list (B8 l)|.nd ϊ .tup l=>.tuple (B8 l)|.nd ϊ .rt l=>.tuple (B8 l)|.nd ϊ (.pin ϋ) l=>.list (B8 l)|.dic a l=>.dict ((a.map PyData.int).zip (B8 l))|.pdc a l=>.dict ((a.map PyData.int).zip (B8 l))|.odc a l=>.dict ((a.map PyData.int).zip (B8 l))|.obj ϊ ϋ=>.none|.oob ϊ ϋ ό ύ=>.none|.osd ϊ ϋ=>.none
noncomputable def B8:List T->List PyData
 |[]=>[]|t::r=>t.data::B8 r
end
mutual
noncomputable def T.pln:T->Bool
 |.nd ϊ ϋ l=>Ep l|.dic ϊ l=>Ep l|.pdc ϊ l=>Ep l|.odc ϊ l=>Ep l|.obj ϊ ϋ=>false|.oob ϊ ϋ ό ύ=>false|.osd ϊ ϋ=>false|.non=>true|.bl ϊ=>true|.int ϊ=>true|.str ϊ=>true
noncomputable def Ep:List T->Bool
 |[]=>true|t::r=>t.pln && Ep r
end
def FJ:∀{l},Ep l=true->∀{i:Nat} {t},l[i]?=↑t->t.pln=true
 |[],ϊ,i,t,e=>by simp at e|a::r,h,i,t,e=>by
  rw[Ep,Å]at h;cases i with
  |zero=>simp at e;subst e;exact h.1|succ i=>exact FJ h.2<|by simpa using e
def YG:∀{l} {us},l.length=us.length->(∀(i:Nat) (t) (u),l[i]?=↑t->us[i]?=↑u->∃as,Reads h u t.data as)->∃as,ReadsAll h us (B8 l) as
 |[],[],ϊ,ϋ=>{_,.nil}|[],ϊ::ϋ,e,ό=>by simp at e|ϊ::ϋ,[],e,ό=>by simp at e|t::l,u::us,e,f=>by
  let(j,r1):=f 0 t u rfl rfl;let(k,c):=YG (l:=l) (us:=us) (by simpa using e) λi d g a b=>f (i+1) d g (by simpa using a)<|by simpa using b
  exact{_,.cons r1 c}
def UW(e:(Dq P w).is k v=true):Reads h v (eI k) []:=by
 rcases Fo (e) with ⟨i,t,rfl,rfl⟩|⟨x,t,rfl,rfl⟩;exact .int i t;exact .str x t
def NA:∀(ks) (xs) (l) (vs),KV (J9 ks xs) vs->l.length=xs.length->ks.length=xs.length->(∀(i:Nat) (t) (x),l[i]?=↑t->xs[i]?=↑x->∀{u},Ac x u->∃as,Reads h u t.data as) ->
  ∃bs,PyProof.V.PairsRead h eI vs ((ks.map PyData.int).zip (B8 l)) bs
 |[],xs,l,vs,r,ϊ,ϋ,ό=>by
  have b:Paired _ [] vs:=(show Paired _ (J9 [] xs) vs from r);cases b;exact{_,.nil}
 |k::ks,[],l,vs,r,ϊ,a,ϋ=>by simp at a|k::ks,x::xs,[],vs,r,e,ϊ,ϋ=>by simp at e|k::ks,x::xs,t::l,vs,r,e,a,f=>by
  have b:Paired (λ(p:Key×V) (q:Key×Value)=>p.1=q.1/\Ac p.2 q.2) ((Sum.inl k,x)::J9 ks xs) vs:=r;cases b with
  |@cons ϊ q ϋ j hd o=>
   let(v,r1):=f 0 t x rfl rfl hd.2;let(w,m):=NA ks xs l j o (by simpa using e) (by simpa using a) λi n s c d=>f (i+1) n s (by simpa using c)<|by simpa using d
   let(g,y):=q;cases (show Sum.inl k=g from hd.1);exact{_,.cons r1 m}
section
variable {X:Cx}{pz:List<|Addr×Obj}{O:L2.St}{F H:Hp}{s:Shared}
def HJ(I:Inv X pz O H s)(fh:Aa F H)(h:Rp X.K F H t x A)(g:t.pln=true):∀{u},Ac x u->∃as,Reads s.heap u t.data as:=by
 have D:∀{l } {xs } {B },Ag xs B->l.length=xs.length->(∀(i:Nat) (t ) (x ),l[i]?=↑t->xs[i]?=↑x->∀{u },Ac x u->∃as,Reads s.heap u t.data as)->∃as,ReadsAll s.heap B (B8 l) as:=by
  intro l xs B r e j;refine YG (e.trans r.length) λi t u a m=>?_
  have T:i<xs.length:=by
   have:=(Î.mp a).1;lia
  let(Y,E,r1):=r.get<|Á T;rw[m]at E;cases E;exact j i t _ a (Á T) r1
 have w:∀{p } {l } {xs },Ab X.K H p xs->l.length=xs.length->(∀(i:Nat) (t ) (x ),l[i]?=↑t->xs[i]?=↑x->∀{u },Ac x u->∃as,Reads s.heap u t.data as)->∃as,Reads s.heap (.ref p) (.list<|B8 l) as:=by
  intro p l xs Q e j;let(B,r,(o,n,E,N,V,P),_):=I.list Q;let(as,S):=D r e j;exact{_,.list E N P<|by simpa using S}
 have tups:∀{p } {l } {xs },CP X.K H p xs->l.length=xs.length->(∀(i:Nat) (t ) (x ),l[i]?=↑t->xs[i]?=↑x->∀{u },Ac x u->∃as,Reads s.heap u t.data as)->∃as,Reads s.heap (.ref p) (.tuple<|B8 l) as:=by
  intro p l xs Q e j;let(B,r,(o,E,N,n,P),_):=I.tuple Q;let(as,S):=D r e j;exact{_,.tuple E N P<|by simpa using S}
 induction h with
 |non=>intro u r;cases r;exact{_,.none}|bl b=>intro u r;cases r;exact{_,.bool b}|int i=>intro u r;let(t,rfl):=r;exact{_,.int i t}
 |str y=>intro u r;let(t,rfl):=r;exact{_,.str y t}
 |@shr k p xs l h e c j=>
  intro u r;cases r;cases k with
  |lst=>exact w (Ab.of<|fh _ _ h) e λi t x a m=>j i t x a m (FJ g a)|rl=>exact w (fh.seq h.l) e λi t x a m=>j i t x a m (FJ g a)|tup=>exact tups (CP.of<|fh _ _ h) e λi t x a m=>j i t x a m (FJ g a)|rt=>exact tups (HG fh h) e λi t x a m=>j i t x a m (FJ g a)|pin q=>exact w (Ab.of<|fh _ _ h) e λi t x a m=>j i t x a m<|FJ g a
 |@dic p ob K xs l h e G c j=>
  intro u r;cases r;let(W,z,hd,M,C,J):=(I.hok p _<|fh _ _ h);let(bs,L):=NA K xs l M C e G λi t x a m=>j i t x a m<|FJ g a
  exact{_,Ť (λk v q=>UW q) J L}
 |@pdc p K xs l h e G c j=>
  intro u r;cases r;let(z,hd,M,C,J):=(I.hok p _<|fh _ _ h);let(bs,L):=NA K xs l M C e G λi t x a m=>j i t x a m<|FJ g a
  exact{_,Ť (λk v q=>UW q) J L}
 |@odc p K xs l f h e G c j=>
  intro u r;cases r;let(z,hd,M,C,J):=(I.hok p _ h);let(bs,L):=NA K xs l M C e G λi t x a m=>j i t x a m<|FJ g a
  exact{_,Ť (λk v q=>UW q) J L}
 |obj h e c j=>cases g|oob R f h e c d dp o j=>cases g|osd R f h e G c d dp o j=>cases g|@own U p xs l hk R f h e c d dp o j=>
  intro u r;cases r;cases U with
  |lst=>exact w (Ab.of h) e λi t x a m=>j i t x a m (FJ g a)|pin q=>exact w (Ab.of h) e λi t x a m=>j i t x a m (FJ g a)|tup=>exact tups (CP.of h) e λi t x a m=>j i t x a m (FJ g a)|_=>exact hk.elim
end
def EW(t:T):Bool:=t.pln && t.data.canLay0
def Jk(t u:T):Bool:=PyData.eqv t.data u.data
def Hm(t u:T):Bool:=EW t && EW u && decide (min t.data.depth u.data.depth<=60)
def Au(t u:T):kr:=if Hm t u then ↑(.bl<|Jk t u) else none
def Cd(t u:T):kr:=if Hm t u then ↑(.bl<|!Jk t u) else none
def Hh(t:T)(l:qB):Bool:=EW t && (Ep l && PyData.canLayAll0 (B8 l)) && decide (min (PyData.depthAll<|B8 l) t.data.depth<=60)
def Je(t:T)(l:qB):Bool:=(B8 l).any λy=>PyData.eqv y t.data
def fI(t:T)(y:Str):kr:=match t with
 |.str x=>↑(.bl<|!(Builtin.Str.occurrences y x 0 y.length 1).isEmpty)|ϊ=>none
def De(t c:T):kr:=match c with
 |.nd ϊ ϋ l=>if Hh t l then ↑(.bl<|Je t l) else none
 |.str y=>fI t y|ϊ=>none
def GC(t c:T):kr:=match c with
 |.nd ϊ ϋ l=>if Hh t l then ↑(.bl<|!Je t l) else none
 |ϊ=>none
def Dx(K:q9)(F H:Hp)(v:T)(Q:VK):Prop:=∀b a z C,Ext F H b a C->Rp K b a v z C->Q z a
def Bq(K:q9)(g:T->T->kr):R2:=λx y H Q=>∃F t u v,Aa F H/\Rp K F F t x R0/\Rp K F F u y R0/\g t u=↑v/\Dx K F H v Q
def Mt(K:q9)(g:T->kr):V->Hp->VK->Prop:=λx H Q=>∃F t v,Aa F H/\Rp K F F t x R0/\g t=↑v/\Dx K F H v Q
def Dl(K:q9)(g:qB->kr):qA->Hp->VK->Prop:=λxs H Q=>∃F a v,Aa F H/\Ai K F a xs/\g a=↑v/\Dx K F H v Q
section
variable {K:q9}{F H:Hp}{Q:VK}
theorem Dx.int(q:Dx K F H (.int i) Q)(s:Aa F H):Q (.int i) H:=q F H _ _ (Ext.refl s)<|.int i
theorem Dx.bl(q:Dx K F H (.bl b) Q)(s:Aa F H):Q (.bl b) H:=q F H _ _ (Ext.refl s)<|.bl b
theorem Dx.str(q:Dx K F H (.str x) Q)(s:Aa F H):Q (.str x) H:=q F H _ _ (Ext.refl s)<|.str x
def Dx.list(q:Dx K F H (.own l) Q)(s:Aa F H)(r:Ai K F l xs)  (b:H p=none):Q (.ref p)<|upd H p<|.lst xs:=by
 refine q F (upd H p<|.lst xs) (.ref p) _ ((Ext.newO s b).mono ?_)<|.own (k:=.lst) trivial (λϊ=>R0) (IM s b) Cn r.1 (λi t x c d=>?_) (λϊ ϊ ϊ ϊ z=>z.elim) (λϊ z=>z) (λϊ ϊ z=>z.elim)
 rintro a (z|⟨i,z⟩);exact z;exact z.elim;exact(r.2 i t x c d).any
def Dx.tuple(q:Dx K F H (.tup l) Q)(s:Aa F H)(r:Ai K F l xs)(a:H p=none):Q (.ref p)<|upd H p<|.tup xs:=by
 have e:=Ext.new (o:=.tup xs) s a;exact q _ _ _ _ e<|Ai.of_node Cn<|r.same e.ff
end
def E4(i:Int):Bool:=@decide (-(2 ^ 64)<i/\i<2 ^ 64) (Classical.propDecidable _)
def Bu(i:Int):Bool:=@decide (-(10 ^ 70)<i/\i<10 ^ 70) (Classical.propDecidable _)
def eO(k:Int):Bool:=@decide (k<2 ^ 63/\-(2 ^ 63)<=k) (Classical.propDecidable _)
def CH(i j:Int):Bool:=E4 i || E4 j || (Bu i && Bu j)
def Bh:Nat:=16777216
def BL:T->T->kr
 |.int i,.int j=>↑(.int<|i+j)|.str x,.str y=>if x.length+y.length<=Bh then ↑(.str<|x++y) else none
 |.nd ϊ .lst l,.nd ϋ .lst m=>if l.length+m.length<=Bh then ↑(.own<|l++m) else none
 |ϊ,ϋ=>none
def EB:T->T->kr
 |.int i,.int j=>↑(.int<|i - j)|ϊ,ϋ=>none
def Bl:T->T->kr
 |.int i,.int j=>if CH i j then ↑(.int<|i * j) else none
 |.nd ϊ .lst l,.int k=>if eO k=true/\l.length * k.toNat<=Bh then ↑(.own (List.replicate k.toNat l).flatten) else none
 |.str x,.int k=>if 0<=k/\k<=1000000/\x.length<=16 then ↑(.str<|Txt.mul x k) else none
 |ϊ,ϋ=>none
def BH:T->T->kr
 |.int i,.int j=>if j≠0 then ↑(.int<|i.fmod j) else none
 |ϊ,ϋ=>none
def CK:T->T->kr
 |.int i,.int j=>if j≠0/\Bu j then ↑(.int<|i.fdiv j) else none
 |ϊ,ϋ=>none
def Eo:T->T->kr
 |.int i,.int j=>if 0<=j/\j<=1000000/\E4 i then ↑(.int<|i ^ j.toNat) else none
 |ϊ,ϋ=>none
def LZ:T->T->kr
 |.int i,.int j=>↑(.int<|Builtin.bitOr i j)|ϊ,ϋ=>none
def Ig:T->T->kr
 |.int i,.int j=>↑(.int<|Builtin.bitAnd i j)|ϊ,ϋ=>none
def Br(f:Int->Int->Bool):T->T->kr
 |.int i,.int j=>↑(.bl<|f i j)|ϊ,ϋ=>none
def FK:T->kr
 |.int i=>↑(.int<|-i)|ϊ=>none
def Ry(h:E4 i=true):-(2 ^ 64)<i/\i<2 ^ 64:=@of_decide_eq_true _ (Classical.propDecidable _) h
theorem Rx(h:Bu i=true):Sm i:=@of_decide_eq_true _ (Classical.propDecidable _) h
def eM(h:eO k=true):k<2 ^ 63/\-(2 ^ 63)<=k:=@of_decide_eq_true _ (Classical.propDecidable _) h
def GH:Bh=sizeLine:=by rw[Ĕ];rfl
def Mn{K}{F}:∀{l m} {xs ys},Ai K F l xs->Ai K F m ys->Ai K F (l++m) (xs++ys)
 |[],m,xs,ys,r,q=>by rw[r.inv0];exact q|t::l,m,xs,ys,r,q=>by
  let(x,b,rfl,r1,a):=r.inv;exact .cons r1<|Mn a q
def YA{K}(r:Ai K F l xs):∀n ,Ai K F (List.replicate n l).flatten (List.replicate n xs).flatten
 |0=>.nil|n+1=>by
  exact Mn r<|YA r n
section
variable {X:Cx}
def ED{K}(h:Rp K F H (.nd o k l) x R0):∃p xs,x=.ref p/\o=false/\GW K F k p xs/\Ai K F l xs:=by
 generalize a:R0=A at h;cases h with
 |shr h e c=>exact{_,_,rfl,rfl,h,e,λi t x b g=>(a▸c i t x b g).any}|@own j p xs l hk R f h e c d dp o=>
  exfalso;have z:=congrFun a p;have:R0 p:=by rw[z];exact .inl rfl
  exact this
set_option tactic.hygienic true in
def zlf:Aj X (binaryOp .Add)<|Bq X.K BL:=by
 intro f s O H x y v u Q I b c h;let(F,t,w,r,fh,r1,g,e,q):=h;unfold BL at e;split at e
 cases e;rw[r1.int_inv]at b;rw[g.int_inv]at c;exact zp2 f s O H _ _ v u Q I b c {_,_,rfl,rfl,q.int fh};split at e;cases e;rename_i d;rw[r1.str_inv]at b;rw[g.str_inv]at c;exact zed f s O H _ _ v u Q I b c {_,_,rfl,rfl,by rw[<- GH];exact d,q.str fh};cases e;split at e;cases e;rename_i d;let(p,xs,rfl,rfl,l,i):=ED r1;let(n,o,rfl,rfl,m,j):=ED g;refine zp0 f s O H _ _ v u Q I b c {p,n,xs,o,rfl,rfl,fh _ _ l,fh _ _ m,?_,λa k=>q.list fh (Mn i j) k}
 rw[<- i.1,<- j.1,<- GH];exact d;cases e;cases e
def HR(m:Aj X f<|rI C g)(l:∀t u v,gT t u=↑v->∃i j,t=.int i/\u=.int j/\C i j/\((∃k,v=.int k/\g i j=.int k)\/∃k,v=.bl k/\g i j=.bl k)):Aj X f<|Bq X.K gT:=by
 intro o s O H x y v u Q I b c h;let(F,w,z,r,fh,r1,p,e,q):=h;let(i,j,rfl,rfl,d,n):=l _ _ _ e;rw[r1.int_inv]at b;rw[p.int_inv]at c;refine m o s O H _ _ v u Q I b c {i,j,rfl,rfl,d,?_}
 rcases n with ⟨k,rfl,a⟩|⟨k,rfl,a⟩;rw[a];exact q.int fh;rw[a];exact q.bl fh
theorem Aj.weak(h:Aj X f r)(w:∀x y H Q,r' x y H Q->r x y H Q):Aj X f r':=λa s O H x y v u Q I b c q=>h a s O H x y v u Q I b c<|w x y H Q q
theorem Mq(h:Aj X f<|FI g):Aj X f<|rI (λϊ ϊ=>True) g:=Aj.weak h λx y H Q ⟨i,j,a,b,_,q⟩=>{(i),j,a,b,q}
theorem zl7:Aj X (binaryOp .Sub)<|Bq X.K EB:=HR (Mq zou) λt u v h=>by
 unfold EB at h;split at h;cases h;exact{_,_,rfl,rfl,trivial,.inl {_,rfl,rfl}};cases h
theorem zle:Aj X (binaryOp .BitOr)<|Bq X.K LZ:=HR (Mq op_or) λt u v h=>by
 unfold LZ at h;split at h;cases h;exact{_,_,rfl,rfl,trivial,.inl {_,rfl,rfl}};cases h
theorem zhz:Aj X (binaryOp .BitAnd)<|Bq X.K Ig:=HR (Mq zp1) λt u v h=>by
 unfold Ig at h;grind
def IF:T->T->kr
 |.int i,.int j=>if 0<=j then ↑(.int<|i / 2 ^ j.toNat) else none
 |ϊ,ϋ=>none
theorem zl8:Aj X (binaryOp .RShift)<|Bq X.K IF:=HR zov λt u v h=>by
 unfold IF at h;split at h;split at h;cases h;exact{_,_,rfl,rfl,by assumption,.inl {_,rfl,rfl}};cases h;cases h
theorem zlb:Aj X (binaryOp .Mod)<|Bq X.K BH:=HR zl6 λt u v h=>by
 unfold BH at h;split at h;split at h;cases h;exact{_,_,rfl,rfl,by assumption,.inl {_,rfl,rfl}};cases h;cases h
set_option tactic.hygienic true in
theorem zhy:Aj X (binaryOp .FloorDiv)<|Bq X.K CK:=HR zhx λt u v h=>by
 unfold CK at h;split at h;split at h;cases h;rename_i a;exact{_,_,rfl,rfl,{a.1,Rx a.2},.inl {_,rfl,rfl}};cases h;cases h
set_option tactic.hygienic true in
theorem zl9:Aj X (binaryOp .Pow)<|Bq X.K Eo:=HR zox λt u v h=>by
 unfold Eo at h;split at h;split at h;cases h;rename_i a;have q:=Ry a.2.2;exact{_,_,rfl,rfl,{a.1,a.2.1,by lia},.inl {_,rfl,rfl}}
 cases h;cases h
theorem ND(a:Aj X (compareOp op)<|FI λi j=>.bl<|g i j):Aj X (compareOp op)<|Bq X.K<|Br g:=HR (Mq a) λt u v h=>by
 unfold Br at h;grind
set_option tactic.hygienic true in
def zla:Aj X (binaryOp .Mult)<|Bq X.K Bl:=by
 intro f s O H x y v u Q I d c h;let(F,o,t,r,fh,r1,g,e,q):=h;unfold Bl at e;split at e
 rename_i i j;split at e;cases e;rename_i b;rw[r1.int_inv]at d;rw[g.int_inv]at c;unfold CH at b;rw[ď,ď,Å]at b;rcases b with (b|b)|b;exact Yl f s O H _ _ v u Q I d c {i,j,rfl,rfl,.inl<|Ry b,q.int fh};exact Yl f s O H _ _ v u Q I d c {i,j,rfl,rfl,.inr<|Ry b,q.int fh};exact zl5 f s O H _ _ v u Q I d c {i,j,rfl,rfl,{Rx b.1,Rx b.2},q.int fh};cases e;split at e;cases e;rename_i b;let(p,xs,rfl,rfl,n,l):=ED r1;rw[g.int_inv]at c;refine zow f s O H _ _ v u Q I d c {p,_,xs,rfl,rfl,fh _ _ n,(eM b.1).2,(eM b.1).1,?_,λa m=>q.list fh (YA l _) m}
 rw[<- l.1,<- GH];exact b.2;cases e;split at e;cases e;rename_i b;rw[r1.str_inv]at d;rw[g.int_inv]at c;let(o,rfl):=d;let(t,rfl):=c;exact SB.mul (mulOk_of 16 1048576 b.2.2 (by lia) (by lia) (by decide)<|by decide) λw k=>{.str _,H,I.tok _,{_,rfl},q.str fh}
 cases e;cases e
def zjs:L7 X (unaryOp .USub)<|Mt X.K FK:=by
 intro b s O H x v Q I a h;let(F,t,r,fh,r1,e,q):=h;unfold FK at e;split at e
 cases e;rw[r1.int_inv]at a;exact zmz b s O H _ v Q I a {_,rfl,q.int fh};cases e
def jZ{A:Around}(a:A.units+64<cLine)(h:n<=60):A.units+n<cLine:=by lia
set_option tactic.hygienic true in
def Yn(b:X.A.units+64<cLine):Aj X (compareOp .Eq)<|Bq X.K Au:=by
 intro l s O H x y v u Q I g i h;let(F,m,n,r,fh,r1,f,e,q):=h;unfold Au at e;split at e
 cases e;rename_i a;unfold Hm EW at a;rw[Å,Å,Å,Å,û]at a;let(j,c):=HJ I fh (r1.any) a.1.1.1 g;let(k,d):=HJ I fh (f.any) a.1.2.1 i;exact SeqAt.compareEq_reads c d a.1.1.2 a.1.2.2 (jZ b a.2) {.bl _,H,I,rfl,q.bl fh}
 cases e
set_option tactic.hygienic true in
def zp5(p:X.A.units+64<cLine):Aj X (compareOp .In)<|Bq X.K De:=by
 intro i s O H x y v u Q I d f h;let(F,j,t,r,fh,r1,g,e,q):=h;unfold De at e;split at e
 rename_i o k l;split at e;cases e;rename_i a;unfold Hh EW at a;rw[Å,Å,Å,Å,û]at a;let(m,b):=HJ I fh (r1.any) a.1.1.1 d;let(n,c):=HJ I fh (g.any) (a.1.2.1) f;have hd:X.A.units+1+min (PyData.depthAll<|B8 l) j.data.depth<cLine:=by lia
 cases k with
 |lst=>exact ū c b a.1.2.2 a.1.1.2 hd {.bl _,H,I,rfl,q.bl fh}|rl=>exact ū c b a.1.2.2 a.1.1.2 hd {.bl _,H,I,rfl,q.bl fh}|tup=>exact SeqAt.in_tuple_reads c b a.1.2.2 a.1.1.2 hd {.bl _,H,I,rfl,q.bl fh}|rt=>exact SeqAt.in_tuple_reads c b a.1.2.2 a.1.1.2 hd {.bl _,H,I,rfl,q.bl fh}|pin ϊ=>exact ū c b a.1.2.2 a.1.1.2 hd {.bl _,H,I,rfl,q.bl fh}
 cases e;unfold fI at e;split at e;cases e;rw[r1.str_inv]at d;rw[g.str_inv]at f;exact zfe i s O H _ _ v u Q I d f {_,_,rfl,rfl,q.bl fh};cases e;cases e
set_option tactic.hygienic true in
def zff(n:X.A.units+64<cLine):Aj X (compareOp .NotIn)<|Bq X.K GC:=by
 intro p s O H x y v u Q I f g h;let(F,i,t,r,fh,r1,d,e,q):=h;unfold GC at e;split at e
 rename_i o k l;split at e;cases e;rename_i a;unfold Hh EW at a;rw[Å,Å,Å,Å,û]at a;let(j,b):=HJ I fh (r1.any) a.1.1.1 f;let(m,c):=HJ I fh (d.any) (a.1.2.1) g;have hd:X.A.units+1+min (PyData.depthAll<|B8 l) i.data.depth<cLine:=by lia
 cases k with
 |lst=>exact ť c b a.1.2.2 a.1.1.2 hd {.bl _,H,I,rfl,q.bl fh}|rl=>exact ť c b a.1.2.2 a.1.1.2 hd {.bl _,H,I,rfl,q.bl fh}|tup=>exact SeqAt.notIn_tuple_reads c b a.1.2.2 a.1.1.2 hd {.bl _,H,I,rfl,q.bl fh}|rt=>exact SeqAt.notIn_tuple_reads c b a.1.2.2 a.1.1.2 hd {.bl _,H,I,rfl,q.bl fh}|pin ϊ=>exact ť c b a.1.2.2 a.1.1.2 hd {.bl _,H,I,rfl,q.bl fh}
 cases e;cases e
def isT(b:T)(a:Bool)(t c:T):kr:=↑(.bl (if a then !(decide (t.data.depth=0) && eqIs t b) else eqIs t b))
where eqIs:T->T->Bool
  |.non,.non=>true|.bl x,.bl y=>x == y|ϊ,ϋ=>false
end
set_option genInjectivity true in
inductive Rs where
 |v (t:T) (b:Bool)|x (c:Str)
abbrev AI:=AM->Option Rs
set_option genInjectivity true in
inductive RsL where
 |v (ts:List T) (b:Bool)|x (c:Str)
abbrev BC:=AM->Option RsL
def tot(R:Nat->Rg):Rg:=λa=>∃i,R i a
def E1(K:q9)(F H:Hp)(R:Nat->Rg)(v:T)(b:Bool)(x:V)(B:Rg):Prop:=match b with
 |true=>B=R0/\∃A,(∀a,A a->tot R a)/\Rp K F H v x A|false=>Rp K F H v x B
def Gz(b:Bool)(F H:Hp)(R:Nat->Rg):Hp:=match b with
 |true=>frz F H (tot R)|false=>F
section
variable {K:q9}{F H F1 H1:Hp}{O:L2.St}{Y:AM}{R:Nat->Rg}{B:Rg}{b c:Bool}{v:T}{x:V}
def StR.tot(S:StR K F H O Y R)(h:tot R a):F a=none/\∃u,H a=↑u:=by
 let(i,z):=h;exact S.dom z
def Nl(S:StR K F H O Y R):Aa F<|Gz b F H R:=by
 cases b with
 |true=>exact FV λa z=>(S.tot z).1|false=>exact .refl _
def U9(S:StR K F H O Y R):Aa (Gz b F H R) H:=by
 cases b with
 |true=>exact Jh S.fh|false=>exact S.fh
def zm6(S:StR K F H O Y R)(e:Ext F H F1 H1 B)(h:b=true->c=true):Aa (Gz b F H R)<|Gz c F1 H1 R:=by
 have f:=S.ext e;cases b with
 |false=>exact e.ff.trans (Nl f)|true=>
  rw[h rfl];intro a u q;show frz F1 H1 (Pu.tot R) a=↑u
  by_cases z:Pu.tot R a;rw[Ec z];have d:frz F H (Pu.tot R) a=↑u:=q;rw[Ec z]at d;exact e.hh _ _ d
  rw[FU z];have d:frz F H (Pu.tot R) a=↑u:=q;rw[FU z]at d;exact e.ff _ _ d
def E1.frz(S:StR K F H O Y R)(e:Ext F H F1 H1 B)(g:E1 K F1 H1 R v b x B):∃F2,Ext F H F2 H1 R0/\Aa F1 F2/\Rp K (Gz b F2 H1 R) (Gz b F2 H1 R) v.share x R0:=by
 have d:=S.ext e;cases b with
 |true=>
  let(rfl,A,f,r):=g
  exact{F1,e,.refl _,r.share (Nl d) λa u z q=>by
   show Pu.frz F1 H1 (Pu.tot R) a=↑u;rw[Ec<|f a z];exact q}
 |false=>
  have c :=g;have n:∀a,B a->F1 a=none:=λa z=>(c.dom z).1
  exact{_,e.frz n,FV n,c.share (FV n) λa u z q=>by
   show Pu.frz F1 H1 B a=↑u;rw[Ec z];exact q}
theorem Ext.grow(e:Ext F H F1 H1 R0)(s:Aa H1 H2):Ext F H F1 H2 R0:={e.hh.trans s,e.ff,e.fh.trans s,λϊ z=>z.elim,e.nf}
end
def G7(c:Str):Option Nat:=match c.cps.toList with
 |[78,111,82,117,110,n]=>↑n|ϊ=>none
def HN(c:Str):Str:=match G7 c with
 |some ϊ=>"NoRun"|none=>c
def SQ(c:Str):qA:=match G7 c with
 |some n=>[.int n]|none=>[]
def WW(F:Hp)(c:Str)(a:Option Addr):Prop:=∀v∈SQ c,L8 F a v
def XE(E:XK)(ca:Str->Value)(c:Str)(F H:Hp):Prop:=∀a,WW F c a->E (ca<|HN c) a H
def XE.plain(h:XE E ca c F H)(a:G7 c=none):E (ca c) none H:=by
 have:=h none (by unfold WW SQ;grind);unfold HN at this;grind
theorem XE.any(h:XE E ca c F H)(b:G7 c=none):XE E ca c F' H:=λa ϊ=>h a (by unfold WW SQ;grind)
def pM(K:q9)(E:L2.St->XK)(ca:Str->Value)(O:L2.St)(Q:VK)(F H:Hp)(R:Nat->Rg):Option Rs->Prop
 |some (.v v b)=>∀d a x B,Ext F H d a B->E1 K d a R v b x B->Q x a|some (.x c)=>∀d a,Ext F H d a R0->XE (E O) ca c d a|none=>False
def tM(K:q9)(E:L2.St->XK)(ca:Str->Value)(m:AI):TE:=λO H Q=>∃F Y R,StR K F H O Y R/\pM K E ca O Q F H R (m Y)
def pMs(K:q9)(E:L2.St->XK)(ca:Str->Value)(O:L2.St)(Q:qA->Hp->Prop)(F H:Hp)(R:Nat->Rg):Option RsL->Prop
 |some (.v e b)=>∀d a xs,Ext F H d a R0->Ai K (Gz b d a R) e xs->Q xs a|some (.x c)=>∀d a,Ext F H d a R0->XE (E O) ca c d a|none=>False
def CD(K:q9)(E:L2.St->XK)(ca:Str->Value)(m:BC):TA:=λO H Q=>∃F Y R,StR K F H O Y R/\pMs K E ca O Q F H R (m Y)
def pMB(K:q9)(E:L2.St->XK)(ca:Str->Value)(O:L2.St)(Q:Bool->Hp->Prop)(F H:Hp):Option Rs->Prop
 |some (.v (.bl c) ϊ)=>∀b a,Ext F H b a R0->Q c a|some (.v ϊ ϋ)=>False|some (.x c)=>∀b a,Ext F H b a R0->XE (E O) ca c b a|none=>False
def BG(K:q9)(E:L2.St->XK)(ca:Str->Value)(m:AI):TT:=λO H Q=>∃F Y R,StR K F H O Y R/\pMB K E ca O Q F H (m Y)
def AA(i:Nat):AI:=λY=>match Y[i]? with
 |some ↑t=>↑(.v t<|!t.sh)|ϊ=>none
def mC(t:T):AI:=λϊ=>↑(.v t false)
def AE:BC:=λϊ=>↑(.v [] false)
def AB(m:AI)(ms:BC):BC:=λY=>match m Y with
 |some (.v t b)=>(match ms Y with
  |some (.v d a)=>↑(.v (t.share::d)<|b || a)|r=>r)
 |some (.x c)=>↑(.x c)|none=>none
def BK(b:Bool)(v:T):Option Rs:=if b && !v.flat then none else ↑(.v v false)
def B5(g:qB->kr)(ms:BC):AI:=λY=>match ms Y with
 |some (.v a b)=>(match g a with
  |some v=>BK b v|none=>none)
 |some (.x c)=>↑(.x c)|none=>none
def g2(g:T->T->kr):qB->kr
 |[t,u]=>g t u|ϊ=>none
def g1(g:T->kr):qB->kr
 |[t]=>g t|ϊ=>none
abbrev m1(g:T->kr)(a:AI):AI:=B5 (g1 g)<|AB a AE
abbrev m2(g:T->T->kr)(a b:AI):AI:=B5 (g2 g)<|AB a<|AB b AE
def EG(c:AI)(a b:AI):AI:=λY=>match c Y with
 |some (.v (.bl true) ϊ)=>a Y|some (.v (.bl false) ϊ)=>b Y|some (.x c)=>↑(.x c)|ϊ=>none
def BW(c:AI):AI:=λY=>match c Y with
 |some (.v (.bl b) ϊ)=>↑(.v (.bl<|!b) false)|some (.x c)=>↑(.x c)|ϊ=>none
def Bg(a b:AI):AI:=EG a b<|mC<|.bl false
def B0(a b:AI):AI:=EG a (mC<|.bl true) b
section
variable {X:Cx}{E:L2.St->XK}{ca:Str->Value}{O:L2.St}{H:Hp}{m ma mb mc:AI}{ms:BC}{K:q9}{a b c e:Expr}{es:kg}{pos:Pos}
theorem PE.weak(h:PE X e t)(w:∀O H Q,t' O H Q->t O H Q):PE X e t':=λa s O H Q I q=>h a s O H Q I<|w O H Q q
theorem PT.weak(h:PT X e t)(w:∀O H Q,t' O H Q->t O H Q):PT X e t':=λa s O H Q I q=>h a s O H Q I<|w O H Q q
theorem PA.weak(h:PA X es t)(w:∀O H Q,t' O H Q->t O H Q):PA X es t':=λa b s O H Q I q=>h a b s O H Q I<|w O H Q q
def tM.mono(h:tM K E ca m O H Q)(w:∀x H',Q x H'->Q' x H'):tM K E ca m O H Q':=by
 let(F,Y,R,S,q):=h;refine{F,Y,R,S,?_};cases a:m Y with
 |none=>rw[a]at q;exact q|some r=>
  rw[a]at q;cases r with
  |v v b=>exact λd H' x B e g=>w _ _ (q d H' x B e g)|x c=>exact q
def CD.mono(h:CD K E ca ms O H Q)(w:∀x H',Q x H'->Q' x H'):CD K E ca ms O H Q':=by
 let(F,Y,R,S,q):=h;refine{F,Y,R,S,?_};cases a:ms Y with
 |none=>rw[a]at q;exact q|some r=>
  rw[a]at q;cases r with
  |v v b=>exact λd H' x e g=>w _ _ (q d H' x e g)|x c=>exact q
def IB(h:CD K E ca AE O H Q):Q [] H:=by
 let(F,Y,R,S,q):=h;exact q F H [] (Ext.refl S.fh) .nil
def IC(h:CD K E ca (AB m ms) O H Q):tM K E ca m O H λx H1=>CD K E ca ms O H1 λxs H2=>Q (x::xs) H2:=by
 let(F,Y,R,S,q):=h;refine{F,Y,R,S,?_};unfold AB at q;cases l:m Y with
 |none=>rw[l]at q;exact q|some r=>
  rw[l]at q;cases r with
  |x c=>exact q|v t b=>
   intro u w x B e g;let(o,k,_,s):=E1.frz S e g;have j:=S.ext k;refine{o,Y,R,j,?_};cases n:ms Y with
   |none=>rw[n]at q;symm|some r=>
    erw[n]at q;cases r with
    |x c=>exact λi f d=>q i f (k.trans0 d)|v y p=>
     intro i f xs d rs;refine q i f (x::xs) (k.trans0 d) ?_;refine .cons (H:=f) ((s.frame (zm6 j d<|by grind) λa z=>z.elim)) ?_;cases p with
     |true=>grind|false=>
      cases b with
      |false=>exact rs|true=>exact rs.same<|Nl<|j.ext d
def ID(h:tM K E ca (B5 g ms) O H Q):CD K E ca ms O H λxs H1=>Dl K g xs H1 Q:=by
 let(F,Y,R,S,q):=h;refine{F,Y,R,S,?_};unfold B5 at q;cases k:ms Y with
 |none=>rw[k]at q;symm|some r=>
  erw[k]at q;cases r with
  |x c=>exact q|v m b=>
   intro f H1 xs a rs;have o:=S.ext a;cases e:g m with
   |none=>erw[e]at q;symm|some v=>
    erw[e]at q;refine{Gz b f H1 R,m,v,U9 o,rs,e,λn i z C j l=>?_};unfold BK at q;cases b with
    |false=>exact q n i z C (a.trans0 j) l|true=>
     cases d:v.flat with
     |false=>rw[d]at q;exact False.elim q|true=>rw[d]at q;exact q f i z R0 (a.grow j.hh)<|l.flat_any d
def rTn2(h:Dl K (g2 g) [x,y] H Q):Bq K g x y H Q:=by
 let(F,k,v,fh,rs,e,q):=h;unfold g2 at e;split at e;let(l,i,b,r1,a):=rs.inv;let(x2,j,c,d,f):=a.inv;cases b;cases c;exact{F,_,_,v,fh,r1,d,e,q}
 cases e
def rTn1(h:Dl K (g1 g) [x] H Q):Mt K g x H Q:=by
 let(F,d,v,fh,rs,e,q):=h;unfold g1 at e;split at e;let(f,c,a,r1,b):=rs.inv;cases a;exact{F,_,v,fh,r1,e,q};cases e
theorem QC(h:tM K E ca (B5 (g2 g)<|AB ma<|AB mb AE) O H Q):JF (Bq K g) (tM K E ca ma) (tM K E ca mb) O H Q:=
 (IC<|ID h).mono λx c a=>(IC a).mono λy d b=>rTn2<|IB b
theorem zn6(h:tM K E ca (B5 (g1 g)<|AB ma AE) O H Q):XG (Mt K g) (tM K E ca ma) O H Q:=
 (IC<|ID h).mono λx b a=>rTn1<|IB a
set_option tactic.hygienic true in
def zmx(h:tM K E ca (AA i) O H Q):XF i O H Q:=by
 let(F,Y,R,S,q):=h;unfold AA at q;split at q;rename_i t c;let(x,e,r):=S.rep i t c;refine{x,e,q F H x R0 (Ext.refl S.fh) ?_};cases b:t.sh with
 |true=>exact r.move b (.refl _)|false=>exact{rfl,R i,λa z=>{(i),z},r}
 exact False.elim q
theorem YL(b:X.N[i]?=↑x)(c:EI X.env.scope x)(hd:(x == "__debug__")=false)(a:(x == "__classdict__")=false):PE X (.Name x pos)<|tM X.K E ca<|AA i:=PE.weak (G6 b c hd a) λϊ ϊ ϊ h=>zmx h
theorem Kb(h:PE X e<|tC v)(r:∀F H,Rp X.K F H t v R0):PE X e<|tM X.K E ca<|mC t:=PE.weak h λO H Q h=>by
 let(F,Y,R,S,q):=h;exact q F H v R0 (Ext.refl S.fh)<|r _ _
theorem YN:PA X []<|CD X.K E ca AE:=PA.weak Fg λO H Q h=>IB h
theorem YT(a:PE X e<|tM X.K E ca m)(b:PA X es<|CD X.K E ca ms)(c:starEach (e::es) X.env=(false,eval e X.env)::starEach es X.env):PA X (e::es)<|CD X.K E ca<|AB m ms:=
 PA.weak (Er a b c) λO H Q h=>IC h
theorem r_bin(e:Aj X (binaryOp op)<|Bq X.K g)(c:PE X a<|tM X.K E ca ma)(d:PE X b<|tM X.K E ca mb):PE X (.BinOp a op b pos)<|tM X.K E ca<|B5 (g2 g)<|AB ma<|AB mb AE:=
 PE.weak (pe_op e c d) λO H Q h=>QC h
theorem r_un(c:L7 X (unaryOp op)<|Mt X.K g)(b:PE X a<|tM X.K E ca ma):PE X (.UnaryOp op a pos)<|tM X.K E ca<|B5 (g1 g)<|AB ma AE:=
 PE.weak (pe_un c b) λO H Q h=>zn6 h
theorem r_cmp(f:Aj X (compareOp op)<|Bq X.K g)(c:PE X a<|tM X.K E ca ma)(d:PE X b<|tM X.K E ca mb)(e:behindInMarks op b=false):PE X (.Compare a [op] [b] pos)<|tM X.K E ca<|B5 (g2 g)<|AB ma<|AB mb AE:=
 PE.weak (zl0 f c d e) λO H Q h=>QC h
def MZ(h:BG K E ca m O H Q):tM K E ca m O H λx H1=>∃k,x=.bl k/\Q k H1:=by
 let(F,Y,R,S,q):=h;refine{F,Y,R,S,?_};cases a:m Y with
 |none=>rw[a]at q;exact q|some r=>
  rw[a]at q;cases r with
  |x c=>exact q|v v b=>
   cases v with
   |bl k=>
    intro d f x B e g
    have i:x=.bl k:=by
     cases b with
     |true=>let(_,A,_,r):=g;exact r.bl_inv
     |false=>exact(g).bl_inv
    exact{k,i,q d f<|e.mono λϊ z=>z.elim}
   |_=>symm
theorem znv(f:Aj X (compareOp op)<|Bq X.K g)(c:PE X a<|tM X.K E ca ma)(d:PE X b<|tM X.K E ca mb)(e:behindInMarks op b=false):PT X (.Compare a [op] [b] pos)<|BG X.K E ca<|B5 (g2 g)<|AB ma<|AB mb AE:=
 PT.weak (zkn f c d e) λO H Q h=>QC<|MZ h
theorem SK(h:PE X e<|tM X.K E ca m)(a:∀whole,isTrue e X.env whole=(do let v <- whole;standAt e.pos;holding [v] (truthy v))):PT X e<|BG X.K E ca m:=PT.weak (Χ h a) λO H Q h=>MZ h
def X3(h:BG K E ca (EG mc ma mb) O H Q):BG K E ca mc O H λk H1=>if k=true then BG K E ca ma O H1 Q else BG K E ca mb O H1 Q:=by
 let(F,Y,R,S,q):=h;refine{F,Y,R,S,?_};unfold EG at q;cases j:mc Y with
 |none=>rw[j]at q;symm|some r=>
  erw[j]at q;cases r with
  |x c=>exact q|v v b=>
   cases v with
   |bl k=>
    intro l H1 i;have m:=S.ext i
    have f:∀{g },(match g Y with
      |some (.v (.bl c) ϊ)=>∀d a,Ext F H d a R0->Q c a|some (.v ϊ ϋ)=>False|some (.x c)=>∀d a,Ext F H d a R0->XE (E O) ca c d a|none=>False)->BG K E ca g O H1 Q:=λ{g} q=>by
     refine{l,Y,R,m,?_};cases n:g Y with
     |none=>grind|some r=>
      erw[n]at q;cases r with
      |x c=>exact λd a e=>q d a (i.trans0 e)|v v b=>
       cases v with
       |bl k=>exact λd a e=>q d a (i.trans0 e)|_=>symm
    cases k with
    |true=>exact Kz (f q)|false=>exact LA<|f q
   |_=>symm
def XZ(h:tM K E ca (EG mc ma mb) O H Q):BG K E ca mc O H λk H1=>if k=true then tM K E ca ma O H1 Q else tM K E ca mb O H1 Q:=by
 let(F,Y,R,S,q):=h;refine{F,Y,R,S,?_};unfold EG at q;cases l:mc Y with
 |none=>rw[l]at q;symm|some r=>
  erw[l]at q;cases r with
  |x c=>exact q|v v b=>
   cases v with
   |bl k=>
    intro m H1 j;have n:=S.ext j
    have f:∀{i },(match i Y with
      |some (.v v b)=>∀d a x B,Ext F H d a B->E1 K d a R v b x B->Q x a|some (.x c)=>∀d a,Ext F H d a R0->XE (E O) ca c d a|none=>False)->tM K E ca i O H1 Q:=λ{i} q=>by
     refine{m,Y,R,n,?_};cases o:i Y with
     |none=>grind|some r=>
      erw[o]at q;cases r with
      |x c=>exact λd a e=>q d a (j.trans0 e)|v v b=>exact λd a x B e g=>q d a x B (j.trans0 e) g
    cases k with
    |true=>exact Kz (f q)|false=>exact LA<|f q
   |_=>symm
theorem r_ife(f:PT X c<|BG X.K E ca mc)(d:PE X a<|tM X.K E ca ma)(e:PE X b<|tM X.K E ca mb):PE X (.IfExp c a b pos)<|tM X.K E ca<|EG mc ma mb:=PE.weak (zhu f d e) λO H Q h=>XZ h
def zjw(h:BG K E ca (BW mc) O H Q):XN (BG K E ca mc) O H Q:=by
 let(F,Y,R,S,q):=h;refine{F,Y,R,S,?_};unfold BW at q;cases a:mc Y with
 |none=>rw[a]at q;symm|some r=>
  erw[a]at q;cases r with
  |x c=>exact q|v v b=>
   cases v with
   |bl k=>exact q|_=>symm
theorem znu(a:PT X c<|BG X.K E ca mc):PT X (.UnaryOp .Not c pos)<|BG X.K E ca<|BW mc:=PT.weak (zo8 a) λO H Q h=>zjw h
def zn7(h:tM K E ca (BW mc) O H Q):XM (tM K E ca mc) O H Q:=by
 let(F,Y,R,S,q):=h;refine{F,Y,R,S,?_};unfold BW at q;cases a:mc Y with
 |none=>rw[a]at q;symm|some r=>
  erw[a]at q;cases r with
  |x c=>exact q|v v b=>
   cases v with
   |bl k=>
    intro d f x B e g
    have i:x=.bl k:=by
     cases b with
     |true=>let(_,A,_,r):=g;exact r.bl_inv
     |false=>exact(g).bl_inv
    exact{k,i,q d f _ R0 (e.mono λϊ z=>z.elim)<|.bl _}
   |_=>symm
theorem r_not(b:PE X a<|tM X.K E ca ma):PE X (.UnaryOp .Not a pos)<|tM X.K E ca<|BW ma:=PE.weak (zop b) λO H Q h=>zn7 h
theorem XY(h:tM K E ca (EG mc ma mb) O H Q):tM K E ca mc O H λx H1=>∃k,x=.bl k/\if k=true then tM K E ca ma O H1 Q else tM K E ca mb O H1 Q:=MZ<|XZ h
def X2(r:∀F H,Rp K F H t v R0)(h:tM K E ca (mC t) O H Q):Q v H:=by
 let(F,Y,R,S,q):=h;exact q F H v R0 (Ext.refl S.fh)<|r _ _
theorem r_and{rest}(c:PE X a<|tM X.K E ca ma)(d:PE X (.BoolOp .And (b::rest) pos)<|tM X.K E ca mb):PE X (.BoolOp .And (a::b::rest) pos)<|tM X.K E ca<|Bg ma mb:=
 PE.weak (zot c d) λO H Q h=>(XY h).mono λx f ⟨k,e,q⟩=>{k,e,by
  cases k with
  |true=>exact q|false=>exact X2 (λϊ ϊ=>.bl _) q}
theorem r_or{rest}(c:PE X a<|tM X.K E ca ma)(d:PE X (.BoolOp .Or (b::rest) pos)<|tM X.K E ca mb):PE X (.BoolOp .Or (a::b::rest) pos)<|tM X.K E ca<|B0 ma mb:=
 PE.weak (pe_or c d) λO H Q h=>(XY h).mono λx f ⟨k,e,q⟩=>{k,e,by
  cases k with
  |true=>exact X2 (λϊ ϊ=>.bl _) q|false=>exact q}
theorem r_one(b:PE X a<|tM X.K E ca ma):PE X (.BoolOp op [a] pos)<|tM X.K E ca ma:=zoo b
def BG.mono(h:BG K E ca m O H Q)(w:∀x H',Q x H'->Q' x H'):BG K E ca m O H Q':=by
 let(F,Y,R,S,q):=h;refine{F,Y,R,S,?_};cases a:m Y with
 |none=>rw[a]at q;exact q|some r=>
  rw[a]at q;cases r with
  |v v b=>
   cases v with
   |bl k=>exact λd H' e=>w _ _ (q d H' e)|_=>symm
  |x c=>exact q
def QD(h:BG K E ca (mC<|.bl k) O H Q):Q k H:=by
 let(F,Y,R,S,q):=h;exact q F H<|Ext.refl S.fh
theorem PW.weak(h:PW X e t)(w:∀O H Q,t' O H Q->t O H Q):PW X e t':=λb a s O H Q I q=>h b a s O H Q I<|w O H Q q
theorem znt{rest}(c:PT X a<|BG X.K E ca ma)(d:PW X (.BoolOp .And (b::rest) pos)<|BG X.K E ca mb):PW X (.BoolOp .And (a::b::rest) pos)<|BG X.K E ca<|Bg ma mb:=
 PW.weak (zo6 c d) λO H Q h=>(X3 h).mono λk e q=>by
  cases k with
  |true=>exact q|false=>exact QD q
theorem r_wor{rest}(c:PT X a<|BG X.K E ca ma)(d:PW X (.BoolOp .Or (b::rest) pos)<|BG X.K E ca mb):PW X (.BoolOp .Or (a::b::rest) pos)<|BG X.K E ca<|B0 ma mb:=
 PW.weak (pw_or c d) λO H Q h=>(X3 h).mono λk e q=>by
  cases k with
  |true=>exact QD q|false=>exact q
theorem zkd(b:PT X a<|BG X.K E ca ma):PW X (.BoolOp .And [a] pos)<|BG X.K E ca ma:=Ψ b
theorem zkc(b:PT X a<|BG X.K E ca ma):PW X (.BoolOp .Or [a] pos)<|BG X.K E ca ma:=Ω b
end
section
variable {X:Cx}{pz:List<|Addr×Obj}{O:L2.St}{H:Hp}{s:Shared}{h':Heap}
def Hz{ch:List Addr}(I:Inv X pz O H s)(k:∀b o,b∉ch->s.heap.get? b=↑o->h'.get? b=↑o)(f:∀b∈ch,DE X pz H b):Inv X pz O H { s with heap:=h',toks:=t'}:=by
 have d:∀b u,H b=↑u->b∉ch:=λb u e z=>by rw[(f b z).1]at e;cases e
 refine I.step (g':=s.gens) (d':=s.drawn) (ch:=ch) (λb i=>?_) (λb o ϊ ϊ a e ϊ=>k b o a e) (λb o ϊ ϊ a e ϊ=>{o.slots,k b o a e}) (λϊ ϊ ϊ ϊ n=>n)
  (λb o a e=>{o,k b o a e}) (λϊ ϊ e=>e) (λϊ ϊ ϊ e=>e) (λb ps e=>{#[],by rw[e];simp}) (λm j=>?_) (λb u e=>?_) I.bare
 let(_,f1,f2,f3,f4,f5):=f b i;exact{(f3),f1,f4,f5};let(o,h,g,l,r):=j;exact{o,h,g,k _ o (λz=>(f _ z).2.1 rfl) l,r};refine(I.hok b u e).stay (λc v a q=>k c v ?_ q) (λϊ q=>q) λϊ ϊ q=>q;rcases a with z|z;rw[z];exact d b u e;exact d c _ z
def XC{ch:List Addr}{p:Addr}(I:Inv X pz O H s)(k:∀b o,b∉ch->s.heap.get? b=↑o->h'.get? b=↑o)(f:∀b∈ch,DE X pz H b)(i:s.heap.objs.size<=p)(new:DU X.prog X.w (upd H p o) h' p o) :
  Inv X pz O (upd H p o) { s with heap:=h',toks:=t' }:=by
 have d :=I.hok.fresh i;have x:∀b u,H b=↑u->b∉ch:=λb u e z=>by rw[(f b z).1]at e;cases e
 have h:∀b ob,s.heap.get? b=↑ob->b≠p:=λb ob e z=>by
  subst z;exact absurd (É e)<|Nat.not_lt.mpr i
 refine I.step (λb g=>?_) (λb o ϊ ϊ a e ϊ=>k b o a e) (λb o ϊ ϊ a e ϊ=>{o.slots,k b o a e}) (λb ob a e n=>by rw[BB<|h b ob e];exact n)
  (λb o a e=>{o,k b o a e}) (λb xs e=>by rw[BB<|DK e d];exact e) (λb o u e=>by rw[BB<|DK e d];exact e) (λb ps e=>{#[],by rw[BB<|DK e d,e];simp}) (λm t=>?_) (λb u e=>?_) I.bare
 let(_,f1,f2,f3,f4,f5):=f b g;exact{(f3),f1,f4,f5};let(o,l,j,w,r):=t;exact{o,l,j,k _ o (λz=>(f _ z).2.1 rfl) w,r};by_cases g:b=p;subst g;rw[Cn]at e;cases e;exact new;rw[BB g]at e;refine(I.hok b u e).stay (λc v a q=>k c v ?_ q) (λc q=>by rw[BB<|DK q d];exact q) λc xs q=>by rw[BB<|DK q d];exact q
 grind
theorem f7(f:DE X pz H b)(h:b≠p):DE X pz (upd H p o) b:={by rw[BB h];exact f.1,f.2}
end
def W5(K:q9)(k:Nat)(l:Addr):It:=
 {λi H=>∃xs x,Ab K H l xs/\xs[i]?=↑x,λi H x a=>∃p y,x=.ref p/\H p=none/\a=upd H p (.tup [.int ((k+i:Nat):Int),y])/\∀xs,Ab K H l xs->xs[i]?=↑y,λi H=>∃xs,Ab K H l xs/\xs.length<=i}
theorem drw{w:World}    {n:Nat}  {St }(D:Draws P w A it fp n Q St)(k:Nat):Draws P w A it fp (k+n) (λj x=>∃i,j=k+i/\Q i x) (λj h=>∃i,j=k+i/\St i h) where
 live:=λ_ h ⟨i,_,st⟩=>D.live i h st
 frame:=λ_ h a ⟨i,e,st⟩ c=>{i,e,D.frame i h a st c}
 item:=λj s R E d ⟨i,e,st⟩ hQ=>D.item i s R E (by lia) st λx a tk q b sb=>hQ x a tk {(i),e,q} {i+1,by lia,b} sb
 done:=λs R E ⟨i,e,st⟩ hE=>D.done s R E (by grind) hE
def zmf(f:IsEnum h e it i old)(a:h.IsListIter it l j)(b:h.IsList l its):l≠it/\l≠e:=by
 let(o,c,c1,_):=b;let(o2,d,c2,_):=a
 grind
theorem drw0(hh:A.handled=none)(d:its[i]?=none):Draws P w A it [it,l] i (λϊ ϊ=>True) (λj h=>j=i/\h.IsListIter it l i/\h.IsList l its) where
 live:=λ_ _ ⟨_,⟨o,ho,_⟩,_⟩=>{(o),ho}
 frame:=λ_ _ _ ⟨e,a,b⟩ c=>{e,a.at λo q=>c it (by simp) o q,b.at λo q=>c l (by simp) o q}
 item:=λj _ _ _ f ⟨e,_⟩=>absurd f<|by lia
 done:=λ_ _ _ ⟨_,a,b⟩ hE=>wpAny_nextOf_list_end hh a b d hE
def zf5{K}(k:Nat)(l e it:Addr)(g:e≠it) :
  Turn P w K (.Tuple elts kk tpos) (W5 K k l) [e,it] e (λi h=>(∃old,IsEnum h e it (k+i:Nat) old)/\h.IsListIter it l i) where
 mem:=by simp
 obj:=λi h st b a=>by
  let((old,d),o,M,t,hd):=st;obtain rfl|a:=Ì.mp a
  exact{_,d,λv z=>by
   have z' :=z;cases z'}
  have q :=by simpa using a
  subst q;exact{o,M,λv z=>by rw[hd]at z;cases z}
 keep:=λi h D st k=>by
  let((old,d),M):=st;exact{{old,k e (by simp) _ d},M.at λo q=>k it (by simp) o q}
 item:=by
  intro X G N F t i S s O H E I y st L;subst G N F;let((old,d),hit):=st;let(xs,x,B,Q):=L;let(n,T,p,hz):=I.list B;let(u,V,ru):=T.get Q;have C :=É d;have R:it<s.heap.objs.size:=by let(o,q,_):=hit;exact É q
  have hn :=I.hok.fresh<|Æ _;let(n1,n2):=zmf d hit p.isList;have Z:i<n.toArray.size:=by simpa using (Î.mp V).1
  refine wpAny_pyNext_enum_itemD (drw (Draws.list (A:=X.A.in1) (I.ok.hd t) it l n1 _) k) d {(i),rfl,hit,p.isList} (by lia) g (by simp[g,Í n2]) λx' D tk f ho c Y hsz hk=>?_;let(m,U,f):=f;have U:m=i:=by lia
  subst U
  have r :=by
   rw[List.getElem?_toArray,V]at f;exact(Û f).symm
  subst r;let(i2,r,c,_):=c;have r:i2=m+1:=by lia
  subst r
  have W:Inv X S O (upd H s.heap.objs.size<|.tup [.int<|k+m,x]) { s with heap:=D,toks:=tk+1 }:=by
   refine XC I (λb o a q=>hk b o (λz=>a<|by simp[z]) (λz=>a<|by simp[z]) q) y (Æ _) ?_;exact{by erw[ì,č];rw[Ĕ];decide,[.int (k+m) tk,x'],.cons {_,rfl}<|.cons ru .nil,_,Y,rfl,0,rfl}
  have f1:∀b∈[e,it],DE X S (upd H s.heap.objs.size<|.tup [.int (k+m:Nat),x]) b:=λb a=>f7 (y b a) (by
   obtain rfl|a:=Ì.mp a
   exact Ô C;have q :=by simpa using a
   subst q;exact Ô R)
  refine{.ref s.heap.objs.size,rfl,wpAny_letOwnedTupleGo_enum ho λh2 J j=>?_};refine{.ref s.heap.objs.size,_,Hz (ch:=[e]) W (λb o a q=>j.extBut b o (λz=>a<|by simp[z]) q)<|λb a=>f1 b (by simp at a;simp[a]),rfl,{_,x,rfl,hn,rfl,λys hy=>by rw[I.list_inj hy B];exact Q},{{_,by simpa[Int.add_assoc] using J},c.extBut j.extBut g.symm},λb a=>(f1 b a).1}
 done:=by
  intro X G N F t i S s O H E I y st L;subst G N F;let((old,d),hit):=st;let(xs,B,Q):=L;let(n,T,p,hz):=I.list B;have hl:=T.length;exact wpAny_pyNext_enum_endD (drw0 (I.ok.hd t) (by simp;lia)) d {(rfl),hit,p.isList} λD eb=>{rfl,Hz (ch:=[it]) I (λb o a q=>eb b o (λz=>a<|by simp[z]) q)<|λb a=>y b (by simp at a;simp[a])}
 self:=λϊ ϊ ϊ ϊ ϊ st h=>wpAny_pyIter_enum st.1.choose_spec h
def WZ(K:q9)(l1 l2:Addr):It:=
  {λi H=>∃xs x a y,Ab K H l1 xs/\xs[i]?=↑x/\Ab K H l2 a/\a[i]?=↑y,
   λi H x b=>∃p y z,x=.ref p/\H p=none/\b=upd H p (.tup [y,z])/\(∀xs,Ab K H l1 xs->xs[i]?=↑y)/\∀xs,Ab K H l2 xs->xs[i]?=↑z,
   λi H=>∃xs a,Ab K H l1 xs/\Ab K H l2 a/\(xs.length<=i\/a.length<=i)}
def zhc{K}(z TI TO i1 i2 l1 l2)(D:ZipApart z TI TO i1 i2 l1 l2) :
  Turn P w K (.Tuple elts kk tpos) (WZ K l1 l2) [z,TI,TO,i1,i2] z (λi h=>IsZip h z TI TO .none/\IsPair h TI (.ref i1) (.ref i2)/\(∃a b,IsPair h TO a b)/\h.IsListIter i1 l1 i/\h.IsListIter i2 l2 i) where
 mem:=by simp
 obj:=λi h st b d=>by
  let(l,e,(a,c,f),(o1,e1,_,d1),(o2,e2,_,d2)):=st;erw[Ì,Č,ė]at d;rcases d with rfl|rfl|rfl|rfl|rfl
  exact{_,l,λv z=>by
   have F :=z;cases F}
  exact{_,e,λv z=>by
   have F :=z;cases F}
  exact{_,f,λv z=>by
   have F :=z;cases F}
  exact{o1,e1,λv z=>by rw[d1]at z;cases z};exact{o2,e2,λv z=>by rw[d2]at z;cases z}
 keep:=λi h L st k=>by
  let(l,e,(a,c,f),r,t):=st;exact{k z (by simp) _ l,k TI (by simp) _ e,{a,c,k TO (by simp) _ f},r.at λo q=>k i1 (by simp) o q,t.at λo q=>k i2 (by simp) o q}
 item:=by
  intro X N S M hc i Y s O H E I G st Q;subst N S M;let(l,e,(a,c,f),r,t):=st;let(xs,x,ys,y,J,A,j,hy):=Q;let(V,rv,p,U):=I.list J;let(C,n,W,B):=I.list j;let(u,hu,ru):=rv.get A;let(u2,R,Z):=n.get hy;have hn :=I.hok.fresh<|Æ _
  have lt:∀b∈[z,TI,TO,i1,i2],b≠s.heap.objs.size:=λb d=>by
   erw[Ì,Č,ė]at d;rcases d with rfl|rfl|rfl|rfl|rfl
   exact Ô<|É l
   exact Ô<|É e
   exact Ô<|É f
   let(o,q,_):=r;exact Ô<|É q
   let(o,q,_):=t;exact Ô<|É q
  refine wpAny_pyNext_zip_item D l e f r t p.isList W.isList (by simpa using hu) (by simpa using R) λL a1 a2 a3 a4 a5 a6 hk=>?_
  have I1:Inv X Y O (upd H s.heap.objs.size<|.tup [x,y]) { s with heap:=L,toks:=s.toks }:=by
   refine XC I (λb o d q=>hk b o (λz=>d<|by simp[z]) (λz=>d<|by simp[z]) (λz=>d<|by simp[z]) (λz=>d<|by simp[z]) q) G (Æ _) ?_;exact{by erw[ì,č];rw[Ĕ];decide,[u,u2],.cons ru<|.cons Z .nil,_,a5,rfl,0,rfl}
  have f1:∀b∈[z,TI,TO,i1,i2],DE X Y (upd H s.heap.objs.size<|.tup [x,y]) b:=λb d=>f7 (G b d)<|lt b d
  refine{.ref s.heap.objs.size,rfl,wpAny_letOwnedTupleGo_zip a1 λh3 T g=>?_};refine{.ref s.heap.objs.size,_,Hz (ch:=[z]) I1 (λb o d q=>g.extBut b o (λz=>d<|by simp[z]) q)<|λb d=>f1 b (by simp at d;simp[d]),rfl,{_,x,y,rfl,hn,rfl,(λzs m=>by rw[I.list_inj m J];exact A),λzs m=>by rw[I.list_inj m j];exact hy},?_,λb d=>(f1 b d).1};exact{T,g.extBut _ _ D.TIz<|hk _ _ D.TIz D.TITO D.TIi1 D.TIi2 e,{_,_,g.extBut _ _ D.TOz a2},a3.extBut g.extBut D.i1z,a4.extBut g.extBut D.i2z}
 done:=by
  intro X N S M hc i Y s O H E I G st Q;subst N S M;let(l,e,(a,c,f),r,t):=st;let(xs,ys,J,j,A):=Q;let(V,rv,p,U):=I.list J;let(C,n,W,B):=I.list j;have hl:=rv.length;have hl2:=n.length;refine wpAny_pyNext_zip_end (I.ok.hd hc) D l e f r t p.isList W.isList ?_ λL hk=>{rfl,Hz I (λb o d q=>hk b o (λz=>d<|by simp[z]) (λz=>d<|by simp[z]) (λz=>d<|by simp[z]) (λz=>d<|by simp[z]) q) G}
  rcases A with A|A;exact .inl (by simp;lia);exact .inr (by simp;lia)
 self:=λϊ ϊ ϊ ϊ ϊ st h=>wpAny_pyIter_zip st.1 h
section
variable {X:Cx}{elts:kg}{kk:Nat}{tpos:Pos}
def iEnum(K:q9)(c:TA):TI:=λO H R=>c O H λd b=>∃a,d=[.ref a]/\(∃xs,Ab K b a xs)/\R (W5 K 0 a) b
def zkw(o:Gl X "enumerate")(r:X.mg "enumerate"=none)(n:PA X [a] ta)(v:starEach [a] X.env=[(false,eval a X.env)]):PI X (.Tuple elts kk tpos) (.Call (.Name "enumerate" p) [a] [] pos)<|iEnum X.K ta:=by
 intro j s O H R I h;refine Call_<|Gh I o r boot_enumerate<|Ę (A4 (n pos j s O H _ I h) λF c B=>?_) v rfl
 let(G,g,f,r1,z):=B;let(l,e,(xs,t),q):=z;subst e;let(u,rfl,A):=Ft r1;cases A;let(x,E,y,D):=f.list t;refine call_enumerate_list y.isList λm i hit w hk=>?_
 have k:Inv X j O g { c with heap:=m,toks:=c.toks }:=f.kept hk;refine wpAny_pyIter_enum i {c.heap.objs.size+1,[c.heap.objs.size+1,c.heap.objs.size],_,_,g,rfl,k,zf5 0 l _ _ (by simp),{{_,by simpa using i},hit},λb C=>?_,q}
 have d:c.heap.objs.size<=b:=by
  grind
 exact f.fpOk d<|f.hok.fresh d
def iZip(K:q9)(d:TA):TI:=λO H R=>d O H λe c=>∃a b,e=[.ref a,.ref b]/\(∃xs,Ab K c a xs)/\(∃xs,Ab K c b xs)/\R (WZ K a b) c
def zog(N:Gl X "zip")(P:X.mg "zip"=none)(M:PA X [a,b] ta)(S:starEach [a,b] X.env=[(false,eval a X.env),(false,eval b X.env)])(g:starEach [b] X.env=[(false,eval b X.env)]):PI X (.Tuple elts kk tpos) (.Call (.Name "zip" p) [a,b] [] pos)<|iZip X.K ta:=by
 intro C s O H R I h;refine Call_<|Gh I N P boot_zip<|Ę (A4 (M pos C s O H _ I h) λus c Z=>?_) (by rw[S,g]) (by rw[g];rfl)
 let(vs,w,d,r1,V):=Z;let(l1,l2,e,(xs,Q),(ys,r),q):=V;subst e;let(u,u2,rfl,W,v):=Hy r1;cases W;cases v;let(U,rv,B,hz):=d.list Q;let(A,Y,j,T):=d.list r;have t:l1<c.heap.objs.size:=by let(o,n,e,_):=B;exact É e
 have i:l2<c.heap.objs.size:=by let(o,n,e,_):=j;exact É e
 refine call_zip_2 B.isList j.isList λL x F G J K a6 hk=>?_;have E:Inv X C O w { c with heap:=L,toks:=c.toks }:=d.kept hk
 have D:ZipApart (c.heap.objs.size+4) (c.heap.objs.size+2) (c.heap.objs.size+3) c.heap.objs.size (c.heap.objs.size+1) l1 l2:=by
  have l:∀k:Nat,l1≠c.heap.objs.size+k:=λk z=>ã _<|Ü t<|z▸ĭ _ _
  have m:∀k:Nat,l2≠c.heap.objs.size+k:=λk z=>ã _<|Ü i<|z▸ĭ _ _
  refine{?_,?_,?_,?_,?_,?_,?_,?_,?_,?_,l 4,l 3,l 0,l 1,m 4,m 3,m 0,m 1}<;>intro z<;>simp at z
 refine wpAny_pyIter_zip x {_,[c.heap.objs.size+4,c.heap.objs.size+2,c.heap.objs.size+3,c.heap.objs.size,c.heap.objs.size+1],_,_,w,rfl,E,zhc _ _ _ _ _ l1 l2 D,{x,F,{_,_,G},J,K},λb y=>?_,q}
 have f:c.heap.objs.size<=b:=by
  erw[Ì,Č,ė]at y;rcases y with rfl|rfl|rfl|rfl|rfl
  exact ĭ _ _;exact ĭ _ _;exact ĭ _ _;exact Æ _;exact ĭ _ _
 exact d.fpOk f<|d.hok.fresh f
variable {pz:List<|Addr×Obj}{O:L2.St}{H:Hp}{s:Shared}{a:Addr}{o:Obj}{kvs:List<|Key×V}
def zpu(r:KV kvs vs):kvs.length=vs.length:=Ŕ<|r
end
section
variable {X:Cx}{o:Expr}{to:TE}{ap cp:Pos}{elts:kg}{kk:Nat}{tpos:Pos}
end
def KW(a:kg)(env:Env):Sem Bool:=forIn a true λc r=>if r=true then do let ok <- isTrue c env<|eval c env;pure (ForInStep.yield ok) else pure (ForInStep.yield r)
def Hu(X:Cx)(a:kg)(t:TT):Prop:=
 ∀(b:List<|Addr×Obj) (s:Shared) (O:L2.St) (H:Hp) (Q:Bool->Hp->Prop),Inv X b O H s->t O H Q->wpAny (model X.prog X.w) X.A (KW a X.env) (TP X b O Q) X.xe s
theorem zkm:Hu X []<|λϊ H Q=>Q true H:=λa s O H Q I h=>Ñ {(H),I,h}
theorem zkl(h:PT X c t):Hu X [c] t:=λd s O H Q I q=>by
 have e:KW [c] X.env=(isTrue c X.env (eval c X.env) >>= λok=>pure ok):=by
  unfold KW;simp
 rw[e];exact Â<|í (h d s O H Q I q) (λb f a=>Ñ a) λϊ ϊ z=>z
def zes:compTurn (.ListComp elt [{target,iter,ifs,0}] scope pos) 0 it acc env=(standAt iter.pos >>= λϊ=>pyNext it >>= λr=>match r with
  |none=>pure (.done .next)|some u=>letOwnedTupleGo target it u >>= λϊ=>assign target env u >>= λϊ=>KW ifs env >>= λok=>
   if ok=true then ((eval elt env >>= λx=>call (.builtin "list.append") [acc,x] >>= λϊ=>pure ()) >>= λϊ=>again<|.compLoop (.ListComp elt [{target,iter,ifs,0}] scope pos) 0 it acc env)
   else again (.compLoop (.ListComp elt [{target,iter,ifs,0}] scope pos) 0 it acc env)):=by rfl
def zet(j:NE=notedBy (model prog w) A env λe s'=>R (.error e) s')(I:Nat->Shared->Prop)
  (c : ∀ n s, I n s -> wpAny (model prog w) A (pyNext it) (fun r s₁ => match r with
   |none=>R (.ok .next) s₁|some v=>wpAny (model prog w) A (letOwnedTupleGo target it v) (λϊ s₁'=>wpAny (model prog w) A (assign target env v) (λϊ s₂=>wpAny (model prog w) A (KW ifs env) (λok s₂'=>if ok=true then wpAny (model prog w) A (eval elt env) (λx s₃=>
     wpAny (model prog w) A (call (.builtin "list.append") [acc,x]) (λϊ s₄=>∃m,m<n/\I m s₄) NE s₃)
     NE s₂' else ∃m,m<n/\I m s₂') NE s₂) NE s₁') NE s₁) NE s)
  (k ) (hk:I k s):codeAny (model prog w) A (.compLoop (.ListComp elt [{target,iter,ifs,0}] scope pos) 0 it acc env) R s:=by
 subst j;refine codeAny_loop rfl I (λn s i=>?_) k hk;refine wpAny_noted ?_;rw[zes];refine Â<|Ń<|Â<|í (c n s i) (λr s₁ b=>?_) λϊ ϊ z=>z
 cases r with
 |none=>exact Ñ b|some v=>
  refine Â<|í b (λϊ s₁' d=>?_) λϊ ϊ z=>z
  refine Â<|í d (λϊ s₂ f=>Â<|í f (λok s₂' a=>?_) λϊ ϊ z=>z) λϊ ϊ z=>z
  cases ok with
  |false=>
   rw[if_neg<|by decide]at a ⊢;exact Ñ {(rfl),a}
  |true=>rw[if_pos rfl]at a ⊢;exact Â<|Â<|í a (λx s₃ g=>Â<|í g (λϊ s₄ h=>Ñ<|Ñ {(rfl),h}) λϊ ϊ z=>z) λϊ ϊ z=>z
def VX(env ):∀(names:List<|Str×NameKind),(∀y∈names,y.2=.free->∃c,env.cells.lookup y.1=↑c)->∀acc ,∃cl ,
  (forIn names acc λ(x:Str×NameKind) r=>if (x.2 == NameKind.free)=true then do let a <- cellOf env x.1;pure (ForInStep.yield<|(x.1,a)::r) else pure (ForInStep.yield r))=pure cl /\
  (∀y c,cl.lookup y=↑c->acc.lookup y=↑c\/env.cells.lookup y=↑c)/\(∀y∈names,y.2=.free->∃c,cl.lookup y.1=↑c)/\∀y c,acc.lookup y=↑c->∃c',cl.lookup y=↑c'
 |[],ϊ,acc=>{acc,rfl,λϊ ϊ e=>.inl e,(λϊ z=>by cases z),λϊ c e=>{(c),e}}|(n,k)::r,h,acc=>by
  rw[List.forIn_cons];by_cases hk:k=.free;subst hk;let(c,l):=h (n,.free) (Ë ..) rfl;have m:cellOf env n=pure c:=by unfold cellOf;rw[l]
  let(cl,e,g,i,d):=VX env r (λy b=>h y<|Ê _ b)<|(n,c)::acc
  refine{cl,?_,λy c' q=>?_,λy b f=>?_,λy c' q=>?_};erw[î,Ä,m,pure_bind];exact e;rcases g y c' q with z|z;rw[ç]at z;cases b:y == n with
  |true=>rw[b]at z;cases z;exact .inr (by rw[eq_of_beq b];exact l)|false=>rw[b]at z;exact .inl z
  exact .inr z;obtain rfl|b:=Ì.mp b
  exact d n c<|by simp
  exact i y b f;by_cases b:y=n;subst b;exact d y c<|by simp
  exact d y c' (by rw[ç,beq_eq_false_iff_ne.mpr b];exact q);have j:(k == NameKind.free)=false:=beq_eq_false_iff_ne.mpr hk;let(cl,e,g,i,d):=VX env r (λy b=>h y<|Ê _ b) acc
  refine{cl,?_,g,λy b f=>?_,d};erw[j,pure_bind];exact e;obtain rfl|b:=Ì.mp b
  exact absurd f hk;exact i y b f
def zds(scope)(env)(h:∀y∈scope.names,y.2=.free->∃c,env.cells.lookup y.1=↑c):∃cl,closureFor scope env=pure cl/\(∀y c,cl.lookup y=↑c->env.cells.lookup y=↑c)/\∀y∈scope.names,y.2=.free->∃c,cl.lookup y.1=↑c:=by
 let(cl,e,d,f,_):=VX env scope.names h [];refine{cl,?_,λy c q=>?_,f};have b:closureFor scope env=(forIn scope.names [] λ(x:Str×NameKind) (r:List<|Str×Addr)=>(if (x.2 == NameKind.free)=true then do let a <- cellOf env x.1;pure (ForInStep.yield<|(x.1,a)::r) else pure (ForInStep.yield r):Sem<|ForInStep<|List<|Str×Addr)) >>= pure:=rfl;rw[b,e,pure_bind];rcases d y c q with z|z;cases z;exact z
set_option tactic.hygienic true in
def VZ:∀(names ) (h:Heap) (acc ) (y ) (c ),(cellsFrom h.objs.size names acc).lookup y=↑c->acc.lookup y=↑c\/(h.objs.size<=c/\(pushCells h names).IsCell c none/\(y,NameKind.cell)∈names)
 |[],h,acc,y,c,e=>.inl e|(n,k)::r,h,acc,y,c,e=>by
  unfold cellsFrom at e;unfold pushCells;split at e;rename_i hk;rw[if_pos hk];have g:(h.push { cls:=.type "cell",data:=.cell none }).objs.size=h.objs.size+1:=Ğ ..;rw[<- g]at e
  rcases VZ r _ _ y c e with q|⟨a,d,f⟩;rw[ç]at q;cases b:y == n with
  |true=>rw[b]at q;cases q;have i:y=n:=eq_of_beq b;subst i;exact .inr {Æ _,{_,Ř _ _ _ _<|æ _ rfl,rfl},by rw[eq_of_beq hk];exact Ë ..}|false=>rw[b]at q;exact .inl q
  exact .inr {by rw[g]at a;exact Ú (ġ _) a,d,Ê _ f};rename_i hk;rw[if_neg hk];rcases VZ r h acc y c e with q|⟨a,d,f⟩;exact .inl q;exact .inr {a,d,Ê _ f}
def V3:∀(names) (h:Heap) (acc:List<|Str×Addr),(∀y z c,acc.lookup y=↑c->acc.lookup z=↑c->y=z)->(∀y c,acc.lookup y=↑c->c<h.objs.size) ->
  ∀y z c,(cellsFrom h.objs.size names acc).lookup y=↑c->(cellsFrom h.objs.size names acc).lookup z=↑c->y=z
 |[],h,acc,f,ϊ=>f|(n,k)::r,h,acc,f,g=>by
  unfold cellsFrom;split;have i:(h.push { cls:=.type "cell",data:=.cell none }).objs.size=h.objs.size+1:=Ğ ..;rw[<- i];refine V3 r _ _ (λy z c a b=>?_)<|λy c a=>?_
  rw[ç]at a b;cases d:y == n with
  |true=>
   rw[d]at a;cases a;cases e:z == n with
   |true=>rw[eq_of_beq d,eq_of_beq e]|false=>rw[e]at b;exact absurd (g z _ b)<|ã _
  |false=>
   rw[d]at a;cases e:z == n with
   |true=>rw[e]at b;cases b;exact absurd (g y _ a) (ã _)|false=>rw[e]at b;exact f y z c a b
  rw[ç]at a;rw[i];cases d:y == n with
  |true=>rw[d]at a;cases a;exact Ĝ _|false=>rw[d]at a;exact ī<|g y c a
  exact V3 r h acc f g
set_option tactic.hygienic true in
def VY:∀(names) (n lo:Nat) (acc:List<|Str×Addr) (y) (c),lo<=n->((y,NameKind.cell)∈names\/∃c0,acc.lookup y=↑c0/\lo<=c0)->(cellsFrom n names acc).lookup y=↑c->lo<=c
 |[],n,lo,acc,y,c,a,h,e=>by
  rcases h with h|⟨c0,b,d⟩;cases h;have g:acc.lookup y=↑c:=e;rw[b]at g;cases g;exact d
 |(m,k)::r,n,lo,acc,y,c,a,h,e=>by
  unfold cellsFrom at e;split at e;refine VY r (n+1) lo _ y c (Nat.le_succ_of_le a) ?_ e;by_cases f:y=m;subst f;exact .inr {n,by simp,a};rcases h with h|⟨c0,b,d⟩;rcases Ì.mp h with z|z;cases z;exact absurd rfl f;exact .inl z;exact .inr {c0,by rw[ç,beq_eq_false_iff_ne.mpr f];exact b,d};rename_i hk;refine VY r n lo acc y c a ?_ e;rcases h with h|h;rcases Ì.mp h with z|z;cases z;exact absurd rfl hk;exact .inl z;exact .inr h
def zc8{code}
  (c:Q (newEnv scope s.heap.objs.size globals (cellsFrom (s.heap.objs.size+1) scope.names cl) qual func code ↑outer builtins) { s with heap:=pushCells (s.heap.push { cls:=.type "dict",data:=.dict #[] }) scope.names }) :
  wpAny M A (newFunctionEnv scope globals cl [] qual func code ↑outer builtins) Q E s:=by
 erw[newFunctionEnv,Option.isSome_some,Ä];refine Â<|wpAny_alloc ?_;refine Â<|wpAny_layCells _ (λb kind a=>by rfl) _ _ _ _ ?_;rw[Ğ ..]
 exact Â<|Ñ<|Ñ c
abbrev Dw(X:Cx)(a:Scope)(cl:List<|Str×Addr)(b:ki)(C:Addr)(s₀:Shared)(H₀:Hp)(ex:List Addr)(c:Value->Shared->Prop):Cx:={ zqn X a cl b C s₀ H₀ ex with fn:=λx=>decide (a.names.lookup x=↑.cell),xe:=c }
def jK{h c B a:Heap}(k:∀b o,B.get? b=none->h.get? b=↑o->(∀us,o.data≠.fields us)->a.get? b=none/\∃o',c.get? b=↑o'/\∀us,o'.data≠.fields us):∀{l},h.FunFrames B l->c.FunFrames a l
 |[],ϊ=>trivial|_::_,{x,{(L),o,d,e,f,g},r}=>by
  let(i,o',j,m):=k L o e f g;exact{x,{(L),o',d,i,j,m},jK k r}
def Iq(X:Cx):Prop:=∃v l,X.stack=v::l/\X.env.frame=v.frame
def zgi{X:Cx}   {O:L2.St}{H:Hp}        (hx:Ca X E)(hst:Iq X)(I:Inv X pz O H s)(Y:DE X pz H C)(hC:∃m,s.heap.Ns C m)(nC:C∉Bc X.stack)
  (hb:benv.frame=X.env.frame) (h:Dh X.prog X.w X.stack H s (E O) e s'):wpAny (model X.prog X.w) X.A (noteFrame e benv) (λϊ s2=>compPost (model X.prog X.w) X.A X.xe use QQ acc C (.error e) s2) EE s':=by
 let(v,l,st,hv):=hst;let(a,U,H',B,rfl,os,bare,un,hok,kB,tB,Z,he):=h;have F :=st▸Z
 let(L,hL):∃L,v.frame=↑L:=by
  let(_,_,_,(_,(L,_,y,_),_),_):=F;exact{(L),y}
 refine Sa (st▸I.ok.frames) (hb.trans hv) hL F λh4 M sm=>?_;let(m,S,es,ep,G,dC,rC):=hC;have bC :=kB C S G Y.1 nC;let(f1,f2,f3,oe,ws,Q,oT,ts,ha,hcl,hd,g1,nT,A,hT,dT,g3):=M
 have r:∀{b },B.get? b=none->b≠C:=λz w=>by
  rw[w,bC]at z;cases z
 have key:∃m,h4.Ns C m/\∀h',Heap.SameBut C h4 h'->∀i ,i.locals=C->wpAny (model X.prog X.w) X.A (PySem.passOn "comprehension.variables-let-go" (.ref a) i:Sem Value) (λϊ ϊ=>False) X.xe { s' with heap:=h' }:=by
  refine{m,{S,es,ep,f1 C S bC,dC,rC},λh5 sb i ϊ=>?_};have p :=(sb.2 a<|r f2).trans ha;have J :=(sb.2 Q<|r nT).trans hT;unfold PySem.passOn;refine Â<|ĕ p hd g1 ?_;rw[if_neg<|by simp]
  refine Â ?_;unfold setFlight;refine Â<|ĕ p hd g1 ?_;rw[if_pos<|by simp]
  refine ŗ J dT (Ĵ.mp g3).1 (wpAny_throw ?_);generalize hfl:(i.frame.elim Value.none λf=>rawInt f)=fl;have D:=ŏ dT (·.setIfInBounds 3 fl);have K:=Ō (Obj.mapFields (·.setIfInBounds 3 fl)) J<|ŧ D;generalize N:h5.update Q (Obj.mapFields (·.setIfInBounds 3 fl))=h6 at K ⊢
  have t:∀b o,b≠C->b≠Q->h4.get? b=↑o->h6.get? b=↑o:=λb o n1 n2 e=>by
   rw[<- N,ĉ _ _<|Í n2];exact(sb.2 b n1).trans e
  have T :=λb o n e=>t b o n (λz=>by rw[z,nT]at e;cases e)<|f1 b o e
  have g:∀{b } {o },(W.hideAll s.heap [C]).get? b=↑o->s.heap.get? b=↑o/\b≠C:=λ{b o} e=>{ķ _ e,λz=>by
   rw[z,ũ [C]<|Ï.mpr rfl]at e;cases e}
  have j:∀{b } {o },b≠C->B.get? b=↑o->(W.hideAll B [C]).get? b=↑o:=λ{b o} n e=>Ĩ _ e<|λz=>n<|Ï.mp z
  have k:∀{b },B.get? b=none->(W.hideAll B [C]).get? b=none:=λ{b} e=>by
   cases q:(W.hideAll B [C]).get? b with
   |none=>rfl|some o=>rw[ķ _ q]at e;cases e
  have IX :=Hz (t':=s.toks) I (λb o n e=>Ĩ _ e n) λb z=>by
   rw[Ï.mp z];exact Y
  have slot:∀b o,s.heap.get? b=↑o->H b=none->b∈Bc X.stack->∃z,h6.get? b=↑{ o with slots:=z }:=λb o e n z=>by
   let(_,o2,P,d2):=I.stack.mem z;rw[e]at P;cases P;let(z2,e2):=un.slot b o e n z<|by simp
   let(z3,V):=sm b _ e2 d2;refine{z3,t b _ (λw=>nC<|w▸z) (λw=>?_) V};rw[w,hT]at V;cases V;exact d2 _ dT
  have HC :=un.free C S G Y.1<|by simp
  refine hx pz O H _ _ _ IX {a,U,H',W.hideAll B [C],rfl,os,bare,{λb o e n z ϊ=>?_,λb o e n z ϊ=>slot b o (g e).1 n z,λb o e n z=>un.free b o (g e).1 n z,λb o e ϊ=>?_,un.tups,un.frzs,un.tbls},?_,λb o e n z=>j (g e).2 (kB b o (g e).1 n z),λb o e z=>?_,{fl,λb o e=>?_,k f2,?_,?_},he};exact T b o (g e).2 (kB b o (g e).1 n z);by_cases z:b∈Bc X.stack;let(w,q):=slot b o (g e).1 (I.stkFree b z) z;exact{_,q};let(R,q):=tB b o (g e).1 z;exact{R,T b R (g e).2 q};intro b u e;refine(hok b u e).stay (λc x hc q=>j (λw=>?_) q) (λϊ q=>q) λϊ ϊ q=>q;rcases hc with y|y;rw[<- y,w,HC]at e;cases e;rw[w,HC]at y;cases y;let(R,q):=tB b o (g e).1 z;exact{R,j (g e).2 q};have e':=ķ _ e;refine T b o (λw=>?_) e';rw[w,ũ [C]<|Ï.mpr rfl]at e;cases e;rw[st];refine jK (λb o n e d=>{k n,o,t b o (r n) (λw=>?_) e,d}) f3;rw[w,hT]at e;cases e;exact d _ dT;refine{oe,ws,Q,_,_,?_,hcl,hd,g1,k nT,A,K,D,?_};rw[<- N,ĉ _ _ A];exact p;simp[Array.getElem?_setIfInBounds,(Ĵ.mp g3).1]
 cases use<;>exact key
structure TurnG(cq:Cx->Prop)(P:Program)(w:World)(K:q9)(tg:Expr)(Γ:It)(fp:List Addr)(it:Addr)(tn:Nat->Heap->Prop):Prop where
 obj:∀i h,tn i h->∀b∈fp,∃o,h.get? b=↑o/\∀v,o.data≠.cell v
 keep:∀i h h',tn i h->(∀b∈fp,∀o,h.get? b=↑o->h'.get? b=↑o)->tn i h'
 item:∀(X:Cx),X.prog=P->X.w=w->X.K=K->cq X->∀(i:Nat) (pz:List<|Addr×Obj) (s:Shared) (O:L2.St) (H:Hp) (E:Value->Shared->Prop),Inv X pz O H s->(∀b∈fp,DE X pz H b)->tn i s.heap->Γ.go i H ->
  wpAny (model P w) X.A (pyNext<|.ref it) (λr s1=>∃u,r=↑u/\wpAny (model P w) X.A (letOwnedTupleGo tg (.ref it) u) (λϊ s2=>∃x H',Inv X pz O H' s2/\Ac x u/\Γ.yld i H x H'/\tn (i+1) s2.heap/\∀b∈fp,H' b=none) E s1) E s
 done:∀(X:Cx),X.prog=P->X.w=w->X.K=K->cq X->∀(i:Nat) (pz:List<|Addr×Obj) (s:Shared) (O:L2.St) (H:Hp) (E:Value->Shared->Prop),Inv X pz O H s->(∀b∈fp,DE X pz H b)->tn i s.heap->Γ.stop i H ->
  wpAny (model P w) X.A (pyNext<|.ref it) (λr s1=>r=none/\Inv X pz O H s1) E s
 self:∀(A:Around) (i:Nat) (s:Shared) (Q:Value->Shared->Prop) (E:Value->Shared->Prop),tn i s.heap->Q (.ref it) s->wpAny (model P w) A (pyIter<|.ref it) Q E s
def PJ(cq:Cx->Prop)(X:Cx)(i a:Expr)(j:TI):Prop:=
 ∀(e:List<|Addr×Obj) (s:Shared) (O:L2.St) (H:Hp) (R:It->Hp->Prop),Inv X e O H s->j O H R ->
  wpAny (model X.prog X.w) X.A (eval a X.env) (λv h=>wpAny (model X.prog X.w) X.A (pyIter v) (λd g=>∃(it:Addr) (f:List Addr) (tn:Nat->Heap->Prop) (Γ:It) (c:Hp),d=.ref it/\Inv X e O c g/\TurnG cq X.prog X.w X.K i Γ f it tn/\tn 0 g.heap/\(∀b∈f,DE X e c b)/\R Γ c) X.xe h) X.xe s
theorem Y6(h:PI X tg iter wi):PJ (λX=>X.calm=true) X tg iter wi:=λb s O H R I q=>
 A4 (h b s O H R I q) λϊ ϊ a=>A4 a λ_ _ ⟨it,fp,tn,Γ,H',e,I2,T,r⟩=>{it,fp,tn,Γ,H',e,I2,{(T.obj),T.keep,T.item,T.done,T.self},r}
section
variable {X:Cx}{elt iter tg:Expr}{ifs:kg}{scope:Scope}{pos pos2:Pos}{cl:List<|Str×Addr}{N':ki}{wi:TI}{g:TG}{tt:TT}{te:TE}
def M0(j:L2.St->L2.St)(o:TI)(g:TG)(m:TT)(l:TE):TE:=λO H Q=>o O H λΓ e=>∃(W:Nat->qA->L2.St->Hp->Prop) (n:Nat),n<=sizeLine/\W 0 [] (j O) e/\∀i b Y H,W i b Y H->b.length<=i/\i<=n /\
 ((Γ.stop i H/\∀p,H p=none->Q (.ref p) (upd H p<|.lst b))\/(i<n/\Γ.go i H/\∀x c,Γ.yld i H x c->g x Y c λa f=>m a f λk d=>if k=true then l a d λy h=>W (i+1) (b++[y]) a h else W (i+1) b a d))
def AC(X:Cx)(a:Scope)(b:ki)(E:L2.St->XK)(F:Cx->Prop):Prop:=∀cl C s₀ H₀ ex c,Ca (Dw X a cl b C s₀ H₀ ex c) E->F (Dw X a cl b C s₀ H₀ ex c)
structure BlkC(X:Cx)(scope:Scope)(N':ki)(O':L2.St->L2.St)(cl:List<|Str×Addr):Prop where
 clos:closureFor scope X.env=pure cl
 kind:scope.kind=.function
 names:∀y∈scope.names,y.2=.local->scope.names.lookup y.1=↑.local
 sub:∀y c,cl.lookup y=↑c->X.env.cells.lookup y=↑c
 has:∀y,(relabel scope X.env).names.lookup y=↑.cell\/(relabel scope X.env).names.lookup y=↑.free->(y,NameKind.cell)∈scope.names\/∃c,cl.lookup y=↑c
 cap:∀(O:L2.St) (i:Nat) (y:Str) (v:V),N'[i]?=↑y->(O' O)[i]?=↑↑v->(y,NameKind.cell)∉scope.names
 len:∀O:L2.St,O.length=X.N.length->(O' O).length=N'.length
 vis:∀(O:L2.St) (i:Nat) (y:Str) (v:V),N'[i]?=↑y->(O' O)[i]?=↑↑v->((relabel scope X.env).names.lookup y=↑.cell\/(relabel scope X.env).names.lookup y=↑.free)/\∃j:Nat,X.N[j]?=↑y/\O[j]?=↑↑v/\EI X.env.scope y/\X.env.kindOf y≠↑.local
set_option tactic.hygienic true in
def eA{O':L2.St->L2.St}(L:BlkC X scope N' O' cl){cq:Cx->Prop}(hc:∀Z O H s cl C ex xb,Inv X Z O H s->cq (Dw X scope cl N' C s H ex xb))(hi:PJ cq X tg iter wi){E:L2.St->XK}(hps:Ca X E)(hst:Iq X){O:L2.St}(hg:AC X scope N' (λϊ=>E O) λτ=>PG τ tg g/\Hu τ ifs tt/\PE τ elt te)
  (hs:∀x,foldedSetIterable iter X.env x=pure x) {use:Option<|Value->Sem Unit} {Z:List<|Addr×Obj} {s:Shared} {H:Hp} {Q:VK} {QQ:Value->Shared->Prop} (I:Inv X Z O H s) (h:M0 O' wi g tt te O H Q)
  (hend:∀(D C:Addr) (s5:Shared) (H5:Hp),Inv X Z O H5 s5->Q (.ref D) H5->(∃m,s5.heap.Ns C m)->DE X Z H5 C->compPost (model X.prog X.w) X.A X.xe use QQ (.ref D) C (.ok .next) s5) :
  wpAny (model X.prog X.w) X.A (comprehension (.ListComp elt [{tg,iter,ifs,0}] scope pos) scope X.env pos2 (newList []) false (eval iter X.env) use) QQ X.xe s:=by
 let(hclos,hkind,hnames,hcl,hhas,hcap,hσ,hvis):=L;refine wpAny_comprehension_free (use:=use) rfl hs hclos hkind hnames<|A4 (hi Z s O H _ I h) λv s1 h1=>A4 h1 λitv f h2=>?_
 let(it,G,tn,Γ,P,e,t,T,st2,f2,W,n,hn,w0,turn):=h2;subst e;refine ſ<|zc8 ?_;dsimp only;generalize hHp:f.heap.push { cls:=.type "list",dict:=none,data:=.seq ([]:kc).toArray }=P2;generalize N:cellsFrom (P2.objs.size+1) scope.names cl=cl';generalize hh1:pushCells (P2.push { cls:=.type "dict",data:=.dict #[] }) scope.names=h₁;have hC:P2.objs.size=f.heap.objs.size+1:=by rw[<- hHp,Ğ]
 have hP3:(P2.push { cls:=.type "dict",data:=.dict #[] }).objs.size=P2.objs.size+1:=Ğ ..;have hDC:f.heap.objs.size≠P2.objs.size:=by rw[hC];exact Ô<|Ĝ _
 have J:∀b,b<f.heap.objs.size->b≠P2.objs.size/\b≠f.heap.objs.size:=λb a=>{by rw[hC];exact Ô<|ī a,Ô a}
 have V:∀b o,f.heap.get? b=↑o->h₁.get? b=↑o:=λb o e=>by
  rw[<- hh1];exact Ř _ _ _ _<|Ø _<|hHp▸Ø _ e
 have hacc:h₁.PlainList f.heap.objs.size #[]:={_,by
  rw[<- hh1];exact Ř _ _ _ _<|Ø _<|hHp▸æ _ rfl}
 have hns₁:h₁.Ns P2.objs.size<|λϊ=>none:=by
  rw[<- hh1];exact(Heap.Ns.new P2<|.type "dict").keeps (Ř _ _)
 have K:∀y c,cl'.lookup y=↑c->X.env.cells.lookup y=↑c\/(P2.objs.size<c/\h₁.IsCell c none/\(y,NameKind.cell)∈scope.names):=λy c e=>by
  rw[<- N,<- hP3]at e;rcases VZ _ _ _ y c e with q|⟨q1,q2,q3⟩;exact .inl<|hcl y c q
  rw[hP3]at q1;rw[hh1]at q2;exact .inr {(q1),q2,q3}
 have has':∀y,(y,NameKind.cell)∈scope.names\/(∃c,cl.lookup y=↑c)->∃c,cl'.lookup y=↑c:=λy hy=>by
  rw[<- N]
  have go:∀(names:List<|Str×NameKind) (n:Nat) (acc:List<|Str×Addr),((y,NameKind.cell)∈names\/∃c,acc.lookup y=↑c)->∃c,(cellsFrom n names acc).lookup y=↑c:=by
   intro names
   induction names with
   |nil=>
    intro n acc h;rcases h with h|h;cases h;exact h
   |cons x r ih=>
    let(m,k):=x;intro n acc h;unfold cellsFrom;split;refine ih _ _ ?_;by_cases hm:y=m;subst hm;exact .inr {n,by simp};rcases h with h|⟨c,h⟩;rcases Ì.mp h with z|z;cases z;exact absurd rfl hm;exact .inl z;exact .inr {c,by rw[ç,beq_eq_false_iff_ne.mpr hm];exact h};rename_i hk;refine ih _ _ ?_;rcases h with h|h;rcases Ì.mp h with z|z;cases z;exact absurd rfl hk;exact .inl z;exact .inr h
  exact go _ _ _ hy
 have fsub:∀b∈Bc X.stack,b∈X.env.locals::X.fs:=t.stkSub
 have fpfs:∀b∈G,b∉Bc X.stack:=λb a z=>by
  let(_,h2,h3,_):=f2 b a;rcases Ì.mp (fsub b z) with q|q;exact h2 q;exact h3 q
 have F:∀b∈G,b<f.heap.objs.size:=λb a=>by
  let(o,e,_):=T.obj 0 _ st2 b a;exact É e
 have cold:∀y c,cl'.lookup y=↑c->c<f.heap.objs.size\/P2.objs.size<c:=λy c e=>by
  rcases K y c e with q|q;let(v,z):=t.cell y c q;exact .inl z.lt;exact .inr q.1
 have cneD:∀y c,cl'.lookup y=↑c->c≠f.heap.objs.size:=λy c e z=>by
  rcases cold y c e with q|q;rw[z]at q;exact ã _ q;rw[z,hC]at q;exact absurd q<|Nat.not_lt.mpr<|ġ _
 have cneF:∀b,b<f.heap.objs.size->(∀y c,X.env.cells.lookup y=↑c->c≠b)->∀y c,cl'.lookup y=↑c->c≠b:=λb a hx y c e z=>by
  rcases K y c e with q|q;exact hx y c q z;have:=q.1;rw[z,hC]at this;exact absurd (į a<|Nat.lt_of_succ_lt this)<|ã _
 have A:∀b,f.heap.objs.size<=b->P b=none:=λb a=>t.hok.fresh a;have CS:f.heap.objs.size<=P2.objs.size:=by rw[hC];exact ġ _
 let(xb,hxb):∃xb,xb=notedBy (model X.prog X.w) X.A (compEnvC scope cl' P2.objs.size X.env) λe s'=>compPost (model X.prog X.w) X.A X.xe use QQ (.ref f.heap.objs.size) P2.objs.size (.error e) s':={_,rfl}
 have hpb:Ca (Dw X scope cl' N' P2.objs.size f P G xb)<|λϊ=>E O:=by
  subst hxb;intro pins4 σ4 H4 s4 e s' I4 hcx
  have IX:Inv X Z O H4 s4:=t.call' (s':=s4) (ch:=G) I4.os I4.base I4.hok I4.bare λb a=>by
   let(g1,g2,g3,g4,g5,g6):=f2 b a;exact{(g4),g2,g5,g6}
  let(m4,hm4,_):=I4.loc
  exact zgi hps hst IX {I4.free,(t.fpOk (H':=P) CS<|A _ CS).2} {(m4),hm4} (λz=>by
   let(o,ho,_):=(t.stack.mem z).2;exact absurd (É ho)<|Nat.not_lt.mpr CS) rfl hcx
 let(hg,ht,he):=hg _ _ _ _ _ _ hpb
 have ok':(Dw X scope cl' N' P2.objs.size f P G xb).Ok:=by
  refine{t.ok.mod,hkind,t.ok.glob,t.ok.blt,CS,?inj,λy hy=>has' y<|hhas y hy,?cab,t.ok.hd,t.ok.frames,.inl rfl,λb a=>{(J b<|F b a).1,cneF b (F b a) λy c e=>(f2 b a).2.2.2.2.1 y c e},
   λb o e=>t.bs b o e,Ú t.ok.bsz t.sz,λb o e a=>?_,λb a=>fpfs b a,t.stack,t.stkFree}
  case inj=>
   intro y z c h1 h2;have h1':(cellsFrom (P2.push { cls:=.type "dict",data:=.dict #[] }).objs.size scope.names cl).lookup y=↑c:=by rw[hP3,N];exact h1
   have h2':(cellsFrom (P2.push { cls:=.type "dict",data:=.dict #[] }).objs.size scope.names cl).lookup z=↑c:=by rw[hP3,N];exact h2
   refine V3 scope.names _ cl (λy z c g1 g2=>t.ok.inj y z c (hcl y c g1)<|hcl z c g2) (λy c g=>?_) y z c h1' h2';let(v,q):=t.cell y c<|hcl y c g;rw[hP3,hC];exact ī<|ī q.lt
  case cab=>
   intro y c hy e;have hy':scope.names.lookup y=↑.cell:=ä hy;have e':(cellsFrom (P2.objs.size+1) scope.names cl).lookup y=↑c:=by rw[N];exact e
   exact Ú CS<|Ú (ġ _)<|VY scope.names _ (P2.objs.size+1) cl y c (Æ _) (.inl<|ċ hy') e'
  let(_,_,_,q,_):=f2 b a;rcases q with q|q;exact t.ok.noex b o e q;exact absurd (Ü (É e)<|Ú t.ok.bsz q)<|ã _
 have I':Inv (Dw X scope cl' N' P2.objs.size f P G xb) Z (O' O) P { f with heap:=h₁ }:=by
  refine{ok',rfl,t.bare,Un.kept V,{_,hns₁,λi y v h1 h2 h3=>?_},λy c e=>?_,A _ CS,?fc,λp hp=>?_,t.hok.kept V,hσ O t.len}
  case fc=>
   intro y c e;rcases K y c e with q|q;exact t.freeC y c q;exact A c<|Ú CS<|ŕ q.1
  let(hk,j,h4,h5,h6,h7):=hvis O i y v h1 h2;have hno:=hcap O i y v h1 h2;let(m,hn',hl):=t.loc;let(u,r,l):=hl j y v h4 h5 h6;let(c,hcc):=has' y<|hhas y hk;refine{u,r,.inr {hk,c,hcc,?_}}
  rcases l with ⟨k1,_⟩|⟨_,c',e',z⟩;exact absurd k1 h7;rcases K y c hcc with w|w;rw[w]at e';cases e';let(o,ho,hd):=z;exact{o,V _ _ ho,hd}
  exact absurd w.2.2 hno;rcases K y c e with w|w;let(v,o,ho,hd):=t.cell y c w;exact{v,o,V _ _ ho,hd};exact{(none),w.2.1};let(M,e2,e3,e4,e5):=t.pin p hp;refine{V _ _ M,e2,(J _<|É M).1,λz=>?_,e5};rcases Ì.mp (fsub _ z) with q|q;exact e3 q;exact e4 q
 have stat:∀{R:Hp},(∀b∈G,R b=none)->∀b∈G,DE (Dw X scope cl' N' P2.objs.size f P G xb) Z R b:=λhn' b a=>
  {hn' b a,(J b<|F b a).1,fpfs b a,.inl a,cneF b (F b a) λy c e=>(f2 b a).2.2.2.2.1 y c e,(f2 b a).2.2.2.2.2}
 have Dok:∀{R:Hp},R f.heap.objs.size=none->DE (Dw X scope cl' N' P2.objs.size f P G xb) Z R f.heap.objs.size:=λhn'=>
  {hn',hDC,(λz=>by
   let(o,ho,_):=(t.stack.mem z).2;exact absurd (É ho)<|ã _),.inr<|Æ _,cneD,λp hp z=>absurd (É (t.pin p hp).1) (by rw[z];exact ã _)}
 have loop:∀s3:Shared,s3={ f with heap:=h₁ } ->
   codeAny (model X.prog X.w) X.A (.compLoop (.ListComp elt [{tg,iter,ifs,0}] scope pos) 0 (.ref it) (.ref f.heap.objs.size)<|compEnvC scope cl' P2.objs.size X.env)
    (compPost (model X.prog X.w) X.A X.xe use QQ (.ref f.heap.objs.size) P2.objs.size) s3:=by
  rintro s3 rfl
  refine zet hxb (λm s'=>∃i ys Y R,m=n - i/\Inv (Dw X scope cl' N' P2.objs.size f P G xb) Z Y R s'/\tn i s'.heap/\(∀b∈G,R b=none)/\R f.heap.objs.size=none/\(∃U:kc,Ag ys U/\s'.heap.PlainList f.heap.objs.size U.toArray)/\W i ys Y R)
   ?_ n {0,[],O' O,P,rfl,I',T.keep _ _ _ st2 λb ϊ o e=>V b o e,λb a=>(f2 b a).1,A _<|Æ _,{[],.nil,hacc},w0}
  rintro m s4 ⟨i,ys,Y,H4,rfl,I4,st4,fr4,S,⟨U,rv,hpl⟩,w4⟩;let(hly,hin,c):=turn i ys Y H4 w4
  have statp:∀{R:Hp},(∀b∈G,R b=none)->∀b∈G,DE (Dw X scope cl' N' P2.objs.size f P G xb) (Z++IL [f.heap.objs.size] s4.heap) R b:=λ{R} fr' b a=>by
    let(g1,g2,g3,g4,g5,g6):=stat fr' b a;refine{g1,g2,g3,g4,g5,λp hp z=>?_};rcases ß.mp hp with y|y;exact g6 p (ħ _ y) z;rcases ß.mp y with y|y;exact g6 p (à _ y) z;let(hb',_):=Ys y;rw[z,Ï]at hb';exact absurd (F b a) (by rw[hb'];exact ã _)
  rcases c with ⟨stop,q⟩|⟨hlt,go,step⟩
  .let(k,hDo):=hpl;have I4p:=I4.pinned (fp:=[f.heap.objs.size]) (λb a=>by rw[Ï.mp a];exact Dok S) (λb a=>by rw[Ï.mp a];exact{_,hDo,λv z=>(by cases z)})
   refine A4 (T.done (Dw X scope cl' N' P2.objs.size f P G xb) rfl rfl rfl (hc _ _ _ _ _ _ _ _ t) i _ s4 Y H4 _ I4p (statp fr4) st4 stop) λr s5 zz=>?_;let(hr,I5):=zz;subst hr;have hD5 :=(I5.pin (f.heap.objs.size,_)<|à _<|à _<|IQ (Ï.mpr rfl) hDo).1;let(m5,hn5,_):=I5.loc;have fC:H4 P2.objs.size=none:=I5.free
   have U5:Un (Bc X.stack) G P (upd H4 f.heap.objs.size<|.lst ys) f.heap s5.heap:=by
    have B:=I5.base;refine{λb o M e2 e3 e4=>B.keep b o M e2 e3 e4,λb o M e2 e3 e4=>B.slot b o M e2 e3 e4,λb o M e2 e4=>?_,λb o M e4=>B.there b o M e4,λb xs M=>?_,λb o u M=>?_,λb ps M=>?_};rw[BB (J b<|É M).2];exact B.free b o M e2 e4;have q':=B.tups b xs M;rw[BB<|DK q' S];exact q';have q':=B.frzs b o u M;rw[BB<|DK q' S];exact q';let(more,q'):=B.tbls b ps M;exact{more,by rw[BB<|DK q' S];exact q'}
   have hzy:ys.length<=sizeLine:=Ú hly<|Ú hin hn;have HK:HOk X.prog X.w (upd H4 f.heap.objs.size<|.lst ys) s5.heap:=Zw.HOk.adopt I5.hok S {(hzy),U,k,rv,hD5};have os5:s5.os=f.os:=I5.os
   have IX:Inv X Z O (upd H4 f.heap.objs.size<|.lst ys) s5:=t.call' (s':=s5) (ch:=G) os5 U5 HK I5.bare (λb a=>by
    let(g1,g2,g3,g4,g5,g6):=f2 b a;exact{(g4),g2,g5,g6})
   refine hend f.heap.objs.size P2.objs.size s5 _ IX (q _ S) {(m5),hn5} ?_;have CL:f.heap.objs.size<=P2.objs.size:=CS;have fp0:DE X Z P P2.objs.size:=t.fpOk CS<|A _ CS;exact{by rw[BB<|Í hDC];exact fC,fp0.2}
  let(k,hDo):=hpl;have I4p:=I4.pinned (fp:=[f.heap.objs.size]) (λb a=>by rw[Ï.mp a];exact Dok S) (λb a=>by rw[Ï.mp a];exact{_,hDo,λv z=>(by cases z)})
  refine A4 (T.item (Dw X scope cl' N' P2.objs.size f P G xb) rfl rfl rfl (hc _ _ _ _ _ _ _ _ t) i _ s4 Y H4 _ I4p (statp fr4) st4 go) λr s5 zz=>?_;let(u,hr,h5):=zz;subst hr;refine A4 h5 λϊ s6 zz=>?_;let(x,H6,I6,r6,y6,st6,fr6):=zz;have I6':=I6.pinned (statp fr6)<|T.obj _ _ st6;refine A4 (hg _ s6 Y H6 x u _ I6' r6<|step x H6 y6) λϊ s7 zz=>?_
  let(τ7,H7,I7,q7):=zz;refine A4 (ht _ s7 τ7 H7 _ I7 q7) λok s7b zz=>?_
  let(H7b,I7b,q7b):=zz;have BK:∀{H8:Hp} {s8:Shared} {τ8:L2.St},Inv (Dw X scope cl' N' P2.objs.size f P G xb) (Z++IL [f.heap.objs.size] s4.heap++IL G s6.heap) τ8 H8 s8->∀h9:Heap,(∀b o,b≠f.heap.objs.size->s8.heap.get? b=↑o->h9.get? b=↑o)->tn (i+1) h9/\∀b∈G,H8 b=none:=λ{H8 s8 τ8} I8 h9 sb=>by
   refine{T.keep _ _ _ st6 λb a o e=>?_,λb a=>?_};exact sb b o (J b<|F b a).2 (I8.pin (b,o)<|à _<|à _<|IQ a e).1;let(o,e,d):=T.obj _ _ st6 b a;exact(I8.pin (b,o)<|à _<|à _<|IQ a e).2.1
  cases ok with
  |false=>
   rw[if_neg<|by decide]at q7b ⊢;have hD8:=I7b.pin (f.heap.objs.size,_)<|à _<|ħ _<|à _<|IQ (Ï.mpr rfl) hDo;let(t9,f9):=BK I7b s7b.heap λb o ϊ e=>e
   exact{n - (i+1),by lia,i+1,ys,τ7,H7b,rfl,I7b.unpinned.unpinned,t9,f9,hD8.2.1,{(U),rv,k,hD8.1},q7b}
  |true=>
   rw[if_pos rfl]at q7b ⊢;refine A4 (he _ s7b τ7 H7b _ I7b q7b) λuy s8 zz=>?_;let(y,H8,I8,ry,w8):=zz;have hD8:=I8.pin (f.heap.objs.size,_)<|à _<|ħ _<|à _<|IQ (Ï.mpr rfl) hDo;have P8:s8.heap.PlainList f.heap.objs.size U.toArray:={(k),hD8.1};have hlen:=rv.length;refine wpAny_list_append_plain P8 (λh' pl' sb=>?_) (by rw[ð,<- hlen];lia)
   have I8u :=I8.unpinned.unpinned;let(d1,d2,d3,d4,d5,d6):=Dok hD8.2.1;have I9 :=I8u.turned (t':=s8.toks) (λb o a e=>(sb.2 b a).trans e) d1 d2 d4 d5 d6
   let(t9,f9):=BK I8 h' λb o a e=>(sb.2 b a).trans e;exact{n - (i+1),by lia,i+1,ys++[y],τ7,H8,rfl,I9,t9,f9,hD8.2.1,{U++[uy],rv.append<|.cons ry .nil,by simpa using pl'},w8}
 refine codeAny_compStart_list (loop _ rfl)<|T.self _ 0 _ _ _ (T.keep _ _ _ st2 λb ϊ o e=>V b o e)<|loop _ rfl
def zpr(L:BlkC X scope N' O' cl)(k:∀pz O H s cl C ex xb,Inv X pz O H s->cq (Dw X scope cl N' C s H ex xb))(n:PJ cq X tg iter wi)(a:Ca X E)(c:Iq X){O:L2.St}(l:AC X scope N' (λϊ=>E O) λτ=>PG τ tg g/\Hu τ ifs tt/\PE τ elt te)
  (p:∀x,foldedSetIterable iter X.env x=pure x)   {H:Hp} {Q:VK} (I:Inv X pz O H s) (h:M0 O' wi g tt te O H Q) :
  wpAny (model X.prog X.w) X.A (eval (.ListComp elt [{tg,iter,ifs,0}] scope pos) X.env) (EP X pz O Q) X.xe s:=by
 refine eA L k n a c l p I h λD C t i j q ⟨m,hm⟩ f=>{m,hm,λr sb=>?_};exact{.ref D,i,Hz (ch:=[C]) j (λb o d e=>(sb.2 b<|λz=>d<|by simp[z]).trans e) (λb d=>by grind),rfl,q}
def zps(L:BlkC X scope N' O' cl)(B:X.calm=true)(G:PI X tg iter wi)(l:Ca X E)(n:Iq X)(F:AC X scope N' (λϊ=>E O) λτ=>PG τ tg g/\Hu τ ifs tt/\PE τ elt te)
  (K:∀x,foldedSetIterable iter X.env x=pure x)   {H:Hp} {D:Ends} {i:Nat} {x:Str}  (y:X.N.Nodup) (k:X.N[i]?=↑x) (r:X.env.scope.names.lookup x=↑.local)
  (p:swapsWith (.ListComp elt [{tg,iter,ifs,0}] scope pos) (↑(.Name x pos')) pos2.line X.env=pure true)
  (I:Inv X pz O H s) (h:M0 O' wi g tt te O H λv H1=>D.nx (O.set i ↑v) H1) :
  wpAny (model X.prog X.w) X.A (exec (.Assign [.Name x pos'] (.ListComp elt [{tg,iter,ifs,0}] scope pos) pos2) X.env) (SP X pz D) X.xe s:=by
 rw[exec_Assign_Name_used _ _ _ _ p];refine Â<|Ń<|Â ?_;refine Â<|í (eA L (λϊ ϊ ϊ ϊ ϊ ϊ ϊ ϊ ϊ=>B) (Y6 G) l n F K I h λA C R t u M ⟨m,hm⟩ f=>?_) (λϊ Q J=>Ñ<|Ñ J) λϊ ϊ e=>e
 show wpAny _ X.A (assign (.Name x pos') X.env<|.ref A) _ _ _;refine wpAny_assign_Name<|X8 u y k (.inl r) (v:=.ref A) rfl (λS w N=>?_)<|.inr r
 let(a,sb,d):=N;have c:C≠a:=by
  rcases d with rfl|d;exact f.2.1;exact λz=>f.2.2.2.2.1 x a d z.symm
 refine{m,hm.sameBut sb c,λP q=>{_,t,Hz (ch:=[C]) w (λb o j e=>(q.2 b<|λz=>j<|by simp[z]).trans e) (λb j=>by rw[Ï.mp j];exact f),M}}
end
structure RpO(K:q9)(F H:Hp)(l:qB)(xs:qA)(R:Nat->Rg):Prop where
 len:l.length=xs.length
 rep:∀(i:Nat) (t:T) (x:V),l[i]?=↑t->xs[i]?=↑x->Rp K F H t x (R i)
 dis:∀i j a,i≠j->R i a->¬ R j a
 out:∀i a,R i a->i<l.length
section
variable {K:q9}{F H F1 H1:Hp}{l:qB}{xs:qA}{R:Nat->Rg}{B:Rg}
theorem RpO.nil:RpO K F H [] []<|λϊ=>R0:={rfl,λi t x h=>by simp at h,λϊ ϊ ϊ ϊ z=>z.elim,λϊ ϊ z=>z.elim}
def RpO.dom(h:RpO K F H l xs R)(z:R i a):F a=none/\∃u,H a=↑u:=by
 have b:=h.out i a z;have c:i<xs.length:=by have:=h.len;lia
 exact(h.rep i _ _ (Á b)<|Á c).dom z
theorem RpO.ext(h:RpO K F H l xs R)(e:Ext F H F1 H1 B):RpO K F1 H1 l xs R:={h.len,λi t x a b=>(h.rep i t x a b).ext e,h.dis,h.out}
theorem RpO.apart(h:RpO K F H l xs R)(e:Ext F H F1 H1 B)(a:B b)(i):¬ R i b:=λz=>by
 let(f,u,q):=h.dom z;rw[e.nb b a]at q;cases q
def RpO.snoc(h:RpO K F H l xs R)   (r:Rp K F H t x B)(d:∀i a,R i a->¬ B a):RpO K F H (l++[t]) (xs++[x]) (λj=>if j=l.length then B else R j):=by
 have o:=h.len;refine{by simp[o],λi p q g k=>?_,λi j a e f c=>?_,λi a z=>?_};by_cases b:i=l.length;subst b;rw[if_pos rfl];have s:t=p:=by simpa using g
 have u:x=q:=by rw[o]at k;simpa using k
 subst s;subst u;exact r;rw[if_neg b]
 have n:i<l.length:=by
  have:=(Î.mp g).1;simp at this;lia
 rw[ú n]at g;rw[ú<|by lia]at k;exact h.rep i p q g k;by_cases b:i=l.length;erw[b,Ä]at f;have m:¬ j=l.length:=λz=>e<|b.trans z.symm
 erw[m,Ã]at c;exact d j a c f;erw[b,Ã]at f;by_cases m:j=l.length;erw[m,Ä]at c;exact d i a f c;erw[m,Ã]at c;exact h.dis i j a e f c;by_cases b:i=l.length;simp[b];erw[b,Ã]at z;have:=h.out i a z;simp
 lia
def RpO.cons(h:RpO K F H l xs R)   (r:Rp K F H t x B)(d:∀i a,R i a->¬ B a):RpO K F H (t::l) (x::xs) (λj=>match j with|0=>B|j+1=>R j):=by
 refine{by simp[h.len],λi k m c e=>?_,λi j a b f g=>?_,λi a z=>?_};cases i with
 |zero=>simp at c e;subst c;subst e;exact r|succ i=>exact h.rep i k m (by simpa using c)<|by simpa using e
 cases i with
 |zero=>
  cases j with
  |zero=>exact b rfl|succ j=>exact d j a g f
 |succ i=>
  cases j with
  |zero=>exact d i a f g|succ j=>exact h.dis i j a (λz=>b<|by rw[z]) f g
 cases i with
 |zero=>simp|succ i=>have:=h.out i a z;simp;lia
def RpO.list(h:RpO K F H l xs R)(s:Aa F H)  (b:H p=none):Rp K F (upd H p<|.lst xs) (.own l) (.ref p) (λa=>a=p\/∃i,R i a)/\Ext F H F (upd H p<|.lst xs) (λa=>a=p):=by
 have e:=Ext.newO (o:=.lst xs) s b;have c:=h.ext e;exact{.own (k:=.lst) trivial R (IM s b) Cn h.len c.rep h.dis (λi z=>h.apart e rfl i z) h.out,e}
end
def AJ(ma mk:AI):AI:=λY=>match ma Y with
 |some (.v t b)=>(match mk Y with
  |some (.v (.int i) ϊ)=>(match t with
   |.nd ϊ ϋ l=>(match AZ l i with
    |some c=>↑(.v c<|b && !c.sh)|none=>none)
   |.str z=>if z.length<=Bh then (match AZ z.cps.toList i with
    |some c=>↑(.v (.str {#[c]}) false)|none=>none) else none
   |ϊ=>none)
  |some (.v ϊ ϋ)=>none|r=>r)
 |r=>r
def zmr{c:α}(e:l.length=m.length)(h:AZ l i=↑c):∃(j:Nat) (d:β),l[j]?=↑c/\m[j]?=↑d/\AZ m i=↑d:=by
 unfold AZ at h ⊢;rw[<- e];cases q:CZ l.length i with
 |none=>rw[q]at h;cases h|some j=>
  rw[q]at h;have a:l[j]?=↑c:=h
  have b:j<m.length:=by
   have:=(Î.mp a).1;lia
  exact{j,m[j],a,Á b,Á b}
section
variable {K:q9}{F H:Hp}
def Rp.seq(s:Aa F H)(h:Rp K F H (.nd o k l) x A):∃p xs,x=.ref p/\(Ab K H p xs\/CP K H p xs)/\l.length=xs.length/\∀(i:Nat) (t ) (x ),l[i]?=↑t->xs[i]?=↑x->∃B,(∀a,B a->A a)/\Rp K F H t x B:=by
 cases h with
 |@shr k p xs l h e c=>
  refine{p,xs,rfl,?_,e,λi t x b g=>{R0,λϊ z=>z.elim,c i t x b g}};cases k with
  |lst=>exact .inl (Ab.of<|s _ _ h)|rl=>exact .inl (s.seq h.l)|tup=>exact .inr (CP.of<|s _ _ h)|rt=>exact .inr (HG s h)|pin q=>exact .inl<|Ab.of<|s _ _ h
 |@own j p xs l hk R f h e c d dp o=>
  refine{p,xs,rfl,?_,e,λi t x b g=>{R i,λa z=>.inr {(i),z},c i t x b g}};cases k with
  |tup=>exact .inr (CP.of h)|_=>exact .inl<|Ab.of h
end
section
variable {X:Cx}{E:L2.St->XK}{ca:Str->Value}{O:L2.St}{H:Hp}{m ma mb mc:AI}{ms:BC}{K:q9}{a b c e:Expr}{es:kg}{pos:Pos}
def tM_ix(h:tM K E ca (AJ ma mb) O H Q):JF (Y0 K) (tM K E ca ma) (tM K E ca mb) O H Q:=by
 let(F,Y,R,S,q):=h;refine{F,Y,R,S,?_};unfold AJ at q;cases X:ma Y with
 |none=>erw[X]at q<;>symm|some r=>
  erw[X]at q;cases r with
  |x c=>exact q|v t n=>
   intro F1 H1 x B J g1;have V:=S.ext J;refine{F1,Y,R,V,?_};cases hk:mb Y with
   |none=>erw[hk]at q<;>symm|some r=>
    erw[hk]at q;cases r with
    |x c=>exact λF' H' e=>q F' H' ((J.trans e).mono λϊ z=>z.elim)|v tk bk=>
     cases tk with
     |int i=>
      intro g m y C G g2
      have hy:y=.int i:=by
       cases bk with
       |true=>let(_,A,_,r):=g2;exact r.int_inv
       |false=>exact(g2).int_inv
      subst hy;have b :=(J.trans G).mono λϊ z=>.inl z
      have S2:=V.ext G;cases t with
      |nd o k l=>
       simp only at q;cases f:AZ l i with
       |none=>erw[f]at q<;>symm|some D=>
        erw[f]at q
        have node:∃w,(n=true->∀a,w a->tot R a)/\(n=false->∀a,w a->B a)/\Rp K g m (.nd o k l) x w:=by
         cases n with
         |true=>let(_,A,I,r):=g1;exact{A,λϊ=>I,(λz=>by cases z),r.ext G}
         |false=>exact{B,(λz=>by cases z),λϊ ϊ z=>z,(g1).ext G}
        let(w,L,M,rn):=node;let(p,xs,rfl,s,hl,u):=Rp.seq S2.fh rn;let(j,d,h1,h2,W):=zmr hl f;let(U,I,T):=u j D d h1 h2
        have Z :=by
         cases n with
         |false=>exact q g m d U (b.mono λa z=>M rfl a<|I a z) T|true=>
          cases N:D.sh with
          |true=>rw[N]at q;exact q g m d R0 (b.mono λϊ z=>z.elim) (T.move N<|.refl _)|false=>rw[N]at q;exact q g m d R0 (b.mono λϊ z=>z.elim) {rfl,U,λa z=>L rfl a<|I a z,T}
        rcases s with s|s;exact .inl {(p),xs,i,d,rfl,rfl,s,W,Z};exact .inr<|.inl {(p),xs,i,d,rfl,rfl,s,W,Z}
      |str z=>
       by_cases P:z.length<=Bh;erw[P,Ä]at q;cases f:AZ z.cps.toList i with
       |none=>erw[f]at q<;>symm|some D=>
        erw[f]at q
        have hx:x=.str z:=by
         cases n with
         |true=>let(_,A,_,r):=g1;exact r.str_inv
         |false=>exact(g1).str_inv
        subst hx;exact .inr<|.inr {z,i,D,rfl,rfl,by rw[<- GH];exact P,f,q g m _ R0 (b.mono λϊ z=>z.elim)<|.str _}
       erw[P,Ã]at q<;>symm
      |_=>symm
     |_=>symm
theorem r_ix(c:PE X a<|tM X.K E ca ma)(d:PE X b<|tM X.K E ca mb)(e:KH b):PE X (.Subscript a b pos)<|tM X.K E ca<|AJ ma mb:=PE.weak (Mx zq3 c d e) λO H Q h=>tM_ix h
def Bi{α:Type}(l:List α)(a b:ke):List α:=(l.drop<|HT.sIx l.length 0 a).take (HT.sIx l.length l.length b - HT.sIx l.length 0 a)
def Fk(m:Option<|AI):AM->Option (ke):=λY=>match m with
 |none=>↑none|some m=>match m Y with
  |some (.v (.int i) ϊ)=>↑↑i|ϊ=>none
def FO(ma:AI)(d c:Option<|AI):AI:=λY=>match ma Y with
 |some (.v t false)=>(match Fk d Y with
  |some b=>(match Fk c Y with
   |some a=>(match t with
    |.nd ϊ .lst l=>↑(.v (.own<|Bi (BP l) b a) false)|.nd ϊ .rl l=>↑(.v (.own<|Bi (BP l) b a) false)|ϊ=>none)
   |none=>none)
  |none=>none)
 |some (.v ϊ true)=>none|r=>r
def IA(K:q9)(m:Option<|AI):TO:=λO H Q=>∃F Y R o,StR K F H O Y R/\Fk m Y=↑o/\∀b a,Ext F H b a R0->Q o a
theorem r_po0:PO X none<|IA X.K none:=λa s O H Q I h=>by
 let(F,Y,R,o,S,e,q):=h;cases e;exact zku a s O H Q I<|q F H<|Ext.refl S.fh
theorem r_po1(j:PE X e<|tM X.K E ca m):PO X ↑e<|IA X.K ↑m:=λn s O H Q I h=>by
 let(F,Y,R,o,S,a,q):=h;refine zkt j n s O H Q I {F,Y,R,S,?_};unfold Fk at a;simp only at a;cases k:m Y with
 |none=>grind|some r=>
  rw[k]at a;cases r with
  |x c=>cases a|v v b=>
   cases v with
   |int i=>
    cases a;intro d f x B e g
    have l:x=.int i:=by
     cases b with
     |true=>let(_,A,_,r):=g;exact r.int_inv
     |false=>exact(g).int_inv
    exact{i,l,q d f<|e.mono λϊ z=>z.elim}
   |_=>cases a
set_option tactic.hygienic true in
def zj4(r:Ai K F l xs)(lo hi):Ai K F (Bi l lo hi)<|LW xs lo hi:=by
 have d:=r.1;unfold Bi LW;rw[d];refine{by simp[d],λi t x a b=>?_};rw[List.getElem?_take]at a b;split at a;rename_i c;rw[if_pos c,ő]at b;rw[ő]at a;exact r.2 _ t x a b;cases a
def YM{lo hi}(ha:PE X a<|tM X.K E ca ma)(hl:PO X lo<|IA X.K ml)(hh:PO X hi<|IA X.K mh):PE X (.Subscript a (.Slice lo hi none p2) pos)<|tM X.K E ca<|FO ma ml mh:=by
 refine PE.weak (Y8 zk1 ha hl hh) λO H Q h=>?_;let(F,Y,R,S,q):=h;refine{F,Y,R,S,?_};unfold FO at q;cases M:ma Y with
 |none=>erw[M]at q<;>symm|some r=>
  erw[M]at q;cases r with
  |x c=>exact q|v t V=>
   cases V with
   |true=>symm|false=>
    intro F1 H1 x B W g1;let(n,i,_,r1):=E1.frz S W g1;have K:=S.ext i;simp only at q;cases G:Fk ml Y with
    |none=>erw[G]at q<;>symm|some d=>
     erw[G]at q;refine{n,Y,R,d,K,G,λU H2 A=>?_};have L:=K.ext A;cases I:Fk mh Y with
     |none=>erw[I]at q<;>symm|some b=>
      erw[I]at q;refine{U,Y,R,b,L,I,λs u D=>?_};have w:=L.ext D;have y:=i.trans0<|A.trans0 D;have P:Rp X.K s s t.share x R0:=(r1).frame (A.ff.trans D.ff) λϊ z=>z.elim
      have j:∀{o } {k } {l },t=.nd o k l->(k=.lst\/k=.rl)->(∀m f x B,Ext F H m f B->Rp X.K m f (.own<|Bi (BP l) d b) x B->Q x f)->YW X.K x d b u Q:=by
       intro o k l Z hk qq;subst Z;rw[T.share]at P;let(p,xs,rfl,_,N,k3):=ED P
       have sq:Ab X.K u p xs:=by
        rcases hk with rfl|rfl;exact Ab.of<|w.fh _ _ N
        exact w.fh.seq N.l
       refine{p,xs,rfl,sq,λp' J=>?_};have gg:Dx X.K s u (.own<|Bi (BP l) d b) Q:=λm f z C e g=>qq m f z C (y.trans0 e) g;exact gg.list w.fh (zj4 k3 d b) J
      cases t with
      |nd o k l=>
       cases k with
       |lst=>exact j rfl (.inl rfl) q|rl=>exact j rfl (.inr rfl) q|tup=>symm|rt=>symm|pin ϊ=>symm
      |_=>symm
def pMo(K:q9)(E:L2.St->XK)(ca:Str->Value)(O:L2.St)(Q:qA->Hp->Prop)(F H:Hp):Option RsL->Prop
 |some (.v e ϊ)=>∀b a xs (d:Nat->Rg),Ext F H b a (tot d)->RpO K b a e xs d->Q xs a|some (.x c)=>∀b a,Ext F H b a R0->XE (E O) ca c b a|none=>False
def KZ(K:q9)(E:L2.St->XK)(ca:Str->Value)(m:BC):TA:=λO H Q=>∃F Y R,StR K F H O Y R/\pMo K E ca O Q F H (m Y)
def BA(m:AI)(ms:BC):BC:=λY=>match m Y with
 |some (.v t false)=>(match ms Y with
  |some (.v a ϊ)=>↑(.v (t::a) false)|r=>r)
 |some (.v ϊ true)=>none|some (.x c)=>↑(.x c)|none=>none
theorem znx:PA X []<|KZ X.K E ca AE:=PA.weak Fg λO H Q h=>by
 let(F,Y,R,S,q):=h;exact q F H [] (λϊ=>R0) ((Ext.refl S.fh).mono λa ⟨i,z⟩=>z.elim) .nil
def zkg(y:PE X e<|tM X.K E ca m)(A:PA X es<|KZ X.K E ca ms)(d:starEach (e::es) X.env=(false,eval e X.env)::starEach es X.env):PA X (e::es)<|KZ X.K E ca<|BA m ms:=by
 refine PA.weak (Er y A d) λO H Q h=>?_;let(F,Y,R,S,q):=h;refine{F,Y,R,S,?_};unfold BA at q;cases k:m Y with
 |none=>erw[k]at q<;>symm|some r=>
  erw[k]at q;cases r with
  |x c=>exact q|v t w=>
   cases w with
   |true=>symm|false=>
    intro n D x B f g1;have u:=S.ext f;refine{n,Y,R,u,?_};cases d:ms Y with
    |none=>erw[d]at q<;>symm|some r=>
     erw[d]at q;cases r with
     |x c=>exact λl p e=>q l p ((f.trans e).mono λϊ z=>z.elim)|v J I=>
      intro o s xs G g C;have b :=g1;refine q o s (x::xs) _ ((f.trans g).mono ?_)<|C.cons (b.ext g) λi a z=>?_
      rintro a ⟨j,z⟩;cases j with
      |zero=>exact .inl z|succ j=>exact .inr {(j),z}
      exact b.apart g {(i),z}
def BI(ms:BC):AI:=λY=>match ms Y with
 |some (.v a ϊ)=>if a.length<=Bh then ↑(.v (.own a) false) else none
 |some (.x c)=>↑(.x c)|none=>none
def r_lst(h:PA X es<|KZ X.K E ca ms):PE X (.List es pos)<|tM X.K E ca<|BI ms:=by
 refine PE.weak (zoq h) λO H Q h=>?_;let(F,Y,R,S,q):=h;refine{F,Y,R,S,?_};unfold BI at q;cases f:ms Y with
 |none=>erw[f]at q<;>symm|some r=>
  erw[f]at q;cases r with
  |x c=>exact q|v m b=>
   intro j n xs o e g;by_cases d:m.length<=Bh;erw[d]at q;refine{by rw[<- g.len];exact d,λp l=>?_};let(r,k):=g.list e.fh l;refine q j _ _ _ ((e.trans k).mono ?_) r;rintro a (z|⟨i,z⟩);exact .inr z;exact .inl {(i),z};erw[d]at q<;>symm
def BV(ms:BC):AI:=λY=>match ms Y with
 |some (.v a false)=>if a.length<=Bh then ↑(.v (.tup a) false) else none
 |some (.v ϊ true)=>none|some (.x c)=>↑(.x c)|none=>none
def r_tup(h:PA X es<|CD X.K E ca ms):PE X (.Tuple es k pos)<|tM X.K E ca<|BV ms:=by
 refine PE.weak (zom h) λO H Q h=>?_;let(F,Y,R,S,q):=h;refine{F,Y,R,S,?_};unfold BV at q;cases f:ms Y with
 |none=>erw[f]at q<;>symm|some r=>
  erw[f]at q;cases r with
  |x c=>exact q|v i b=>
   cases b with
   |true=>symm|false=>
    intro l n xs d rs;by_cases a:i.length<=Bh;erw[a]at q;refine{by rw[<- rs.1];exact a,λp s=>?_};have o:Dx X.K l n (.tup i) Q:=λj m z C e g=>q j m z C (d.trans0 e) g;exact o.tuple d.fh rs s;erw[a]at q<;>symm
theorem zo3{id}(d:C4 X (.builtin id)<|Dl X.K g)(i:Gl X x)(j:X.mg x=none)(l:bootBuiltins x=↑(.builtin id))(c:PA X (e::es)<|CD X.K E ca ms)(k:x≠"__name__")(a:(x == "__debug__")=false)
  (f:starEach (e::es) X.env=(false,eval e X.env)::starEach es X.env) (b:(backTo pos<|starEach es X.env).any (·.1)=false):PE X (.Call (.Name x p) (e::es) [] pos)<|tM X.K E ca<|B5 g ms:=
 PE.weak (My d i j l c k a f b) λO H Q h=>ID h
theorem YU(d:C4 X (.type T')<|Dl X.K g)(i:Gl X x)(j:X.mg x=none)(l:bootBuiltins x=↑(.type T'))(c:PA X (e::es)<|CD X.K E ca ms)(k:x≠"__name__")(a:(x == "__debug__")=false)
  (f:starEach (e::es) X.env=(false,eval e X.env)::starEach es X.env) (b:(backTo pos<|starEach es X.env).any (·.1)=false):PE X (.Call (.Name x p) (e::es) [] pos)<|tM X.K E ca<|B5 g ms:=
 PE.weak (Yd d i j l c k a f b) λO H Q h=>ID h
end
def BO:T->kr
 |.nd ϊ ϋ l=>↑(.int l.length)|.str z=>if z.length<=Bh then ↑(.int z.length) else none
 |ϊ=>none
def DO:T->kr
 |.nd ϊ ϋ l=>↑(.own l)|ϊ=>none
def O0:T->kr
 |.int i=>↑(.int (if i<0 then -i else i))
 |ϊ=>none
def Kp:T->T->kr
 |.int i,.int j=>↑(.int (if j<i then j else i))
 |ϊ,ϋ=>none
def NN:T->T->kr
 |.int i,.int j=>↑(.int (if j > i then j else i))
 |ϊ,ϋ=>none
def IY:qB->Option (kj)
 |[]=>↑[]|.int i::r=>(IY r).map (i::·)|ϊ=>none
def NP(ns:kj):Int:=ns.getD (argBest (λi j=>decide (ns.getD i 0 > ns.getD j 0))<|ns.length - 1) 0
def Hl:qB->kr
 |[.nd ϊ .lst l]=>(match IY l with
  |some (i::r)=>↑(.int<|NP<|i::r)|ϊ=>none)
 |[t,u]=>NN t u|ϊ=>none
def Gs:qB->Option (List Bool)
 |[]=>↑[]|.bl b::r=>(match Gs r with
  |some l=>↑(b::l)|none=>none)
 |ϊ::ϋ=>none
def GP:T->kr
 |.nd ϊ .lst l=>(match Gs l with
  |some bs=>↑(.bl<|bs.all id)|none=>none)
 |ϊ=>none
def Ii:T->kr
 |.nd ϊ .lst l=>(match Gs l with
  |some bs=>↑(.bl<|bs.any id)|none=>none)
 |ϊ=>none
def XA:Kd->Option String
 |.lst=>↑"list"|.tup=>↑"tuple"|.rl=>↑"list"|.rt=>none|.pin ϊ=>none
def MW:T->Option String
 |.non=>↑"NoneType"|.bl ϊ=>↑"bool"|.int ϊ=>↑"int"|.str ϊ=>↑"str"|.nd ϊ k ϋ=>XA k|.dic ϊ ϋ=>↑"dict"|.pdc ϊ ϋ=>↑"dict"|.odc ϊ ϋ=>none|.obj ϊ ϋ=>none|.oob ϊ ϋ ό ύ=>none|.osd ϊ ϋ=>none
def JC:List String:=["int","bool","str","list","tuple"]
def M6(a c:String):Bool:=a == c || (a == "bool" && c == "int")
def DP(c:String)(t:T):kr:=match MW t with
 |some a=>if c∈JC then ↑(.bl<|M6 a c) else none
 |none=>none
def zd9:W.kitMeta "str"=true:=by decide +kernel
def zc9:W.kitMeta "list"=true:=by decide +kernel
def eG(K)(d:a∈["NoneType","bool","int","str","list","tuple","dict"])(b:c∈JC):W.kitOne K (.type a) (.type c)=↑(M6 a c):=by
 have e:W.kitMeta c=true:=by
  erw[JC,Ì,Č,ė]at b;rcases b with rfl|rfl|rfl|rfl|rfl;exact zda;exact zca;exact zd9;exact zc9;exact zbu
 by_cases h:a=c;subst h;rw[zi9];simp[M6];refine zpv K (l:=[]) h e ?_;erw[JC,Ì,Č,ė]at b d;rcases d with rfl|rfl|rfl|rfl|rfl|rfl|rfl<;>rcases b with rfl|rfl|rfl|rfl|rfl<;>first|exact absurd rfl h|decide +kernel
section
variable {X:Cx}
set_option tactic.hygienic true in
def zh2:C4 X (.builtin "len")<|Dl X.K<|g1 BO:=by
 intro d s O H xs f Q I r h;let(F,k,v,fh,rs,e,q):=h;unfold g1 at e;split at e
 let(l,j,rfl,r1,b):=rs.inv;cases b.inv0;unfold BO at e;split at e;cases e;let(p,c,rfl,a,g,_):=Rp.seq fh<|r1.any;refine kL d s O H _ f Q I r {_,c.length,rfl,?_,by rw[<- g];exact q.int fh}
 rcases a with a|a;exact .inl {(c),a,rfl};exact .inr {(c),a,rfl};split at e;cases e;rename_i i;rw[r1.str_inv]at r;exact kL d s O H _ f Q I r {_,_,rfl,{by exact i,rfl},q.int fh};cases e;cases e;cases e
def zfi{K}(s:Aa F H)(h:GW K F k p xs):Ab K H p xs\/CP K H p xs:=by
 cases k with
 |lst=>exact .inl (Ab.of<|s _ _ h)|rl=>exact .inl (s.seq h.l)|tup=>exact .inr (CP.of<|s _ _ h)|rt=>exact .inr (HG s h)|pin q=>exact .inl<|Ab.of<|s _ _ h
def kN:C4 X (.type "list")<|Dl X.K<|g1 DO:=by
 intro g s O H xs i Q I r h;let(F,m,v,fh,rs,e,q):=h;unfold g1 at e;split at e
 let(n,j,rfl,r1,a):=rs.inv;cases a.inv0;unfold DO at e;split at e;cases e;let(p,k,rfl,rfl,f,d):=ED r1;have c :=zfi fh f;exact zd5 g s O H _ i Q I r {p,k,rfl,c,λl b=>q.list fh d b}
 cases e;cases e
def zh6:C4 X (.builtin "abs")<|Dl X.K<|g1 O0:=by
 intro b s O H xs c Q I r h;let(F,f,v,fh,rs,e,q):=h;unfold g1 at e;split at e
 let(g,d,rfl,r1,a):=rs.inv;cases a.inv0;unfold O0 at e;split at e;cases e;rw[r1.int_inv]at r;exact zjl b s O H _ c Q I r {_,rfl,q.int fh};cases e;cases e
def kM{c:Int->Int->Int}(d:C4 X (.builtin f) (λxs H Q=>∃i j,xs=[.int i,.int j]/\Q (.int<|c i j) H))(k:∀t u v,g t u=↑v->∃i j,t=.int i/\u=.int j/\v=.int (c i j)):C4 X (.builtin f)<|Dl X.K<|g2 g:=by
 intro l s O H xs n Q I r h;let(F,w,v,fh,rs,e,q):=h;unfold g2 at e;split at e
 let(x,o,rfl,r1,a):=rs.inv;let(x2,p,rfl,m,b):=a.inv;cases b.inv0;let(i,j,rfl,rfl,rfl):=k _ _ _ e;rw[r1.int_inv,m.int_inv]at r;exact d l s O H _ n Q I r {_,_,rfl,q.int fh}
 cases e
theorem zh0(a:X.calm=true):C4 X (.builtin "min")<|Dl X.K<|g2 Kp:=kM (zgx a) λt u v h=>by
 unfold Kp at h;split at h;cases h;exact{_,_,rfl,rfl,rfl};cases h
theorem zh1(a:X.calm=true):C4 X (.builtin "max")<|Dl X.K<|g2 NN:=kM (zgy a) λt u v h=>by
 unfold NN at h;split at h;cases h;exact{_,_,rfl,rfl,rfl};cases h
def fF:∀{l} {ns} {ys} {its},IY l=↑ns->Ai X.K F l ys->Ag ys its->∃xs:List (Int×Tok),its=xs.map (λp=>.int p.1 p.2)/\xs.map (·.1)=ns
 |[],ns,ys,its,h,r,a=>by
  cases h;cases r.inv0;cases a;simp
 |t::l,ns,ys,its,h,r,a=>by
  cases t with
  |int i=>
   let(ms,b,rfl):=Ý.mp h;let(x,e,rfl,r1,c):=r.inv;rw[r1.int_inv]at a;cases a with
   |cons d a=>let(tk,rfl):=d;let(xs,rfl,rfl):=fF b c a;exact{(i,tk)::xs,rfl,rfl}
  |_=>cases h
set_option tactic.hygienic true in
def zjm(c:X.calm=true):C4 X (.builtin "max")<|Dl X.K Hl:=by
 intro z s O H xs C Q I r h;let(F,K,v,fh,rs,e,q):=h;unfold Hl at e;split at e
 split at e;rename_i l i m g;cases e;let(L,D,rfl,r1,b):=rs.inv;cases b.inv0;let(p,E,rfl,_,w,o):=ED r1;let(u,rfl,A):=Ft r;cases A;let(n,B,y,J):=I.list (Ab.of (fh _ _ w):Ab X.K H p E);let(a,rfl,en):=fF g o B;have f:(a.map λp=>Value.int p.1 p.2).toArray=intItems a.toArray:=by simp[intItems]
 have d:a.length=(i::m).length:=by rw[<- en,À]
 have x:numAt a.toArray=λk=>(i::m).getD k 0:=funext λk=>by
  rw[<- en];simp[numAt]
 refine max_intList (I.ok.hd c) (f▸y.isList) (by rw[ð,d];simp) λv G tk j hk=>?_;let(t,rfl):=intItems_at j;rw[ð,d,x];exact{.int _,H,I.kept hk,{_,rfl},q.int fh};cases e;exact zh1 c z s O H xs C Q I r {F,_,v,fh,rs,e,q};cases e
def kW:∀{l} {bs},Gs l=↑bs->l.length=bs.length/\∀(i:Nat) (t),l[i]?=↑t->∃b,bs[i]?=↑b/\t=.bl b
 |[],bs,h=>by cases h;exact{rfl,λi t e=>by simp at e}|t::r,bs,h=>by
  unfold Gs at h;cases t with
  |bl b=>
   simp only at h;cases a:Gs r with
   |none=>erw[a]at h;cases h|some l=>
    erw[a]at h;cases h;let(c,d):=kW a;refine{by simp[c],λi t e=>?_}
    cases i with
    |zero=>simp at e;exact{(b),rfl,e.symm}|succ i=>exact d i t<|by simpa using e
  |_=>cases h
def YK{bs:List Bool}(h:∀(i:Nat) (b:Bool),bs[i]?=↑b->tr i=b):(List.range bs.length).all tr=bs.all id/\(List.range bs.length).any tr=bs.any id:=by
 have e:(List.range bs.length).map tr=bs:=by
  apply Ź;intro i;rw[È];by_cases a:i<bs.length;rw[Ŭ a,Á a];erw[ă];rw[h i _<|Á a];rw[ý (by simp;lia),ý<|by lia];rfl
 constructor;have:(List.range bs.length).all tr=((List.range bs.length).map tr).all id:=by rw[List.all_map];rfl
 rw[this,e];have:(List.range bs.length).any tr=((List.range bs.length).map tr).any id:=by rw[List.any_map];rfl
 rw[this,e]
def Wo(M:X.calm=true)   {O:L2.St}{H:Hp}{F:Hp}       (I:Inv X pz O H s)(fh:Aa F H)(r1:Rp X.K F F (.nd o .lst l) (.ref p) R0)(L:Gs l=↑bs)
  (K : ∀ (I0 : Addr) (wr fp ) (St ) (PP ) (tr ) (s2 : Shared), Walks X.prog X.w X.A.in1 I0 fp wr bs.length PP St -> St 0 s2.heap -> TruthOf X.prog X.w X.A.in1 PP tr -> (∀ (i : Nat) (b : Bool), bs[i]? = ↑b -> tr i = b) ->
   (∀h' tk,(∀b o,b∉wr->s2.heap.get? b=↑o->h'.get? b=↑o)->Inv X pz O H { s2 with heap:=h',toks:=tk })->P (.ref I0) s2):wpAny (model X.prog X.w) X.A.in1 (pyIter<|.ref p) P E' s:=by
 let(Y,T,J,rfl,S,y):=ED r1;cases J;let(f,c):=kW L;let(a,E,A,V):=I.list<|Ab.of<|fh _ _ S;have N:=E.length
 have t :=Ô (by
  let(o,n,e,_):=A;exact É e)
 have hh:X.A.in1.handled=none:=I.ok.hd M
 have val:∀(i:Nat) (v ),a[i]?=↑v->∃b,bs[i]?=↑b/\v=.bool b:=λi v g=>by
  have r:i<T.length:=by
   have:=(Î.mp g).1;lia
  have d:i<l.length:=by rw[y.1];exact r
  let(b,h,j):=c i _<|Á d;have C:=y.2 i _ _ (Á d)<|Á r;rw[j]at C;let(u,B,D):=E.get<|Á r;rw[g]at B;cases B;rw[C.bl_inv]at D;exact{(b),h,D}
 have q:a.toArray.size=bs.length:=by rw[ð,<- N,<- y.1,f]
 refine Α A.isList ?_;have W:=Walks.list (prog:=X.prog) (w:=X.w) hh s.heap.objs.size p t a.toArray;rw[q]at W;refine K s.heap.objs.size _ _ _ _ (λi=>bs.getD i false) _ W {{_,æ _ rfl,rfl,rfl},?_} ?_ ?_ ?_
 let(o,Q,R):=A.isList;exact{o,Ø _ Q,R};intro i v Z U G g x;let(b,h,j):=val i v<|by simpa using g
 subst j;refine Ć ?_;have e:bs.getD i false=b:=by rw[Ó,h];rfl
 rw[<- e];exact x;intro i b m;show bs.getD i false=b;rw[Ó,m]
 rfl;intro h' tk k
 exact I.kept λb o e=>k b o (λz=>by
  rw[Ï]at z;exact absurd (É e) (by rw[z];exact ã _))<|Ø _ e
set_option tactic.hygienic true in
def zh5(m:X.calm=true):C4 X (.builtin "all")<|Dl X.K<|g1 GP:=by
 intro w s O H xs z Q I r h;let(F,y,v,fh,rs,e,q):=h;unfold g1 at e;split at e
 let(A,t,rfl,r1,c):=rs.inv;cases c.inv0;unfold GP at e;split at e;split at e;cases e;rename_i bs a;let(p,rfl):=r1.ref_inv;let(u,rfl,n):=Ft r;cases n;refine call_all_walk<|Wo m I fh r1 a λg o j St i tr x W d f b BK=>{g,j,o,bs.length,i,St,tr,rfl,W,d,f,λl tk k=>?_}
 rw[(YK b).1];exact{.bl _,H,BK l tk k,rfl,q.bl fh};cases e;cases e;cases e
set_option tactic.hygienic true in
def zh4(m:X.calm=true):C4 X (.builtin "any")<|Dl X.K<|g1 Ii:=by
 intro w s O H xs z Q I r h;let(F,y,v,fh,rs,e,q):=h;unfold g1 at e;split at e
 let(A,t,rfl,r1,c):=rs.inv;cases c.inv0;unfold Ii at e;split at e;split at e;cases e;rename_i bs a;let(p,rfl):=r1.ref_inv;let(u,rfl,n):=Ft r;cases n;refine call_any_walk<|Wo m I fh r1 a λg o j St i tr x W d f b BK=>{g,j,o,bs.length,i,St,tr,rfl,W,d,f,λl tk k=>?_}
 rw[(YK b).2];exact{.bl _,H,BK l tk k,rfl,q.bl fh};cases e;cases e;cases e
def WJ(K:q9)(H:Hp)(x:V)(a:String):Prop:=(a="dict"/\∃p ob b,x=.ref p/\H p=↑(.frz ob<|.dK b))\/(a="list"/\∃p xs,x=.ref p/\Ab K H p xs)
def e8{O:L2.St}(I:Inv X pz O H s)(d:Ac x u)(ty:WJ X.K H x a)(e:W.kitOne X.K (.type a) c=↑b)(h:∀tk,Q (.bool b) { s with toks:=tk }) :
  wpAny (model X.prog X.w) A (call (.builtin "isinstance") [u,c]) Q E s:=by
 rcases ty with ⟨rfl,p,ob,t,rfl,i⟩|⟨rfl,p,xs,rfl,l⟩;cases d;let(_,_,_,C,_,q):=(I.hok p _ i);let(o,B,y,j,k,_):=q;exact ñ Ÿ I.kIn {(o),j,k.1} e (λz=>nomatch z) h
 cases d;let(m,r,(o,n,f,g,v,w),_):=I.list l;exact ñ ŷ I.kIn {(o),f,g} e (λz=>nomatch z) h
def Wz(fh:Aa F H)(r:Rp X.K F F t x R0)(h:MW t=↑a):(TyOf X.K H x (.type a)\/WJ X.K H x a)/\a∈["NoneType","bool","int","str","list","tuple","dict"]:=by
 cases t with
 |non=>cases h;rw[r.non_inv];exact{.inl .non,by simp}|bl b=>cases h;rw[r.bl_inv];exact{.inl<|.bl b,by simp}|int i=>cases h;rw[r.int_inv];exact{.inl<|.int i,by simp}|str y=>cases h;rw[r.str_inv];exact{.inl<|.str y,by simp}|nd o k l=>
  let(p,xs,rfl,_,n,_):=ED r;cases k with
  |lst=>cases h;exact{.inl<|.lst<|fh _ _ n,by simp}|tup=>cases h;exact{.inl<|.tup<|fh _ _ n,by simp}|rl=>cases h;exact{.inr<|.inr {rfl,p,xs,rfl,fh.seq<|Gv.l n},by simp}|rt=>cases h|pin ϊ=>cases h
 |dic d l=>
  cases h;cases r with
  |dic h e f c=>exact{.inr<|.inl {rfl,_,_,_,rfl,fh _ _ h},by simp}
 |pdc d l=>
  cases h;cases r with
  |pdc h e f c=>exact{.inl<|.dK<|fh _ _ h,by simp}
 |odc d l=>cases h|obj k l=>cases h|oob p C fs l=>cases h|osd d l=>cases h
set_option tactic.hygienic true in
def zh3:C4 X (.builtin "isinstance") (λxs H Q=>∃x,xs=[x,.ty c]/\Dl X.K (g1<|DP c) [x] H Q):=by
 intro j s O H xs n Q I r h;let(x,rfl,F,p,v,fh,rs,e,q):=h;unfold g1 at e;split at e
 let(w,o,f,r1,k):=rs.inv;cases f;unfold DP at e;split at e;rename_i a g;split at e;cases e;rename_i b;let(ty,d):=Wz fh r1 g
 rcases ty with ty|i;exact zjj j s O H _ n Q I r {x,_,_,rfl,ty,eG X.K d b,q.bl fh};let(u,t,rfl,l,m):=Hy r;cases m;exact e8 I l i (eG X.K d b) λtk=>{.bl _,H,I.tok _,rfl,q.bl fh};cases e;cases e;cases e
def T.isN:T->Bool
 |.non=>true|ϊ=>false
def T.isB(b:Bool):T->Bool
 |.bl c=>c == b|ϊ=>false
def BD(a:Bool)(t u:T):kr:=match u with
 |.non=>↑(.bl<|a ^^ t.isN)|.bl b=>↑(.bl<|a ^^ t.isB b)|ϊ=>none
def j1{K}(r:Rp K F H t x A):decide (x=V.non)=t.isN:=by
 cases r<;>simp[T.isN]
def j3{K}(r:Rp K F H t x A):decide (x=V.bl b)=t.isB b:=by
 cases r<;>simp[T.isB];rfl
def zp4:Aj X (compareOp .Is)<|Bq X.K<|BD false:=by
 intro b s O H x y v u Q I d a h;let(F,f,g,r,fh,r1,c,e,q):=h;unfold BD at e;split at e
 cases e;rw[c.non_inv]at a;refine zoy b s O H _ _ v u Q I d a {rfl,?_};rw[j1 r1];have:=q.bl fh
 simp_all;cases e;rw[c.bl_inv]at a;refine zoz b s O H _ _ v u Q I d a {_,rfl,?_};rw[j3 r1];have:=q.bl fh
 simp_all;cases e
def zfg:Aj X (compareOp .IsNot)<|Bq X.K<|BD true:=by
 intro b s O H x y v u Q I d a h;let(F,f,g,r,fh,r1,c,e,q):=h;unfold BD at e;split at e
 cases e;rw[c.non_inv]at a;refine zl3 b s O H _ _ v u Q I d a {rfl,?_};rw[j1 r1];have:=q.bl fh
 simp_all;cases e;rw[c.bl_inv]at a;refine zl4 b s O H _ _ v u Q I d a {_,rfl,?_};rw[j3 r1];have:=q.bl fh
 simp_all;cases e
end
section
variable {X:Cx}{E:L2.St->XK}{ca:Str->Value}{O:L2.St}{H:Hp}{m ma mb mc:AI}{ms:BC}{K:q9}{a b c e:Expr}{es:kg}{pos p p2:Pos}
def r_isT{c}(l:bootBuiltins cn=↑(.type c))(i:Gl X "isinstance")(j:X.mg "isinstance"=none)(a:Gl X cn)(b:X.mg cn=none)(k:cn≠"__name__")(hd:(cn == "__debug__")=false)(g:PE X e<|tM X.K E ca m)(d:starEach [e,.Name cn p2] X.env=(false,eval e X.env)::starEach [.Name cn p2] X.env) :
  PE X (.Call (.Name "isinstance" p) [e,.Name cn p2] [] pos) (tM X.K E ca<|B5 (g1<|DP c)<|AB m AE):=by
 refine PE.weak (My (zh3 (c:=c)) i j PyProof.Rows.boot_isinstance (Er g (Er (Φ (v:=.ty c) a b l rfl k hd) Fg) d) (by decide) (by decide) d rfl) λO H Q h=>?_;exact(IC<|ID h).mono λx n f=>{x,rfl,IB f}
set_option genInjectivity true in
inductive Ru where
 |ok (t:T)|exc (c:Str)
def Bs(K:q9)(ca:Str->Value)(g:qB->Option Ru):Sp:=λe H Q E=>∃F d,Aa F H/\Ai K F d e/\match g d with
 |some (.ok v)=>Dx K F H v Q|some (.exc c)=>∀a b,Ext F H a b R0->XE E ca c a b|none=>False
def LQ:Bool->Str->Option Rs
 |false,c=>↑(.x c)|true,c=>(match G7 c with
  |none=>↑(.x c)|some ϊ=>none)
def AN(g:qB->Option Ru)(ms:BC):AI:=λY=>match ms Y with
 |some (.v a b)=>(match g a with
  |some (.ok v)=>BK b v|some (.exc c)=>LQ b c|none=>none)
 |some (.x c)=>↑(.x c)|none=>none
def kK(h:tM K E ca (AN g ms) O H Q):QF (Bs K ca g) [] E (CD K E ca ms) O H Q:=by
 let(F,Y,R,S,q):=h;refine{F,Y,R,S,?_};unfold AN at q;cases o:ms Y with
 |none=>erw[o]at q<;>symm|some r=>
  erw[o]at q;cases r with
  |x c=>exact q|v s b=>
   intro e u xs d rs;have w:=S.ext d;rw[Þ];refine{Gz b e u R,s,U9 w,rs,?_};cases m:g s with
   |none=>erw[m]at q<;>symm|some r=>
    erw[m]at q;cases r with
    |exc c=>
     cases b with
     |false=>exact λk f a=>q k f (d.trans0 a)|true=>
      erw[LQ]at q;cases j:G7 c with
      |none=>rw[j]at q;exact λk f a=>(q e f<|d.grow a.hh).any j|some n=>rw[j]at q;symm
    |ok v=>
     intro t l z C a p;simp only at q;unfold BK at q;cases b with
     |false=>exact q t l z C (d.trans0 a) p|true=>
      cases i:v.flat with
      |false=>rw[i]at q;cases q|true=>rw[i]at q;exact q e l z R0 (d.grow a.hh)<|p.flat_any i
theorem zo2(D:DefX X.prog X.w X.K X.mg X.base k x ps<|Bs X.K ca g)(i:Room j X.A)(l:Ca X E)(c:PA X (e::es)<|CD X.K E ca ms)(hk:k<=j)(f:Gl X x)(a:(x == "__debug__")=false)
  (d:starEach (e::es) X.env=(false,eval e X.env)::starEach es X.env) (b:(backTo pos<|starEach es X.env).any (·.1)=false):PE X (.Call (.Name x p) (e::es) [] pos)<|tM X.K E ca<|AN g ms:=PE.weak (px D i l c hk f a d b) λϊ ϊ ϊ h=>kK h
end
def Ai.app{K}{F}:∀{ts us} {xs ys},Ai K F ts xs->Ai K F us ys->Ai K F (ts++us) (xs++ys)
 |[],us,xs,ys,h,r=>by
  rw[h.inv0];exact r
 |t::ts,us,xs,ys,h,r=>by
  let(x,c,rfl,a,b):=h.inv;exact .cons a<|Ai.app b r
def gD(a:qB)(g:qB->Option Ru):qB->Option Ru:=λb=>g<|b++a
section
variable {X:Cx}{E:L2.St->XK}{ca:Str->Value}{ms:BC}{e:Expr}{es:kg}{p pos:Pos}
theorem zkh(D:DefX X.prog X.w X.K X.mg X.base k x ps<|Bs X.K ca g)(d:DefsX X.K D.fd ps dvs)(b:∀F ,Ai X.K F dts dvs)(m:Room j X.A)(n:Ca X E)(f:PA X (e::es)<|CD X.K E ca ms)(hk:k<=j)(l:Gl X x)(a:(x == "__debug__")=false)
  (i:starEach (e::es) X.env=(false,eval e X.env)::starEach es X.env) (c:(backTo pos<|starEach es X.env).any (·.1)=false):PE X (.Call (.Name x p) (e::es) [] pos)<|tM X.K E ca<|AN (gD dts g) ms:=PE.weak (pxd D d m n f hk l a i c) λO H Q h=>(kK h).mono λt o ⟨F,ts,s,r,q⟩=>by
 rw[Þ]at r;exact{F,ts++dts,s,r.app<|b F,q}
end
def GZ(K:q9)(Γ:It)(F:Hp)(ts:qB):Prop:=∀(i:Nat) (d c:Hp),Aa F d->Aa d c ->
 (∀t,ts[i]?=↑t->Γ.go i c/\∀x a,Γ.yld i c x a->∃b,Ext d c b a R0/\Rp K b a t x R0)/\(i=ts.length->Γ.stop i c)
def pI(K:q9)(E:L2.St->XK)(ca:Str->Value)(O:L2.St)(P:It->Hp->Prop)(F H:Hp):Option RsL->Prop
 |some (.v d ϊ)=>∀a b Γ,Ext F H a b R0->GZ K Γ a d->P Γ b|some (.x c)=>∀a b,Ext F H a b R0->XE (E O) ca c a b|none=>False
def tI(K:q9)(E:L2.St->XK)(ca:Str->Value)(m:BC):TI:=λO H P=>∃F Y R,StR K F H O Y R/\pI K E ca O P F H (m Y)
def Jb:T->Bool
 |.nd ϊ .lst ϋ=>true|.nd ϊ .rl ϋ=>true|.nd ϊ (.pin ϋ) ό=>true|ϊ=>false
def Jd(m:AI):BC:=λY=>match m Y with
 |some (.v (.nd ϊ k l) false)=>↑(.v (BP l) false)|some (.x c)=>↑(.x c)|ϊ=>none
def Cc(a:Int)(n:Nat):qB:=(List.range n).map λ(i:Nat)=>.int<|a+(i:Int)
def CF(j:Int):Bool:=@decide (-(2 ^ 62)<=j/\j<2 ^ 62) (Classical.propDecidable _)
def OZ:qB->ke
 |[.int j]=>↑j|ϊ=>none
def OY:qB->Option (Int×Int)
 |[.int i,.int j]=>↑(i,j)|ϊ=>none
def C0(ms:BC):BC:=λY=>match ms Y with
 |some (.v a ϊ)=>(match OZ a with
  |some j=>if CF j then ↑(.v (Cc 0 j.toNat) false) else none
  |none=>none)
 |r=>r
def IZ(ms:BC):BC:=λY=>match ms Y with
 |some (.v a ϊ)=>(match OY a with
  |some (i,j)=>if CF i && CF j then ↑(.v (Cc i (j - i).toNat) false) else none
  |none=>none)
 |r=>r
def Ez:Nat->qB->qB
 |ϊ,[]=>[]|i,t::r=>.tup [.int (i:Int),t]::Ez (i+1) r
def Ih:qB->Option (qB)
 |[.nd o k l]=>if Jb (.nd o k l) then ↑l else none
 |ϊ=>none
def OX:qB->Option (qB×qB)
 |[.nd o k l,.nd b a m]=>if Jb (.nd o k l) && Jb (.nd b a m) then ↑(l,m) else none
 |ϊ=>none
def EH(ms:BC):BC:=λY=>match ms Y with
 |some (.v a false)=>(match Ih a with
  |some l=>↑(.v (Ez 0 l) false)|none=>none)
 |some (.v ϊ true)=>none|r=>r
def Hw(l m:qB):qB:=List.zipWith (λa b=>T.tup [a,b]) l m
def Gp(ms:BC):BC:=λY=>match ms Y with
 |some (.v a false)=>(match OX a with
  |some (l,m)=>↑(.v (Hw l m) false)|none=>none)
 |some (.v ϊ true)=>none|r=>r
def jQ:∀(l) (n i),(Ez n l)[i]?=(l[i]?).map λt=>T.tup [.int (n+i:Nat),t]
 |[],n,i=>by rfl|t::r,n,i=>by
  cases i with
  |zero=>rfl|succ i=>
   erw[Ez,Ň];rw[jQ r (n+1) i];grind
def zct(l):∀n,(Ez n l).length=l.length:=by
 induction l with
 |nil=>intro n;rfl|cons t r a=>simp[Ez,a]
section
variable {X:Cx}{E:L2.St->XK}{ca:Str->Value}{O:L2.St}{H:Hp}{m ma mb mc:AI}{ms:BC}{K:q9}{a b c e tg:Expr}{es elts:kg}{pos p tpos:Pos}{kk:Nat}
def U0{p}(n:∀F' H' ,Aa F F'->Aa F' H'->Ab K H' p xs)(r:Ai K F l xs):GZ K (W4 K p) F l:=by
 intro i F' H' b c;have sq:=n F' H' b c;refine{λt a=>?_,λe=>{xs,sq,by rw[e,r.1];simp}}
 have f:i<xs.length:=by
  have:=(Î.mp a).1;have:=r.1
  lia
 refine{{xs,xs[i],sq,Á f},λx d y=>?_};let(rfl,y):=y;have g:=y xs sq;exact{F',Ext.refl c,((r.same b).2 i t x a g).any}
def eU{p}(n:∀F' H' ,Aa F F'->Aa F' H'->CP K H' p xs)(r:Ai K F l xs):GZ K (W3 K p) F l:=by
 intro i F' H' b c;have sq:=n F' H' b c;refine{λt a=>?_,λe=>{xs,sq,by rw[e,r.1];simp}}
 have f:i<xs.length:=by
  have:=(Î.mp a).1;have:=r.1
  lia
 refine{{xs,xs[i],sq,Á f},λx d y=>?_};let(rfl,y):=y;have g:=y xs sq;exact{F',Ext.refl c,((r.same b).2 i t x a g).any}
def eY{lo}:GZ K (Lx lo n) F<|Cc lo n:=by
 intro i d l m k;refine{λt b=>?_,λe=>?_};unfold Cc at b;rw[È]at b;let(j,a,g):=Ý.mp b
 have c:i<n:=by
  have:=(Î.mp a).1;simpa using this
 have h:i=j:=by rw[Ŭ c]at a;exact Û a
 subst h;subst g;refine{c,λx f y=>?_};let(rfl,rfl):=y;exact{d,Ext.refl k,.int _};have:n<=i:=by rw[e];simp[Cc]
 exact this
def zib{p}(n:∀F' H' ,Aa F F'->Aa F' H'->Ab K H' p xs)(r:Ai K F l xs):GZ K (W5 K k p) F<|Ez k l:=by
 intro i F' H' c d;have sq:=n F' H' c d;refine{λt b=>?_,λe=>{xs,sq,by rw[e,zct,r.1];simp}}
 rw[jQ]at b;let(s,a,rfl):=Ý.mp b
 have h:i<xs.length:=by
  have:=(Î.mp a).1;have:=r.1
  lia
 refine{{xs,xs[i],sq,Á h},λx g y=>?_};let(q,f,rfl,j,rfl,y):=y;have m:=y xs sq;have e:=Ext.new (o:=.tup [.int<|k+i,f]) d j;refine{_,e,Ai.of_node Cn ?_};exact .cons (H:=H') (.int _)<|.cons (H:=H') (((r.same<|c.trans e.ff).2 i s f a m).any) .nil
def zm1{p p2}(n:∀F' H' ,Aa F F'->Aa F' H'->Ab K H' p xs)(B:∀F' H' ,Aa F F'->Aa F' H'->Ab K H' p2 ys)(r:Ai K F l xs)(j:Ai K F l2 ys):GZ K (WZ K p p2) F<|Hw l l2:=by
 intro i F' H' d h;have sq:=n F' H' d h;have b:=B F' H' d h;have l1:=r.1;have A:=j.1;refine{λt a=>?_,λe=>{xs,ys,sq,b,?_}}
 unfold Hw at a;rw[List.getElem?_zipWith]at a;cases c:l[i]? with
 |none=>rw[c]at a;cases a|some C=>
  cases f:l2[i]? with
  |none=>rw[c,f]at a;cases a|some D=>
   rw[c,f]at a;cases a;have s:i<xs.length:=by have:=(Î.mp c).1;lia
   have g:i<ys.length:=by grind
   refine{{xs,xs[i],ys,ys[i],sq,Á s,b,Á g},λx m y=>?_};let(q,k,z0,rfl,u,rfl,y,z):=y;have v:=y xs sq;have w:=z ys b;have e:=Ext.new (o:=.tup [k,z0]) h u;refine{_,e,Ai.of_node Cn ?_};exact .cons (H:=H') (((r.same<|d.trans e.ff).2 i C k c v).any)<|.cons (H:=H') (((j.same<|d.trans e.ff).2 i D z0 f w).any) .nil
 have:i=min l.length l2.length:=by rw[e];simp[Hw]
 lia
theorem PI.weak(h:PI X tg e t)(w:∀O H P,t' O H P->t O H P):PI X tg e t':=λa s O H P I q=>h a s O H P I<|w O H P q
theorem PI.or(h:PI X tg e t)(b:PI X tg e t'):PI X tg e<|λO H P=>t O H P\/t' O H P:=λa s O H P I q=>q.elim (h a s O H P I)<|b a s O H P I
def YQ(A:PE X e<|tM X.K E ca m):PI X tg e<|tI X.K E ca<|Jd m:=by
 refine PI.weak (PI.or (zkv A)<|zoh A) λO H P h=>?_;let(F,Y,R,S,q):=h;unfold Jd at q
 have j:∀{o } {k } {l },m Y=↑(.v (.nd o k l) false)->(∀w y Γ,Ext F H w y R0->GZ X.K Γ w (BP l)->P Γ y)->∀g a x B,Ext F H g a B->E1 X.K g a R (.nd o k l) false x B->∃(d:Hp) (p:Addr) (xs:qA),x=.ref p/\Ext F H d a R0/\GW X.K d k p xs/\Ai X.K d (BP l) xs:=by
  intro o k l f q g a x B i g1;let(d,b,_,D):=E1.frz S i g1;have z :=D;rw[T.share]at z;let(p,xs,rfl,_,n,kd):=ED z;exact{(d),p,xs,rfl,b,n,kd}
 cases f:m Y with
 |none=>erw[f]at q<;>symm|some r=>
  erw[f]at q;cases r with
  |x c=>exact .inl {F,Y,R,S,by rw[f];exact q}|v t C=>
   cases t with
   |nd o k l=>
    cases C with
    |true=>symm|false=>
     simp only at q;cases k with
     |lst=>refine .inl {F,Y,R,S,?_};rw[f];intro g a x B i g1;let(d,p,xs,rfl,b,n,kd):=j f q g a x B i g1;exact{p,rfl,{xs,Ab.of<|b.fh _ _ n},q d a _ b<|U0 (λw y s u=>Ab.of<|u _ _<|s _ _ n) kd}
     |pin ϊ=>refine .inl {F,Y,R,S,?_};rw[f];intro g a x B i g1;let(d,p,xs,rfl,b,n,kd):=j f q g a x B i g1;exact{p,rfl,{xs,Ab.of<|b.fh _ _ n},q d a _ b<|U0 (λw y s u=>Ab.of<|u _ _<|s _ _ n) kd}
     |rl=>refine .inl {F,Y,R,S,?_};rw[f];intro g a x B i g1;let(d,p,xs,rfl,b,n,kd):=j f q g a x B i g1;exact{p,rfl,{xs,b.fh.seq n.l},q d a _ b<|U0 (λw y s u=>u.seq<|s.seq n.l) kd}
     |tup=>refine .inr {F,Y,R,S,?_};rw[f];intro g a x B i g1;let(d,p,xs,rfl,b,n,kd):=j f q g a x B i g1;exact{p,rfl,{xs,CP.of<|b.fh _ _ n},q d a _ b<|eU (λw y s u=>CP.of<|u _ _<|s _ _ n) kd}
     |rt=>refine .inr {F,Y,R,S,?_};rw[f];intro g a x B i g1;let(d,p,xs,rfl,b,n,kd):=j f q g a x B i g1;exact{p,rfl,{xs,HG b.fh n},q d a _ b<|eU (λw y s u=>HG u<|HG s n) kd}
   |_=>symm
def K0{f:(BC)->BC}   (i:∀Y c,ms Y=↑(.x c)->f ms Y=↑(.x c))(d:∀Y,ms Y=none->f ms Y=none)
  (g : ∀ F Y R ts b, StR K F H O Y R -> ms Y = ↑(.v ts b) -> (match f ms Y with
   |some (.v us ϊ)=>∀F' H' Γ,Ext F H F' H' R0->GZ K Γ F' us->P Γ H'|some (.x c)=>∀F' H',Ext F H F' H' R0->XE (E O) ca c F' H'|none=>False)->∀F' H' xs,Ext F H F' H' R0->Ai K (Gz b F' H' R) ts xs->W xs H') (h:tI K E ca (f ms) O H P):CD K E ca ms O H W:=by
 let(F,Y,R,S,q):=h;refine{F,Y,R,S,?_};cases a:ms Y with
 |none=>rw[d Y a]at q;symm|some r=>
  cases r with
  |x c=>rw[i Y c a]at q;exact q|v ts b=>exact λF' H' xs e rs=>g F Y R ts b S a q F' H' xs e rs
def SV(h:CF j=true):-(2 ^ 62)<=j/\j<2 ^ 62:=@of_decide_eq_true _ (Classical.propDecidable _) h
def zhn(o:Gl X "range")(r:X.mg "range"=none)(n:PA X [a]<|CD X.K E ca ms)(s:starEach [a] X.env=[(false,eval a X.env)]):PI X tg (.Call (.Name "range" p) [a] [] pos)<|tI X.K E ca<|C0 ms:=by
 refine PI.weak (zfd o r n s) λO H P h=>?_;refine K0 (f:=C0) (λY c e=>by unfold C0;rw[e]) (λY e=>by unfold C0;rw[e]) (λF Y R t b S e q k l xs m rs=>?_) h;unfold C0 at q;rw[e]at q;simp only at q;cases d:OZ t with
 |none=>erw[d]at q<;>symm|some j=>
  erw[d]at q;by_cases g:CF j=true;erw[g,Ä]at q;let(g1,g2):=SV g;unfold OZ at d;split at d
  cases d;let(v,u,rfl,r1,i):=rs.inv;cases i.inv0;rw[r1.int_inv];exact{j,rfl,g1,g2,q k l _ m eY}
  cases d;erw[g]at q;symm
def zhm(u:Gl X "range")(v:X.mg "range"=none)(t:PA X [a,b]<|CD X.K E ca ms)(w:starEach [a,b] X.env=[(false,eval a X.env),(false,eval b X.env)])(g:starEach [b] X.env=[(false,eval b X.env)]):PI X tg (.Call (.Name "range" p) [a,b] [] pos)<|tI X.K E ca<|IZ ms:=by
 refine PI.weak (zfc u v t w g) λO H P h=>?_;refine K0 (λY c e=>by unfold IZ;rw[e]) (λY e=>by unfold IZ;rw[e]) (λF Y R z b S e q m n xs o rs=>?_) h;unfold IZ at q;rw[e]at q;simp only at q;cases d:OY z with
 |none=>erw[d]at q<;>symm|some x=>
  let(i,j):=x;erw[d]at q;by_cases f:(CF i && CF j)=true;erw[f,Ä]at q;rw[Å]at f;let(g1,g2):=SV f.1;let(r,s):=SV f.2;unfold OY at d;split at d
  cases d;let(C,A,rfl,r1,k):=rs.inv;let(x2,B,rfl,y,l):=k.inv;cases l.inv0;rw[r1.int_inv,y.int_inv];exact{i,j,rfl,{(g1),g2,r,s},q m n _ o eY}
  cases d;erw[f]at q;symm
def LB(h:Jb (.nd o k l)=true)(r:Rp K F F (.nd o k l) x R0):∃p xs,x=.ref p/\(∀F' H' ,Aa F F'->Aa F' H'->Ab K H' p xs)/\Ai K F l xs:=by
 let(p,xs,rfl,_,n,kd):=ED r;refine{p,xs,rfl,λF' H' a b=>?_,kd};cases k with
 |lst=>exact Ab.of (b _ _<|a _ _ n)|rl=>exact b.seq (a.seq n.l)|tup=>cases h|rt=>cases h|pin q=>exact Ab.of<|b _ _<|a _ _ n
set_option tactic.hygienic true in
def YR(o:Gl X "enumerate")(r:X.mg "enumerate"=none)(n:PA X [a]<|CD X.K E ca ms)(s:starEach [a] X.env=[(false,eval a X.env)]):PI X (.Tuple elts kk tpos) (.Call (.Name "enumerate" p) [a] [] pos)<|tI X.K E ca<|EH ms:=by
 refine PI.weak (zkw o r n s) λO H P h=>?_;refine K0 (f:=EH) (λY c e=>by unfold EH;rw[e]) (λY e=>by unfold EH;rw[e]) (λF Y R u b S e q i j xs k rs=>?_) h;unfold EH at q;rw[e]at q;cases b with
 |true=>symm|false=>
  simp only at q;cases d:Ih u with
  |none=>erw[d]at q<;>symm|some l=>
   erw[d]at q;unfold Ih at d;split at d;split at d;cases d;rename_i m;let(x,v,rfl,r1,g):=rs.inv;cases g.inv0;let(t,w,rfl,sq,kd):=LB m r1;exact{t,rfl,{w,sq i j (.refl _) k.fh},q i j _ k<|zib sq kd}
   cases d;cases d
set_option tactic.hygienic true in
def r_zip(t:Gl X "zip")(u:X.mg "zip"=none)(s:PA X [a,b]<|CD X.K E ca ms)(v:starEach [a,b] X.env=[(false,eval a X.env),(false,eval b X.env)])(m:starEach [b] X.env=[(false,eval b X.env)]):PI X (.Tuple elts kk tpos) (.Call (.Name "zip" p) [a,b] [] pos)<|tI X.K E ca<|Gp ms:=by
 refine PI.weak (zog t u s v m) λO H P h=>?_;refine K0 (λY c e=>by unfold Gp;rw[e]) (λY e=>by unfold Gp;rw[e]) (λF Y R A b S e q g i xs j rs=>?_) h;unfold Gp at q;rw[e]at q;cases b with
 |true=>symm|false=>
  simp only at q;cases d:OX A with
  |none=>erw[d]at q<;>symm|some w=>
   let(l,I):=w;erw[d]at q;unfold OX at d;split at d;split at d;cases d;rename_i k;rw[Å]at k;let(J,B,rfl,r1,o):=rs.inv;let(x2,C,rfl,z,r):=o.inv;cases r.inv0;let(x,D,rfl,sq,kd):=LB k.1 r1;let(y,G,rfl,f,n):=LB k.2 z;exact{x,y,rfl,{D,sq g i (.refl _) j.fh},{G,f g i (.refl _) j.fh},q g i _ j<|zm1 sq f kd n}
   cases d;cases d
end
def StR.set{K}(S:StR K F H O Y R)(r:Rp K F H t x A)(d:∀j a,j≠i->R j a->¬ A a)(l:i<Y.length) :
  StR K F H (O.set i ↑x) (Y.set i ↑t) (λj=>if j=i then A else R j):=by
 have n:=S.len;refine{S.fh,by simp[n],λj h e=>?_,λj a z=>?_,λj k a f g c=>?_};by_cases b:j=i;subst b;rw[ê l]at e;cases e;exact{x,ê (by lia),by simpa using r};rw[å<|Í b]at e ⊢;let(y,m,r1):=S.rep j h e;exact{y,m,by simpa[b] using r1}
 by_cases b:j=i;subst b;exact{t,ê l};erw[b,Ã]at z;let(h,e):=S.out j a z;exact{h,by rw[å<|Í b];exact e}
 by_cases b:j=i;erw[b,Ä]at g;have hk:¬ k=i:=λz=>f<|b.trans z.symm
 erw[hk,Ã]at c;exact d k a hk c g;erw[b,Ã]at g;by_cases hk:k=i;erw[hk,Ä]at c;exact d j a b g c;erw[hk,Ã]at c;exact S.dis j k a f g c
def Ek(K:q9)(b:T->AM->Option AM):TG:=λv O H Q=>∃F Y R t e,StR K F H O Y R/\Rp K F H t v R0/\b t Y=↑e/\∀c d,StR K F H c e d->(∀i a,d i a->R i a)->Q c H
def IE(K:q9)(b:qB->AM->Option AM):Jq:=λg O H Q=>∃F Y R f e,StR K F H O Y R/\Ai K F f g/\b f Y=↑e/\∀c d,StR K F H c e d->(∀i a,d i a->R i a)->Q c H
def AD(i:Nat):T->AM->Option AM:=λt Y=>if i<Y.length then ↑(Y.set i ↑t) else none
def Ah:qB->AM->Option AM
 |[],Y=>↑Y|ϊ::ϋ,ό=>none
def AH(b:T->AM->Option AM)(bs:qB->AM->Option AM):qB->AM->Option AM
 |t::c,Y=>(match b t Y with
  |some a=>bs c a|none=>none)
 |[],ϊ=>none
def Ad(n:Nat)(bs:qB->AM->Option AM):T->AM->Option AM
 |.nd ϊ .tup l,Y=>if l.length=n then bs l Y else none
 |.nd ϊ .rt l,Y=>if l.length=n then bs l Y else none
 |.nd ϊ .lst l,Y=>if l.length=n then bs l Y else none
 |ϊ,ϋ=>none
def zol(i:X.calm=true)(h:EZ X es t)(j:(assignEach es X.env).length=n)(c:(assignEach es X.env).findIdx? (·.1)=none):PG X (.Tuple es k pos) (λv O H Q=>Ub X.K n t v O H Q\/∃a xs,v=.ref a/\Ab X.K H a xs/\xs.length=n/\t xs O H Q):=by
 intro l s O H v u Q I r d;rcases d with d|⟨a,xs,q,y,w,d⟩;exact zok i h j c l s O H v u Q I r d;subst q;cases r;let(g,A,(o,m,x,f,_,hd),C):=I.list y;refine Â<|Ń ?_;unfold unpack;rw[c,j,show n=g.toArray.size by simp[<- w,A.length]]
 refine Â<|ć<|W.kun_itemsOf (I.ok.hd i) {(o),x,f,m,hd} λB z=>?_
 have p :=I.kept (t':=s.toks) λb o e=>z b o (Ô<|É e) e;exact h l _ O H xs _ Q p (by grind) d
section
variable {X:Cx}{e:Expr}{es:kg}{pos:Pos}{b:T->AM->Option AM}{bs:qB->AM->Option AM}
theorem PG.weak(h:PG X e t)(w:∀v O H Q,t' v O H Q->t v O H Q):PG X e t':=λa s O H v u Q I r q=>h a s O H v u Q I r<|w v O H Q q
theorem EZ.weak(h:EZ X es t)(w:∀v O H Q,t' v O H Q->t v O H Q):EZ X es t':=λa s O H v u Q I r q=>h a s O H v u Q I r<|w v O H Q q
set_option tactic.hygienic true in
def g_nm(b:X.N.Nodup)(d:X.N[i]?=↑x)(k:GX X.env.scope x)(c:X.fn x=true\/X.env.scope.names.lookup x=↑.local):PG X (.Name x pos)<|Ek X.K<|AD i:=by
 refine PG.weak (zky b d k c) λv O H Q h=>?_;let(F,Y,R,t,l,S,r,e,q):=h;unfold AD at e;split at e;cases e;rename_i g;refine q _ _ (S.set r (λϊ ϊ ϊ ϊ z=>z.elim) g) λj a z=>?_;by_cases f:j=i;erw[f]at z;exact z.elim;grind;cases e
theorem g_nil:EZ X []<|IE X.K Ah:=EZ.weak zkx λv O H Q h=>by
 let(F,Y,R,a,b,S,r,e,q):=h;cases a with
 |nil=>cases e;exact{r.inv0,q O R S λϊ ϊ z=>z}|cons ϊ ϋ=>cases e
def zqd(n:PG X e<|Ek X.K b)(o:EZ X es<|IE X.K bs)(p:(assignEach (e::es) X.env).map (·.2)=assign e X.env::(assignEach es X.env).map (·.2)):EZ X (e::es)<|IE X.K<|AH b bs:=by
 refine EZ.weak (zht n o p) λv O H Q h=>?_;let(F,Y,R,d,m,S,r,e,q):=h;cases d with
 |nil=>cases e|cons t d=>
  let(x,xs,rfl,r1,rs):=r.inv;unfold AH at e;simp only at e;cases f:b t Y with
  |none=>grind|some c=>rw[f]at e;exact{x,xs,rfl,F,Y,R,t,c,S,r1.any,f,λu j k s=>{F,c,j,d,m,k,rs,e,λg R2 l w2=>q g R2 l λi a z=>s i a<|w2 i a z}}
set_option tactic.hygienic true in
def g_tup(m:X.calm=true)(h:EZ X es<|IE X.K bs)(u:(assignEach es X.env).length=n)(g:(assignEach es X.env).findIdx? (·.1)=none):PG X (.Tuple es k pos)<|Ek X.K<|Ad n bs:=by
 refine PG.weak (zol m h u g) λv O H Q h=>?_;let(F,Y,R,t,f,S,r,e,q):=h
 have c:∀{o:Bool} {kd:Kd} {l:qB},t=.nd o kd l->(kd=.tup\/kd=.rt\/kd=.lst)->(if l.length=n then bs l Y else none)=↑f->(Ub X.K n (IE X.K bs) v O H Q\/∃a xs,v=.ref a/\Ab X.K H a xs/\xs.length=n/\IE X.K bs xs O H Q):=by
  intro o kd l j hk d;subst j;split at d;rename_i s;let(p,xs,rfl,_,nn,b):=ED<|r.any (H':=F);have i:xs.length=n:=by rw[<- b.1];exact s
  rcases hk with rfl|rfl|rfl;exact .inl {p,xs,rfl,CP.of<|S.fh _ _ nn,i,F,Y,R,l,f,S,b,d,q};exact .inl {p,xs,rfl,HG S.fh nn,i,F,Y,R,l,f,S,b,d,q};exact .inr {p,xs,rfl,Ab.of<|S.fh _ _ nn,i,F,Y,R,l,f,S,b,d,q};cases d
 unfold Ad at e;split at e;exact c rfl (.inl rfl) e;exact c rfl (.inr<|.inl rfl) e;exact c rfl (.inr<|.inr rfl) e;cases e
end
section
end
section
variable {X:Cx}{a:Expr}{elts:kg}{kk ko:Nat}{tpos p pos kp vp:Pos}{E:L2.St->XK}{ca:Str->Value}{ms:BC}
end
def W0(K:q9)(a:Addr)(n:Nat):It:=
 {λi H=>∃xs x,Ab K H a xs/\xs.length=n/\i<n/\xs[n - 1 - i]?=↑x,λi H x b=>b=H/\∀xs,Ab K H a xs->xs[n - 1 - i]?=↑x,λi ϊ=>i=n}
def zhe{P:Program}{w:World}{K:q9}{R:Expr}(a it:Addr)(n:Nat):Turn P w K R (W0 K a n) [it] it (λi h=>h.IsRevIter it a<|(n:Int) - 1 - (i:Int)) where
 mem:=by simp
 obj:=λi h st b f=>by
  have e:b=it:=by simpa using f
  subst e;let(o,e,_,d):=st;exact{o,e,λv z=>by rw[d]at z;cases z}
 keep:=λi h y st k=>st.at λo e=>k it (by simp) o e
 item:=by
  intro X r t q A i M s O H E I m st j;subst r t q;let(xs,x,B,T,S,C):=j;let(L,Q,p,U):=I.list B;let(u,G,N):=Q.get C;let(f0,f1,f2,f3,f4,f5):=m it<|by simp
  have F:(n:Int) - 1 - (i:Int)=((n - 1 - i:Nat):Int):=by lia
  have l:=st;rw[F]at l;refine wpAny_pyNext_rev_item l p.isList (by simpa using G) λy g sb=>?_;have D:=I.turned (t':=s.toks) (λb o f e=>(sb.2 b f).trans e) f0 f1 f3 f4 f5;rw[show((n - 1 - i:Nat):Int) - 1=(n:Int) - 1 - ((i+1:Nat):Int) by lia]at g;let(o,e,c,d):=id g;exact{u,rfl,LI e c d (by decide) {x,H,D,N,{rfl,λV J=>by rw[I.list_inj J B];exact C},g,λb f=>(m b f).1}}
 done:=by
  intro X r t q A i M s O H E I m st j;subst r t q;have j:i=n:=j;subst j;let(f0,f1,f2,f3,f4,f5):=m it<|by simp
  rw[show(i:Int) - 1 - (i:Int)=-1 by lia]at st;exact wpAny_pyNext_rev_end (I.ok.hd A) st λy eb=>{rfl,I.turned (λb o f e=>eb b o f e) f0 f1 f3 f4 f5}
 self:=λϊ ϊ ϊ ϊ ϊ st h=>wpAny_pyIter_revIter st h
def zm3{K:q9}{F:Hp}{p:Addr}{xs:qA}{l:qB}(n:∀F' H',Aa F F'->Aa F' H'->Ab K H' p xs)(r:Ai K F l xs):GZ K (W0 K p xs.length) F l.reverse:=by
 intro i F' H' c d;have sq:=n F' H' c d;have b:=r.1;refine{λt a=>?_,λe=>by rw[List.length_reverse,b]at e;exact e}
 have g:i<l.length:=by
  have:=(Î.mp a).1;rwa[List.length_reverse]at this
 rw[List.getElem?_reverse g,b]at a;have h:xs.length - 1 - i<xs.length:=by lia
 refine{{xs,xs[xs.length - 1 - i],sq,rfl,by lia,Á h},λx f y=>?_};let(rfl,y):=y;exact{F',Ext.refl d,((r.same c).2 _ t x a (y xs sq)).any}
section
variable {X:Cx}{tg:Expr}
def iRevL(K:q9)(c:TA):TI:=λO H R=>c O H λd b=>∃a xs,d=[.ref a]/\Ab K b a xs/\R (W0 K a xs.length) b
def zoj{a:Expr}{j:TA}{p pos:Pos}(r:Gl X "reversed")(t:X.mg "reversed"=none)(m:PA X [a] j)(w:starEach [a] X.env=[(false,eval a X.env)]):PI X tg (.Call (.Name "reversed" p) [a] [] pos)<|iRevL X.K j:=by
 intro i s O H R I h;refine Call_<|Gh I r t boot_reversed<|Ę (A4 (m pos i s O H _ I h) λE c B=>?_) w rfl
 let(F,g,f,r1,y):=B;let(l,xs,e,v,q):=y;subst e;let(u,rfl,z):=Ft r1;cases z;let(d,A,x,D):=f.list v;have C:=A.length;refine call_reversed_list x.isList ?_;have k:Inv X i O g { c with heap:=c.heap.push<|revObj l<|(d.toArray.size:Int) - 1,toks:=c.toks }:=f.kept λb o e=>Ø _ e
 have st:(c.heap.push<|revObj l<|(d.toArray.size:Int) - 1).IsRevIter c.heap.objs.size l ((xs.length:Int) - 1 - ((0:Nat):Int)):={_,æ _ rfl,rfl,by rw[show(xs.length:Int) - 1 - ((0:Nat):Int)=(d.toArray.size:Int) - 1 by rw[ð];lia];rfl};refine wpAny_pyIter_revIter st {c.heap.objs.size,[c.heap.objs.size],_,_,g,rfl,k,zhe l _ xs.length,st,λb n=>?_,q};have e:b=c.heap.objs.size:=by simpa using n
 subst e;exact f.fpOk (Æ _)<|f.hok.fresh<|Æ _
def Gq(ms:BC):BC:=λY=>match ms Y with
 |some (.v a false)=>(match Ih a with
  |some l=>↑(.v l.reverse false)|none=>none)
 |some (.v ϊ true)=>none|r=>r
set_option tactic.hygienic true in
def r_rvl{E:L2.St->XK}{ca:Str->Value}{a:Expr}{p pos:Pos}{ms:BC}(o:Gl X "reversed")(r:X.mg "reversed"=none)(n:PA X [a]<|CD X.K E ca ms)(s:starEach [a] X.env=[(false,eval a X.env)]):PI X tg (.Call (.Name "reversed" p) [a] [] pos)<|tI X.K E ca<|Gq ms:=by
 refine PI.weak (zoj o r n s) λO H P h=>?_;refine K0 (f:=Gq) (λY c e=>by unfold Gq;rw[e]) (λY e=>by unfold Gq;rw[e]) (λF Y R u b S e q i j xs k rs=>?_) h;unfold Gq at q;rw[e]at q;cases b with
 |true=>symm|false=>
  simp only at q;cases d:Ih u with
  |none=>erw[d]at q<;>symm|some l=>
   erw[d]at q;unfold Ih at d;split at d;split at d;cases d;rename_i m;let(x,v,rfl,r1,g):=rs.inv;cases g.inv0;let(t,w,rfl,sq,kd):=LB m r1;exact{t,w,rfl,sq i j (.refl _) k.fh,q i j _ k<|zm3 sq kd}
   cases d;cases d
end
def E00:L2.St->XK:=λϊ=>E0
def CJ(b:T->AM->Option AM)(mt me:AI):qB->AM->Option (qB)
 |[],ϊ=>↑[]|t::c,Y=>(match b t Y with
  |some a=>(match mt a with
   |some (.v (.bl true) ϊ)=>(match me a with
    |some (.v v false)=>(match CJ b mt me c a with
     |some l=>↑(v::l)|none=>none)
    |ϊ=>none)
   |some (.v (.bl false) ϊ)=>CJ b mt me c a|ϊ=>none)
  |none=>none)
def Gi(b:T->AM->Option AM)(mt me:AI):qB->AM->Option Str
 |[],ϊ=>none|t::d,Y=>(match b t Y with
  |some a=>(match mt a with
   |some (.v (.bl true) ϊ)=>(match me a with
    |some (.v ϊ false)=>Gi b mt me d a|some (.x c)=>↑c|ϊ=>none)
   |some (.v (.bl false) ϊ)=>Gi b mt me d a|some (.x c)=>↑c|ϊ=>none)
  |none=>none)
def OK(Y:AM)(j:Nat):kr:=match Y[j]? with
 |some ↑t=>if t.sh then ↑t else none
 |ϊ=>none
def blk(n:Nat)(a:kq)(Y:AM):AM:=List.replicate n none++a.map (OK Y)
def V6(O:L2.St)(j:Nat):Option V:=match O[j]? with
 |some ↑v=>↑v|ϊ=>none
def Hq(n:Nat)(a:kq)(O:L2.St):L2.St:=List.replicate n none++a.map (V6 O)
def Az(n:Nat)(a:kq)(e:BC)(b:T->AM->Option AM)(mt me:AI):AI:=λY=>match e Y with
 |some (.v d ϊ)=>if d.length<=Bh then (match CJ b mt me d (blk n a Y) with
  |some l=>↑(.v (.own l) false)|none=>(match Gi b mt me d (blk n a Y) with
   |some c=>↑(.x c)|none=>none)) else none
 |some (.x c)=>↑(.x c)|none=>none
set_option tactic.hygienic true in
def zqu{K}(S:StR K F H O Y R)(n:Nat)(caps):StR K F H (Hq n caps O) (blk n caps Y)<|λϊ=>R0:=by
 refine{S.fh,by simp[Hq,blk],λi t e=>?_,λϊ ϊ z=>z.elim,λϊ ϊ ϊ ϊ z=>z.elim};unfold blk at e;unfold Hq;by_cases c:i<n;rw[ú (by simpa using c),Š,if_pos c]at e;cases e;rw[Ħ (by simp;lia),È]at e ⊢;erw[Ŧ]at e ⊢;cases b:caps[i - n]? with
 |none=>rw[b]at e;cases e|some j=>
  rw[b]at e;erw[ă]at e ⊢;have a:OK Y j=↑t:=Û e;unfold OK at a;split at a
  rename_i g f;split at a;cases a;rename_i d;let(x,ex,r):=S.rep j _ f;refine{x,?_,r.move d<|.refl _};unfold V6;rw[ex]
  cases a;cases a
def Xd{l:qB}(h:tot (λj=>if j=l.length then B else Rr j) a):tot Rr a\/B a:=by
 let(j,z):=h;by_cases b:j=l.length;grind;erw[b]at z;exact .inl {(j),z}
section
variable {X:Cx}{E:L2.St->XK}{ca:Str->Value}{O:L2.St}{H:Hp}{K:q9}{n:Nat}{caps:kq}{mi:BC}{b:T->AM->Option AM}{mt me:AI}
set_option tactic.hygienic true in
def zfp(h:CJ b mt me (t::us) τ1=↑l2):∃τ2,b t τ1=↑τ2/\((∃bt,mt τ2=↑(.v (.bl false) bt)/\CJ b mt me us τ2=↑l2)\/∃bt w l3,mt τ2=↑(.v (.bl true) bt)/\me τ2=↑(.v w false)/\CJ b mt me us τ2=↑l3/\l2=w::l3):=by
 unfold CJ at h;split at h;rename_i τ2 d;refine{τ2,d,?_};split at h;rename_i bt a;split at h;rename_i w e;split at h;rename_i l3 c;cases h;exact .inr {(bt),w,l3,a,e,c,rfl};cases h;cases h;rename_i bt a;exact .inl {(bt),a,h};cases h;cases h
set_option tactic.hygienic true in
def zi7(h:Gi b mt me (t::us) τ1=↑c):∃τ2,b t τ1=↑τ2/\((∃bt,mt τ2=↑(.v (.bl false) bt)/\Gi b mt me us τ2=↑c)\/(∃bt,mt τ2=↑(.v (.bl true) bt)/\((∃w,me τ2=↑(.v w false)/\Gi b mt me us τ2=↑c)\/me τ2=↑(.x c)))\/mt τ2=↑(.x c)):=by
 unfold Gi at h;split at h;rename_i τ2 f;refine{τ2,f,?_};split at h;rename_i bt a;split at h;rename_i w d;exact .inr<|.inl {bt,a,.inl {(w),d,h}}
 rename_i e d;cases h;exact .inr<|.inl {bt,a,.inr d}
 cases h;rename_i bt a;exact .inl {(bt),a,h};rename_i e a;cases h;exact .inr<|.inr a
 cases h;cases h
def XX(h:tM K E ca (Az n caps mi b mt me) O H Q):M0 (Hq n caps) (tI K E ca mi) (Ek K b) (BG K (λϊ=>E O) ca mt) (tM K (λϊ=>E O) ca me) O H Q:=by
 let(F,Y,R,S,q):=h;refine{F,Y,R,S,?_};unfold Az at q;cases hi:mi Y with
 |none=>erw[hi]at q<;>symm|some r=>
  erw[hi]at q;cases r with
  |x c=>exact q|v s bb=>
   intro F1 H1 Γ e1 its;by_cases M:¬ s.length<=Bh;erw[M,Ã]at q<;>symm;have hz :=Decidable.not_not.mp M;erw[hz,Ä]at q
   obtain⟨G,g1,g0,gs⟩:∃G:qB->AM->qB->Prop,(∀t u d l,G (t::u) d l->∃f,b t d=↑f/\((∃bt,mt f=↑(.v (.bl false) bt)/\G u f l)\/(∃bt,mt f=↑(.v (.bl true) bt)/\((∃w,me f=↑(.v w false)/\G u f (l++[w]))\/∃c,me f=↑(.x c)/\∀g k,Ext F H g k R0->XE (E O) ca c g k))\/∃c,mt f=↑(.x c)/\∀g k,Ext F H g k R0->XE (E O) ca c g k)) /\
     (∀d l,G [] d l->∀g k x B,Ext F H g k B->Rp K g k (.own l) x B->Q x k)/\G s (blk n caps Y) []:=by
    cases hg:CJ b mt me s (blk n caps Y) with
    |some N=>
     erw[hg]at q;refine{λu d l=>∃l2,CJ b mt me u d=↑l2/\l++l2=N,λt u d l z=>?_,λd l z=>?_,N,hg,rfl};let(l2,z,e):=z;obtain⟨f,y,w|⟨bt,w,l3,Z,T,y3,rfl⟩⟩:=zfp z;let(bt,w1,w2):=w;exact{f,y,.inl {(bt),w1,l2,w2,e}};exact{f,y,.inr<|.inl {bt,Z,.inl {w,T,l3,y3,by simpa using e}}};let(l2,z,e):=z;cases z;rw[Þ]at e;subst e;exact q
    |none=>
     erw[hg]at q;cases hx:Gi b mt me s (blk n caps Y) with
     |none=>erw[hx]at q<;>symm|some c=>
      erw[hx]at q;refine{λu d l=>Gi b mt me u d=↑c,λt u d l z=>?_,λd l z=>(by cases z),hx};obtain⟨f,y,w|⟨bt,Z,⟨w,T,y3⟩|T⟩|w⟩:=zi7 z;exact{f,y,.inl w};exact{f,y,.inr<|.inl {bt,Z,.inl {(w),T,y3}}};exact{f,y,.inr<|.inl {bt,Z,.inr {(c),T,q}}};exact{f,y,.inr<|.inr {(c),w,q}}
   have S1:=S.ext e1;refine{λi ys st k=>∃(g:Hp) (V:AM) (l:qB) (U:Nat->Rg),Ext F1 H1 g k (tot U)/\RpO K g k l ys U/\StR K g k st V (λϊ=>R0)/\i<=s.length/\G (s.drop i) V l/\l.length<=i,s.length,by rw[<- GH];exact hz,?_,?_};exact{F1,blk n caps Y,[],λϊ=>R0,(Ext.refl S1.fh).mono λa ⟨_,z⟩=>z.elim,.nil,zqu S1 n caps,é _,gs,Æ _};rintro i ys st k ⟨g,V,l,U,I,X,S2,hle,m,hll⟩;have hly:=X.len;refine{by lia,hle,?_}
   let(i1,i2):=its i g k I.ff I.fh;by_cases o:i<s.length;refine .inr {o,?_};let(go,yld):=i1 _<|Á o;refine{go,λx J y=>?_}
   let(D,A,rx):=yld x J y;have S3:=S2.ext A;rw[ĵ o]at m;let(d,hb,m):=g1 _ _ _ _ m;refine{D,V,_,s[i],d,S3,rx,hb,λst1 R1 S4 hR1=>?_}
   have R1e :=funext λj=>funext λa=>propext {λz=>hR1 j a z,λz=>z.elim};subst R1e;refine{D,d,_,S4,?_};have eX:∀{c },(∀g k,Ext F H g k R0->XE (E O) ca c g k)->∀g k,Ext D J g k R0->XE (E O) ca c g k:=λz g k e=>z g k<|((e1.trans0 I).trans (A.trans0 e)).mono λϊ z=>z.elim
   rcases m with ⟨bt,L,m⟩|⟨bt,L,m⟩|⟨c,L,hX⟩;rw[L];intro F4 H4 C;exact LA {F4,d,l,U,(I.trans<|(A.trans0 C).mono λϊ z=>z).mono λa z=>.inl z,(X.ext A).ext C,S4.ext C,o,m,by lia};rw[L];intro F4 H4 C;have S5:=S4.ext C;have e24:=I.trans<|(A.trans0 C).mono λϊ z=>z
   refine Kz {F4,d,_,S5,?_};rcases m with ⟨ve,he,m⟩|⟨c,he,hX⟩;rw[he];intro F5 H5 y B W ry;have ry' :=ry;have P:=(X.ext A).ext C;have ro5:=P.ext W;refine{F5,d,l++[ve],_,(e24.trans W).mono ?_,ro5.snoc ry'<|λj a z1 z2=>P.apart W z2 j z1,S5.ext W,o,m,by simp;lia}
   intro a z;rcases Xd z with z|z;exact .inl<|.inl z
   exact .inr z;rw[he];exact λg k e=>eX hX g k<|C.trans0 e
   rw[L];exact eX hX;have hi':i=s.length:=by lia
   subst hi';refine .inl {i2 rfl,λp hp=>?_};rw[List.drop_length]at m;let(rl,A):=X.list I.fh hp;refine g0 _ _ m g _ _ _ (((e1.trans0 I).trans A).mono ?_) rl;rintro a (z|⟨j,z⟩)
   exact .inr z;exact .inl {(j),z}
structure BlkOk(X:Cx)(scope:Scope)(N':ki)(n:Nat)(caps:kq):Prop where
 kind:scope.kind=.function
 names:∀y∈scope.names,y.2=.local->scope.names.lookup y.1=↑.local
 len:N'.length=n+caps.length
 cap:∀(k j:Nat),caps[k]?=↑j->∃y,X.N[j]?=↑y/\N'[n+k]?=↑y/\scope.names.lookup y=↑.free/\(y,NameKind.cell)∉scope.names
 free:∀y∈scope.names,y.2=.free->scope.names.lookup y.1=↑.free/\(X.env.scope.names.lookup y.1=↑.cell\/X.env.scope.names.lookup y.1=↑.free)
theorem UM{env:Env}(y:Str):∀(names:List<|Str×NameKind),(names.map λ(n,k)=>if (k == NameKind.free && env.scope.kind == .function && env.kindOf n == ↑.cell) then (n,NameKind.cell) else (n,k)).lookup y =
  (names.lookup y).map λk=>if (k == NameKind.free && env.scope.kind == .function && env.kindOf y == ↑.cell) then .cell else k
 |[]=>rfl|(n,k)::r=>by
  rw[Ù];cases b:y == n with
  |true=>
   have e:y=n:=eq_of_beq b;subst e;by_cases a:(k == NameKind.free && env.scope.kind == .function && env.kindOf y == ↑.cell)=true;erw[a,Ä,ç,î,ă];erw[a,ç,î,ă];simp
  |false=>
   by_cases a:(k == .free && env.scope.kind == .function && env.kindOf n == ↑.cell)=true;erw[a,Ä,ç,b];exact UM y r;erw[a,ç,b];erw[ę,Ã,ç,b];exact UM y r
theorem SE(scope)(env)(y):(relabel scope env).names.lookup y=(scope.names.lookup y).map λk=>if (k == NameKind.free && env.scope.kind == .function && env.kindOf y == ↑.cell) then .cell else k:=UM y scope.names
def UN:∀{names:List<|Str×NameKind},names.lookup y=↑k->(y,k)∈names:=λh=>ċ h
set_option tactic.hygienic true in
def kZ(B:BlkOk X scope N' n caps)   (I:Inv X pz O H s) :
  ∃cl,BlkC X scope N' (Hq n caps) cl:=by
 let(cl,q,r,t):=zds scope X.env λy a e=>I.ok.has y.1 (B.free y a e).2
 have F6:∀(O ) (i:Nat) (y ) (v ),N'[i]?=↑y->(Hq n caps O)[i]?=↑↑v->∃j:Nat,X.N[j]?=↑y/\O[j]?=↑↑v/\scope.names.lookup y=↑.free/\(y,NameKind.cell)∉scope.names:=by
  intro O i y v c b;unfold Hq at b;by_cases o:i<n;rw[ú (by simpa using o),Š,if_pos o]at b;cases b;rw[Ħ (by simp;lia),È]at b;erw[Ŧ]at b;cases h:caps[i - n]? with
  |none=>rw[h]at b;cases b|some j=>
   rw[h]at b;erw[ă]at b;have f :=Û b;let(C,g1,g2,g,m):=B.cap (i - n) j h;have en:n+(i - n)=i:=by lia
   rw[en,c]at g2;cases g2
   have sv :=by
    unfold V6 at f;split at f;rename_i A u;cases f;exact u;cases f
   exact{(j),g1,sv,g,m}
 refine{cl,q,B.kind,B.names,r,λy a=>?_,λO i y v c b=>?_,λO x=>by simp[Hq,B.len],λO i y v c b=>?_};cases hk:scope.names.lookup y with
 |none=>
  rw[SE,hk]at a;rcases a with a|a<;>cases a
 |some k=>
  by_cases e:k=.free;subst e;exact .inr<|t _ (UN hk) rfl
  rw[SE,hk]at a;erw[ă]at a;have l :=beq_eq_false_iff_ne.mpr e;erw[l,Ĭ,ę,Ã]at a
  rcases a with a|a;cases a;exact .inl<|UN hk
  cases a;exact absurd rfl e
 exact(F6 O i y v c b).choose_spec.2.2.2;let(j,g1,sv,g,m):=F6 O i y v c b;have fr:=B.free _ (UN g) rfl;refine{?_,j,g1,sv,?_,?_}
 rw[SE,g];erw[ă];by_cases d:(NameKind.free == NameKind.free && X.env.scope.kind == .function && X.env.kindOf y == ↑.cell)=true;exact .inl<|by rw[if_pos d]
 exact .inr<|by rw[if_neg d]
 rcases fr.2 with z|z;exact .inr<|.inl z
 exact .inr<|.inr z
 intro z;have p:X.env.scope.names.lookup y=↑.local:=z
 rcases fr.2 with w|w;rw[p]at w;cases w;rw[p]at w;cases w
def r_lcV(B:BlkOk X scope N' n caps)(d:∀pz O H s cl C ex xb,Inv X pz O H s->cq (Dw X scope cl N' C s H ex xb))(f:PJ cq X tg iter<|tI X.K E ca mi)
  (a:Ca X E) (c:Iq X) (e:∀E',AC X scope N' E' λτ=>PG τ tg (Ek X.K b)/\Hu τ ifs (BG X.K E' ca mt)/\PE τ elt (tM X.K E' ca me))
  (g:∀x,foldedSetIterable iter X.env x=pure x):PE X (.ListComp elt [{tg,iter,ifs,0}] scope pos)<|tM X.K E ca<|Az n caps mi b mt me:=by
 intro pz s O H Q I h;let(cl,L):=kZ B I;exact zpr L d f a c (e _) g I<|XX h
def r_lcS(B:BlkOk X scope N' n caps)(g:X.calm=true)(k:PI X tg iter<|tI X.K E ca mi)
  (c:Ca X E) (d:Iq X) (j:∀E',AC X scope N' E' λτ=>PG τ tg (Ek X.K b)/\Hu τ ifs (BG X.K E' ca mt)/\PE τ elt (tM X.K E' ca me))
  (l:∀x,foldedSetIterable iter X.env x=pure x)  {x:Str} (f:X.N.Nodup) (a:X.N[i]?=↑x) (m:X.env.scope.names.lookup x=↑.local)
  (e:swapsWith (.ListComp elt [{tg,iter,ifs,0}] scope pos) (↑(.Name x pos')) pos2.line X.env=pure true):PS X (.Assign [.Name x pos'] (.ListComp elt [{tg,iter,ifs,0}] scope pos) pos2)<|λD O H=>tM X.K E ca (Az n caps mi b mt me) O H λv H1=>D.nx (O.set i ↑v) H1:=by
 intro o s O H D I h;let(cl,L):=kZ B I;exact zps L g k c d (j _) l f a m e I<|XX h
variable {m mk mv:AI}{o k v:Expr}{pos p p2 ap cp:Pos}{elts:kg}{kk:Nat}{tpos:Pos}
end
set_option genInjectivity true in
inductive Out where
 |nx (Y:AM)|rt (t:T)|bk (Y:AM)|ct (Y:AM)|xc (c:Str) (Y:AM)
abbrev AG:=AM->Option Out
structure Stp(F H:Hp)(σ:Rg)(F' H':Hp)(σ':Rg):Prop where
 ff:Aa F F'
 fh:Aa F' H'
 kp:∀b u,¬ σ b->H b=↑u->H' b=↑u
 nw:∀b,σ' b->σ b\/H b=none
 nf:∀b u,F' b=↑u->F b=↑u\/σ b\/H b=none
section
variable {F H F1 H1 F2 H2:Hp}{σ σ1 σ2 B:Rg}{R:Nat->Rg}
theorem Stp.refl(s:Aa F H):Stp F H σ F H σ:={.refl _,s,λϊ ϊ ϊ e=>e,λϊ z=>.inl z,λϊ ϊ e=>.inl e}
theorem Stp.trans(a:Stp F H σ F1 H1 σ1)(b:Stp F1 H1 σ1 F2 H2 σ2):Stp F H σ F2 H2 σ2 where
 ff:=a.ff.trans b.ff
 fh:=b.fh
 kp:=λx u n e=>b.kp x u (λz=>(a.nw x z).elim n λw=>by grind) (a.kp x u n e)
 nw:=λx z=>(b.nw x z).elim (a.nw x) λw=>by
  by_cases c:σ x;exact .inl c;cases e:H x with
  |none=>simp|some u=>rw[a.kp x u c e]at w;cases w
 nf:=λx u e=>(b.nf x u e).elim (a.nf x u) λz=>.inr (z.elim (a.nw x) λw=>by
  by_cases c:σ x;exact .inl c;cases d:H x with
  |none=>simp|some f=>rw[a.kp x f c d]at w;cases w)
theorem Stp.mono(a:Stp F H σ F1 H1 σ1)(h:∀x,σ2 x->σ1 x):Stp F H σ F1 H1 σ2:={a.ff,a.fh,a.kp,λx z=>a.nw x<|h x z,a.nf}
theorem Ext.stp(e:Ext F H F1 H1 B):Stp F H σ F1 H1<|λx=>σ x\/B x:={e.ff,e.fh,λb u ϊ q=>e.hh b u q,λb z=>z.elim .inl λz=>.inr<|e.nb b z,λb u q=>(e.nf b u q).elim .inl λz=>.inr<|.inr z}
theorem Ext.stp0(e:Ext F H F1 H1 B):Stp F H σ F1 H1 σ:=e.stp.mono λϊ z=>.inl z
end
section
def Wr(K:q9)(mu:Bool)(F H:Hp)(t:T)(x:V)(B:Rg):Prop:=match mu with
 |false=>Rp K F H t x B|true=>∃v q l,t=.own [v,.nd true (.pin q) l]/\v.flat=true/\Rp K F H v x R0/\Rp K F H (.nd true (.pin q) l) (.ref q) B
def pS(K:q9)(E:L2.St->XK)(ca:Str->Value)(mu:Bool)(D:Ends)(F H:Hp)(R:Nat->Rg):Option Out->Prop
 |some (.nx f)=>∀b a d e,Stp F H (tot R) b a (tot e)->StR K b a d f e->D.nx d a|some (.bk f)=>∀b a d e,Stp F H (tot R) b a (tot e)->StR K b a d f e->D.bk d a|some (.ct f)=>∀b a d e,Stp F H (tot R) b a (tot e)->StR K b a d f e->D.ct d a|some (.rt t)=>∀b a x B,Stp F H (tot R) b a B->Wr K mu b a t x B->D.rt x a|some (.xc c f)=>∀b a d e,Stp F H (tot R) b a (tot e)->StR K b a d f e->XE (E d) ca c b a|none=>False
def tS(K:q9)(E:L2.St->XK)(ca:Str->Value)(mu:Bool)(m:AG):TS:=λD O H=>∃F Y R,StR K F H O Y R/\pS K E ca mu D F H R (m Y)
end
def AF(m n:AG):AG:=λY=>match m Y with
 |some (.nx a)=>n a|r=>r
def A7:AG:=λY=>↑(.nx Y)
def Mj:AG:=λϊ=>none
def K7:AG:=λY=>↑(.bk Y)
def Ml:AG:=λY=>↑(.ct Y)
def IJ(m:AI):AG:=λY=>match m Y with
 |some (.v ϊ ϋ)=>↑(.nx Y)|some (.x c)=>↑(.xc c Y)|none=>none
def AO(m:AI):AG:=λY=>match m Y with
 |some (.v t ϊ)=>↑(.rt t)|some (.x c)=>↑(.xc c Y)|none=>none
def Rw:AG:=λϊ=>↑(.rt .non)
def AS(m:AI)(b:T->AM->Option AM):AG:=λY=>match m Y with
 |some (.v t false)=>(match b t.share Y with
  |some a=>↑(.nx a)|none=>none)
 |some (.v ϊ true)=>none|some (.x c)=>↑(.xc c Y)|none=>none
def CU(i:Nat)(m:AI):AG:=λY=>match m Y with
 |some (.v t false)=>if i<Y.length then ↑(.nx<|Y.set i ↑t) else none
 |some (.v ϊ true)=>none|some (.x c)=>↑(.xc c Y)|none=>none
def Ff(i:Nat):AG:=λY=>match Y[i]? with
 |some ↑t=>↑(.nx<|Y.set i ↑t.share)|ϊ=>↑(.nx Y)
def A8(c:AI)(a b:AG):AG:=λY=>match c Y with
 |some (.v (.bl true) ϊ)=>a Y|some (.v (.bl false) ϊ)=>b Y|some (.x c)=>↑(.xc c Y)|ϊ=>none
def Ar(b:T->AM->Option AM)(body:AG):qB->AG
 |[],Y=>↑(.nx Y)|t::d,Y=>(match b t Y with
  |some c=>(match body c with
   |some (.nx a)=>Ar b body d a|some (.ct a)=>Ar b body d a|some (.bk a)=>↑(.nx a)|r=>r)
  |none=>none)
def BE(a:BC)(b:T->AM->Option AM)(body:AG):AG:=λY=>match a Y with
 |some (.v d ϊ)=>Ar b body d Y|some (.x c)=>↑(.xc c Y)|none=>none
def DH(c:AI)(body:AG):Nat->AG
 |0,ϊ=>none|n+1,Y=>(match c Y with
  |some (.v (.bl true) ϊ)=>(match body Y with
   |some (.nx a)=>DH c body n a|some (.ct a)=>DH c body n a|some (.bk a)=>↑(.nx a)|r=>r)
  |some (.v (.bl false) ϊ)=>↑(.nx Y)|some (.x c)=>↑(.xc c Y)|ϊ=>none)
open Classical in
def El(c:AI)(body:AG):AG:=λY=>if h:∃n,(DH c body n Y).isSome=true then DH c body h.choose Y else none
def zhh(h:El c body Y=↑o):∃n,DH c body n Y=↑o:=by
 unfold El at h;split at h;grind;cases h
def P0:∀{n} {Y} {o},DH c body n Y=↑o->DH c body (n+1) Y=↑o
 |0,Y,o,h=>by cases h|n+1,Y,o,h=>by
  unfold DH at h ⊢;split at h;split at h;exact P0 h;exact P0 h;exact h;exact h;exact h;exact h;cases h
def Wn(h:DH c body n Y=↑o)(a:n<=m):DH c body m Y=↑o:=by
 induction a with
 |refl=>exact h|step ϊ b=>exact P0 b
def Xy(h:DH c body n Y=↑o):El c body Y=↑o:=by
 unfold El;have a:∃n,(DH c body n Y).isSome=true:={n,by rw[h];rfl}
 let(f,e):=Ş.mp a.choose_spec;have b:=Wn e<|Nat.le_max_left a.choose n;have d:=Wn h<|Nat.le_max_right a.choose n
 grind
section
variable {mu:Bool}{X:Cx}{E:L2.St->XK}{ca:Str->Value}{O:L2.St}{H:Hp}{K:q9}{m mk mc:AI}{ms mi:BC}{b:T->AM->Option AM}{u w:AG}{D:Ends}{e c tg iter:Expr}{st:Stmt}{rest body sa sb:kh}{pos pos':Pos}
theorem PS.weak(h:PS X st t)(w:∀D O H,t' D O H->t D O H):PS X st t':=λa s O H D I q=>h a s O H D I<|w D O H q
theorem B9.weak(h:B9 X rest t)(w:∀D O H,t' D O H->t D O H):B9 X rest t':=λa s O H D I q=>h a s O H D I<|w D O H q
def zn2(h:tS K E ca mu (AF u w) D O H):XI (tS K E ca mu u) (tS K E ca mu w) D O H:=by
 let(F,Y,R,S,q):=h;refine{F,Y,R,S,?_};unfold AF at q;cases g:u Y with
 |none=>erw[g]at q<;>symm|some o=>
  erw[g]at q;cases o with
  |nx f=>
   intro j m n k e l;refine{j,f,k,l,?_};cases i:w f with
   |none=>erw[i]at q<;>symm|some o=>
    erw[i]at q;cases o with
    |nx ϊ=>exact λa b c d s S=>q a b c d (e.trans s) S|bk ϊ=>exact λa b c d s S=>q a b c d (e.trans s) S|ct ϊ=>exact λa b c d s S=>q a b c d (e.trans s) S|rt ϊ=>exact λa b x B s r=>q a b x B (e.trans s) r|xc ϊ ϋ=>exact λa b c d s S=>q a b c d (e.trans s) S
  |rt ϊ=>exact q|bk ϊ=>exact q|ct ϊ=>exact q|xc ϊ ϋ=>exact q
theorem Xs:B9 X []<|tS X.K E ca mu A7:=B9.weak zkp λD O H h=>by
 let(F,Y,R,S,q):=h;exact q F H O R (Stp.refl S.fh) S
theorem Qy(a:PS X st<|tS X.K E ca mu u)(b:B9 X rest<|tS X.K E ca mu w):B9 X (st::rest)<|tS X.K E ca mu<|AF u w:=B9.weak (zhp a b) λD O H h=>zn2 h
theorem Q1(a:PS X st<|tS X.K E ca mu u):B9 X [st]<|tS X.K E ca mu u:=zko a
theorem Xr:PS X st<|tS X.K E ca mu Mj:=λa s O H D I h=>by
 let(_,_,_,_,q):=h;symm
theorem zni:PS X (.Pass pos)<|tS X.K E ca mu A7:=PS.weak zks λD O H h=>by
 let(F,Y,R,S,q):=h;exact q F H O R (Stp.refl S.fh) S
theorem zk9:PS X (.Break pos)<|tS X.K E ca mu K7:=PS.weak zhs λD O H h=>by
 let(F,Y,R,S,q):=h;exact q F H O R (Stp.refl S.fh) S
theorem zeb:PS X (.Continue pos)<|tS X.K E ca mu Ml:=PS.weak zd6 λD O H h=>by
 let(F,Y,R,S,q):=h;exact q F H O R (Stp.refl S.fh) S
def zn3(h:tS K E ca mu (AF (Ff i) w) D O H):tS K E ca mu w D O H:=by
 let(F,Y,R,S,q):=h;unfold AF Ff at q;cases p:Y[i]? with
 |none=>rw[p]at q;exact{(F),Y,R,S,q}|some P=>
  rw[p]at q;cases P with
  |none=>exact{(F),Y,R,S,q}|some t=>
   simp only at q;let(x,ex,r):=S.rep i t p;have N :=(Î.mp p).1;have n:∀a,R i a->F a=none:=λa z=>(r.dom z).1
   have L:StR K (frz F H<|R i) H O (Y.set i ↑t.share) (λj=>if j=i then R0 else R j):=by
    refine{Jh S.fh,by simpa using S.len,λj G e=>?_,λj a z=>?_,λj k a C v A=>?_};by_cases c:j=i;subst c;rw[ê N]at e;cases e;exact{x,ex,by simpa using r.share (FV n) λa u z q=>by rw[Ec z];exact q};rw[å<|Í c]at e;let(y,M,r1):=S.rep j G e;refine{y,M,?_};erw[c,Ã]
    exact r1.frame (FV n) λa z=>{rfl,by
     rw[FU<|λQ=>S.dis j i a c z Q]
     exact(r1.dom z).1}
    by_cases c:j=i;erw[c,Ä]at z;exact z.elim;erw[c,Ã]at z;let(G,e):=S.out j a z;exact{G,by rw[å<|Í c];exact e}
    by_cases c:j=i;erw[c,Ä]at v;exact v.elim;by_cases hk:k=i;erw[hk,Ä]at A;exact A.elim;erw[c,Ã]at v;erw[hk,Ã]at A;exact S.dis j k a C v A
   have d:Stp F H (tot R) (frz F H<|R i) H (tot λj=>if j=i then R0 else R j):=by
    refine{FV n,Jh S.fh,λϊ ϊ ϊ e=>e,λb ⟨j,z⟩=>?_,λb u e=>?_};by_cases c:j=i;erw[c,Ä]at z;exact z.elim;erw[c,Ã]at z;exact .inl {(j),z};by_cases I:R i b;exact .inr<|.inl {(i),I}
    rw[FU I]at e;exact .inl e
   refine{_,_,_,L,?_};cases J:w (Y.set i ↑t.share) with
   |none=>erw[J]at q<;>symm|some o=>
    erw[J]at q;cases o with
    |nx ϊ=>exact λf g l m s S=>q f g l m (d.trans s) S|bk ϊ=>exact λf g l m s S=>q f g l m (d.trans s) S|ct ϊ=>exact λf g l m s S=>q f g l m (d.trans s) S|rt ϊ=>exact λf g x B s r=>q f g x B (d.trans s) r|xc ϊ ϋ=>exact λf g l m s S=>q f g l m (d.trans s) S
theorem s_frz(h:B9 X rest<|tS X.K E ca mu w):B9 X rest<|tS X.K E ca mu<|AF (Ff i) w:=B9.weak h λD O H h=>zn3 h
def s_exp(f:PE X e<|tM X.K E ca m)(i:swapsWith e none pos.line X.env=pure false):PS X (.Expr e pos)<|tS X.K E ca mu<|IJ m:=by
 refine PS.weak (Mu f i) λD O H h=>?_;let(F,Y,R,S,q):=h;refine{F,Y,R,S,?_};unfold IJ at q;cases d:m Y with
 |none=>erw[d]at q<;>symm|some r=>
  erw[d]at q;cases r with
  |x c=>exact λa b e=>q a b O R e.stp0 (S.ext e)|v t j=>exact λa b x B e g=>q a b O R e.stp0<|S.ext e
def Xq(k:PE X e<|tM X.K E ca m):PS X (.Return ↑e pos)<|tS X.K E ca false<|AO m:=by
 refine PS.weak (zoa k) λD O H h=>?_;let(F,Y,R,S,q):=h;refine{F,Y,R,S,?_};unfold AO at q;cases f:m Y with
 |none=>erw[f]at q<;>symm|some r=>
  erw[f]at q;cases r with
  |x c=>exact λb d e=>q b d O R e.stp0 (S.ext e)|v t i=>
   intro b d x B e g;cases i with
   |false=>exact q b d x B (e.stp.mono λϊ z=>.inr z) g|true=>let(_,A,j,r):=g;exact q b d x A (e.stp.mono λa z=>.inl<|j a z) r
theorem znh:PS X (.Return none pos)<|tS X.K E ca false Rw:=PS.weak zkr λD O H h=>by
 let(F,Y,R,S,q):=h;exact q F H .non R0 ((Stp.refl S.fh).mono λϊ z=>z.elim) .non
def s_if(G:PT X c<|BG X.K E ca mc)(A:B9 X sa<|tS X.K E ca mu u)(C:B9 X sb<|tS X.K E ca mu w):PS X (.If c sa sb pos)<|tS X.K E ca mu<|A8 mc u w:=by
 refine PS.weak (ps_if G A C) λD O H h=>?_;let(F,Y,R,S,q):=h;refine{F,Y,R,S,?_};unfold A8 at q;cases m:mc Y with
 |none=>erw[m]at q<;>symm|some r=>
  erw[m]at q;cases r with
  |x c=>exact λb a e=>q b a O R e.stp0 (S.ext e)|v t I=>
   cases t with
   |bl k=>
    intro p y i;have z:=S.ext i
    have j:∀{l },(match l Y with
      |some (.nx g)=>∀b a d f,Stp F H (tot R) b a (tot f)->StR X.K b a d g f->D.nx d a|some (.bk g)=>∀b a d f,Stp F H (tot R) b a (tot f)->StR X.K b a d g f->D.bk d a|some (.ct g)=>∀b a d f,Stp F H (tot R) b a (tot f)->StR X.K b a d g f->D.ct d a|some (.rt t)=>∀b a x B,Stp F H (tot R) b a B->Wr X.K mu b a t x B->D.rt x a|some (.xc c g)=>∀b a d f,Stp F H (tot R) b a (tot f)->StR X.K b a d g f->XE (E d) ca c b a|none=>False)->tS X.K E ca mu l D O y:=λ{l} q=>by
     refine{p,Y,R,z,?_};cases n:l Y with
     |none=>erw[n]at q<;>symm|some o=>
      erw[n]at q;cases o with
      |nx ϊ=>exact λb a d f s S=>q b a d f (i.stp0.trans s) S|bk ϊ=>exact λb a d f s S=>q b a d f (i.stp0.trans s) S|ct ϊ=>exact λb a d f s S=>q b a d f (i.stp0.trans s) S|rt ϊ=>exact λb a x B s r=>q b a x B (i.stp0.trans s) r|xc ϊ ϋ=>exact λb a d f s S=>q b a d f (i.stp0.trans s) S
    cases k with
    |true=>exact Kz (j q)|false=>exact LA<|j q
   |_=>symm
def QA(G:∀v O H Q,Ek K b v O H Q->g v O H Q)(h:tS K E ca mu (AS m b) D O H):HE (tM K E ca m) g D O H:=by
 let(F,Y,R,S,q):=h;refine{F,Y,R,S,?_};unfold AS at q;cases k:m Y with
 |none=>erw[k]at q<;>symm|some r=>
  erw[k]at q;cases r with
  |x c=>exact λl n e=>q l n O R e.stp0 (S.ext e)|v t y=>
   cases y with
   |true=>symm|false=>
    intro J o x B A g1;let(f,j,_,I):=E1.frz S A g1;cases d:b t.share Y with
    |none=>erw[d]at q<;>symm|some w=>
     erw[d]at q;refine G _ _ _ _ {f,Y,R,t.share,w,S.ext j,(I).any,d,λp s u C=>?_};exact q f o p s (j.stp0.mono λa ⟨i,z⟩=>{i,C i a z}) u
set_option tactic.hygienic true in
def fX(h:Ek K (AD i) v O H Q):Gr i v O H Q:=by
 let(F,Y,R,t,d,S,r,e,q):=h;unfold AD at e;split at e;cases e;rename_i c;refine q _ _ (S.set r (λϊ ϊ ϊ ϊ z=>z.elim) c) λj a z=>?_;by_cases b:j=i;erw[b]at z;exact z.elim;grind;cases e
theorem Xo(a:X.N.Nodup)(d:X.N[i]?=↑x)(g:GX X.env.scope x)(b:PE X e<|tM X.K E ca m)(f:swapsWith e (↑(.Name x pos')) pos.line X.env=pure false)(c:X.fn x=true\/X.env.scope.names.lookup x=↑.local) :
  PS X (.Assign [.Name x pos'] e pos) (tS X.K E ca mu<|AS m<|AD i):=PS.weak (Y3 a d g b f c) λD O H h=>QA (λϊ ϊ ϊ ϊ z=>fX z) h
theorem zng(c:PE X e<|tM X.K E ca m)(d:PG X tg<|Ek X.K b)(f:swapsWithSole [tg] e pos.line X.env=pure false)(g:swappedStores [tg] e X.env=pure none)(a:(assignEach [tg] X.env).map (·.2)=[assign tg X.env]) :
  PS X (.Assign [tg] e pos) (tS X.K E ca mu<|AS m b):=PS.weak (Kc c d f g a) λD O H h=>QA (λϊ ϊ ϊ ϊ z=>z) h
def XJ(h:tS K E ca mu (CU i m) D O H):HE (tM K E ca m) (Gr i) D O H:=by
 let(F,Y,R,S,q):=h;refine{F,Y,R,S,?_};unfold CU at q;cases g:m Y with
 |none=>erw[g]at q<;>symm|some r=>
  erw[g]at q;cases r with
  |x c=>exact λk n e=>q k n O R e.stp0 (S.ext e)|v t s=>
   cases s with
   |true=>symm|false=>
    intro l o x B b g1;have d :=g1;have p:=S.ext b
    by_cases f:i<Y.length;erw[f]at q;refine q l o _ _ (b.stp.mono ?_)<|p.set d (λj a ϊ w y=>S.apart b y j w) f
    rintro a ⟨j,z⟩;by_cases u:j=i;grind;erw[u]at z;exact .inl {(j),z};erw[f]at q<;>symm
theorem znj(a:X.N.Nodup)(d:X.N[i]?=↑x)(g:GX X.env.scope x)(b:PE X e<|tM X.K E ca m)(f:swapsWith e (↑(.Name x pos')) pos.line X.env=pure false)(c:X.fn x=true\/X.env.scope.names.lookup x=↑.local) :
  PS X (.Assign [.Name x pos'] e pos) (tS X.K E ca mu<|CU i m):=PS.weak (Y3 a d g b f c) λD O H h=>XJ h
def s_for(hp:PassesOwn (model X.prog X.w) X.A X.env X.xe)(hc:X.calm=true)(hi:PI X tg iter<|tI X.K E ca mi)(N:PG X tg<|Ek X.K b)(hb:B9 X body<|tS X.K E ca mu u)(hs:∀x,foldedSetIterable iter X.env x=pure x) :
  PS X (.For tg iter body [] pos) (tS X.K E ca mu<|BE mi b u):=by
 refine PS.weak (zoc hp hc hi N hb hs) λD O H h=>?_;let(F,Y,R,S,q):=h;refine{F,Y,R,S,?_};unfold BE at q;cases hm:mi Y with
 |none=>erw[hm]at q<;>symm|some r=>
  erw[hm]at q;cases r with
  |x c=>exact λs w e=>q s w O R e.stp0 (S.ext e)|v g bb=>
   intro Q H1 Γ e1 its;simp only at q;have S1:=S.ext e1;cases N:Ar b u g Y with
   |none=>erw[N]at q<;>symm|some out=>
    erw[N]at q;refine{λi mm V w=>mm=g.length - i/\i<=g.length/\∃s M L,Stp F H (tot R) s w (tot L)/\Aa Q s/\StR X.K s w V M L/\Ar b u (g.drop i) M=↑out,{g.length,by simp,é _,Q,Y,R,e1.stp0,.refl _,S1,by simpa using N},?_};rintro i mm V w ⟨rfl,hle,s,M,L,st,sf,W,d⟩;let(i1,i2):=its i s w sf W.fh
    by_cases k:i<g.length;refine .inr {(i1 _<|Á k).1,λO2 U=>i+1<=g.length/\∃T f R2,Stp F H (tot R) T U (tot R2)/\Aa Q T/\StR X.K T U O2 f R2/\Ar b u (g.drop<|i+1) f=↑out,λO2 U n2=>{g.length - (i+1),by lia,rfl,n2},λx K y=>?_};let(t,P,rx):=(i1 _<|Á k).2 x K y;have S3:=W.ext P;rw[ĵ k]at d;unfold Ar at d;cases I:b g[i] M with
    |none=>erw[I]at d;cases d|some J=>
     erw[I]at d;refine{t,M,L,g[i],J,S3,rx,I,λσ3 R3 S4 Z=>?_};have m:Stp F H (tot R) t K<|tot R3:=(st.trans P.stp0).mono λa ⟨j,z⟩=>{j,Z j a z}
     refine{t,J,R3,S4,?_};cases hu:u J with
     |none=>erw[hu]at d;cases d|some o=>
      erw[hu]at d;cases o with
      |nx f=>exact λp A n C l G=>{k,p,f,C,m.trans l,(sf.trans P.ff).trans l.ff,G,d}|ct f=>exact λp A n C l G=>{k,p,f,C,m.trans l,(sf.trans P.ff).trans l.ff,G,d}|bk f=>cases d;exact λp A n C l G=>q p A n C (m.trans l) G|rt v=>cases d;exact λp A x B l r=>q p A x B (m.trans l) r|xc cc f=>cases d;exact λp A n C l G=>q p A n C (m.trans l) G
    have hi':i=g.length:=by lia
    subst hi';refine .inl {i2 rfl,?_};rw[List.drop_length]at d;unfold Ar at d;cases d;exact q s w V L st W
def s_wh(V:PassesOwn (model X.prog X.w) X.A X.env X.xe)(T:PT X c<|BG X.K E ca mc)(Q:B9 X body<|tS X.K E ca mu u):PS X (.While c body [] pos)<|tS X.K E ca mu<|El mc u:=by
 refine PS.weak (zhq V T Q) λD O H h=>?_;let(F,Y,R,S,q):=h;cases J:El mc u Y with
 |none=>erw[J]at q<;>symm|some out=>
  erw[J]at q;let(n,U):=zhh J;refine{λy C G=>∃A s l,Stp F H (tot R) A G (tot l)/\StR X.K A G C s l/\DH mc u y s=↑out,{n,F,Y,R,Stp.refl S.fh,S,U},?_}
  rintro y C G ⟨A,s,l,st,I,a⟩;cases y with
  |zero=>cases a|succ y=>
   refine{A,s,l,I,?_};unfold DH at a;cases L:mc s with
   |none=>erw[L]at a;cases a|some r=>
    erw[L]at a;cases r with
    |x P=>cases a;exact λi w z=>q i w C l (st.trans z.stp0) (I.ext z)|v t bb=>
     cases t with
     |bl k=>
      intro i w z;have K:=I.ext z;have d :=st.trans z.stp0;cases k with
      |false=>cases a;exact LA (q i w C l d K)|true=>
       simp only at a;refine Kz {λN w=>∃i b R2,Stp F H (tot R) i w (tot R2)/\StR X.K i w N b R2/\DH mc u y b=↑out,λZ H3 W=>{y,Ĝ _,W},i,s,l,K,?_};cases M:u s with
       |none=>erw[M]at a;cases a|some o=>
        erw[M]at a;cases o with
        |nx b=>exact λf j e m g p=>{f,b,m,d.trans g,p,a}|ct b=>exact λf j e m g p=>{f,b,m,d.trans g,p,a}|bk b=>cases a;exact λf j e m g p=>q f j e m (d.trans g) p|rt v=>cases a;exact λf j x B g r=>q f j x B (d.trans g) r|xc P b=>cases a;exact λf j e m g p=>q f j e m (d.trans g) p
     |_=>cases a
end
section
variable {K:q9}{F H:Hp}{l:qB}{xs:qA}{Rr:Nat->Rg}{p:Addr}{o:HO}
def Rp.own_inv(h:Rp K F H (.nd true k l) x A)(n:k.isT=false):∃p xs Rr,x=.ref p/\A=(λa=>a=p\/∃j,Rr j a)/\F p=none/\H p=↑(.lst xs)/\RpO K F H l xs Rr/\(∀j,¬ Rr j p)/\Lu k p:=by
 cases h with
 |own hk R f h e c d dp o=>exact{_,_,R,rfl,rfl,f,fL n▸h,{(e),c,d,o},dp,hk}
theorem JR(hk:Lu k p)(r:RpO K F H l xs Rr)(f:F p=none)(h:H p=↑(.lst xs))(dp:∀j,¬ Rr j p)(n:k.isT=false):Rp K F H (.nd true k l) (.ref p) (λa=>a=p\/∃j,Rr j a):=.own hk Rr f (fL n▸h) r.len r.rep r.dis dp r.out
theorem RpO.upd(r:RpO K F H l xs Rr)(dp:∀j,¬ Rr j p):RpO K F (L2.upd H p o) l xs Rr:={r.len,λi t x b c=>(r.rep i t x b c).frame (.refl _) λa z=>{BB<|λe=>dp i<|e▸z,(r.dom z).1},r.dis,r.out}
theorem Rp.upd(r:Rp K F H t x A)(dp:¬ A p):Rp K F (L2.upd H p o) t x A:=r.frame (.refl _) λa z=>{BB<|λe=>dp<|e▸z,(r.dom z).1}
def RpO.set(r:RpO K F H l xs Rr)(hj:j0<l.length)(rt:Rp K F H t y B)(d:∀j a,j≠j0->Rr j a->¬ B a):RpO K F H (l.set j0 t) (xs.set j0 y) (λj=>if j=j0 then B else Rr j):=by
 have m:=r.len;refine{by simp[m],λi n o g h=>?_,λi k a e f c=>?_,λi a z=>?_};by_cases b:i=j0;subst b;rw[ê hj]at g;rw[ê<|by lia]at h;cases g;cases h;simpa using rt;rw[å<|Í b]at g h;simpa[b] using r.rep i n o g h;by_cases b:i=j0;erw[b,Ä]at f;have hk:¬ k=j0:=λz=>e<|b.trans z.symm
 erw[hk,Ã]at c;exact d k a hk c f;erw[b,Ã]at f;by_cases hk:k=j0;erw[hk,Ä]at c;exact d i a b f c;erw[hk,Ã]at c;exact r.dis i k a e f c;by_cases b:i=j0;simp[b];lia;erw[b,Ã]at z;simpa using r.out i a z
variable {O:L2.St}{Y:AM}{R:Nat->Rg}
def StR.upd(S:StR K F H O Y R){l B:Rg}(D:Y[i]?=↑↑t)(E:O[i]?=↑↑x)(q:R i p)(G:Rp K F (L2.upd H p o) t' x l)(m:∀a,l a->R i a\/B a)(s:∀j a,R j a->¬ B a) :
  StR K F (L2.upd H p o) O (Y.set i ↑t') (λj=>if j=i then l else R j)/\Stp F H (λa=>Pu.tot R a\/B a) F (L2.upd H p o) (Pu.tot λj=>if j=i then l else R j):=by
 have C :=(S.dom q).1;have v :=(Î.mp D).1
 have g:Aa F<|L2.upd H p o:=λb u e=>by
  rw[BB (λz=>by rw[z,C]at e;cases e)];exact S.fh b u e
 refine{{g,by simpa using S.len,λj r e=>?_,λj a z=>?_,λj k a h f d=>?_},{.refl _,g,λb u n e=>?_,λb ⟨j,z⟩=>?_,λb u e=>.inl e}};by_cases c:j=i;subst c;rw[ê v]at e;cases e;exact{x,E,by simpa using G};rw[å<|Í c]at e;let(y,A,r1):=S.rep j r e;exact{y,A,by simpa[c] using r1.upd (λz=>S.dis j i p c z q)}
 by_cases c:j=i;subst c;exact{t',ê v};erw[c,Ã]at z;let(r,e):=S.out j a z;exact{r,by rw[å<|Í c];exact e}
 by_cases c:j=i;erw[c,Ä]at f;have hk:¬ k=i:=λz=>h<|c.trans z.symm
 erw[hk,Ã]at d;rcases m a f with w|w;exact S.dis i k a (Í hk) w d;exact s k a d w;erw[c,Ã]at f;by_cases hk:k=i;erw[hk,Ä]at d;rcases m a d with w|w;exact S.dis i j a (Í c) w f;exact s j a f w;erw[hk,Ã]at d;exact S.dis j k a h f d;rw[BB<|λz=>n<|.inl (by rw[z];exact{(i),q})];exact e;by_cases c:j=i;erw[c,Ä]at z;rcases m b z with w|w;exact .inl<|.inl {(i),w}
 exact .inl<|.inr w
 erw[c,Ã]at z;exact .inl<|.inl {(j),z}
end
def Es(Y:AM)(i:Nat):Option<|Kd×qB:=match Y[i]? with
 |some (↑(.nd true k l))=>(match k with
  |.tup=>none|k=>↑(k,l))
 |ϊ=>none
def NC(h:Es Y i=↑(k,l)):Y[i]?=↑(↑(.nd true k l)):=by
 unfold Es at h;grind
def HQ(h:Es Y i=↑(k,l)):k.isT=false:=by
 unfold Es at h;cases k<;>first|rfl|(exfalso;grind)
def Cb(i:Nat)(m:AI):AG:=λY=>match Es Y i with
 |some (kd,l)=>(match m Y with
  |some (.v t false)=>if l.length<Bh then ↑(.nx<|Y.set i<|↑(.nd true kd<|l++[t])) else none
  |some (.v ϊ true)=>none|some (.x c)=>↑(.xc c Y)|none=>none)
 |none=>none
def JK(i:Nat)(m:AI):AG:=λY=>match Es Y i with
 |some (kd,l)=>(match m Y with
  |some (.v (.nd ϊ .lst r) false)=>if l.length+r.length<=Bh then ↑(.nx<|Y.set i<|↑(.nd true kd<|l++BP r)) else none
  |some (.v ϊ ϋ)=>none|some (.x c)=>↑(.xc c Y)|none=>none)
 |none=>none
def IH(i:Nat)(mk m:AI):AG:=λY=>match m Y with
 |some (.v t false)=>(match Es Y i with
  |some (kd,l)=>(match mk Y with
   |some (.v (.int k) ϊ)=>(match CZ l.length k with
    |some j=>↑(.nx<|Y.set i<|↑(.nd true kd<|l.set j t))|none=>none)
   |some (.v ϊ ϋ)=>none|some (.x c)=>↑(.xc c Y)|none=>none)
  |none=>none)
 |some (.v ϊ true)=>none|some (.x c)=>↑(.xc c Y)|none=>none
def NB:kr->Option (qB)
 |some (.nd true .lst l)=>↑l|ϊ=>none
def JJ(i:Nat)(mk mn m:AI):AG:=λY=>match m Y with
 |some (.v t false)=>(match Es Y i with
  |some (kd,l)=>(match mk Y with
   |some (.v (.int k) ϊ)=>(match CZ l.length k with
    |some j=>(match NB l[j]? with
     |some r=>(match mn Y with
      |some (.v (.int n) ϊ)=>(match CZ r.length n with
       |some a=>↑(.nx<|Y.set i<|↑(.nd true kd<|l.set j<|.own<|r.set a t))|none=>none)
      |some (.v ϊ ϋ)=>none|some (.x c)=>↑(.xc c Y)|none=>none)
     |none=>none)
    |none=>none)
   |some (.v ϊ ϋ)=>none|some (.x c)=>↑(.xc c Y)|none=>none)
  |none=>none)
 |some (.v ϊ true)=>none|some (.x c)=>↑(.xc c Y)|none=>none
section
variable {mu:Bool}{X:Cx}{E:L2.St->XK}{ca:Str->Value}{O:L2.St}{H:Hp}{K:q9}{m mk mn:AI}{D:Ends}{e k n:Expr}{pos apos cpos p1 pos2 pos3:Pos}{i:Nat}{x:Str}
def Nn(g:E1 K F H R (.int j) b y B):y=.int j:=by
 cases b with
 |true=>let(_,A,_,r):=g;exact r.int_inv
 |false=>exact(g).int_inv
def QK{l:qB}{b:Nat->Rg}(h:∃j,(λj=>if j=l.length then B else b j) j a):(∃j,b j a)\/B a:=Xd h
def Me{b:Nat->Rg}(h:∃j,(λj=>if j=j0 then B else b j) j a):(∃j,b j a)\/B a:=by
 grind
def s_app(hN:X.N[i]?=↑x)(hv:EI X.env.scope x)(hd:(x == "__debug__")=false)(A:(x == "__classdict__")=false)(he:PE X e<|tM X.K E ca m)(G:starEach [e] X.env=[(false,eval e X.env)])(d:(apos.endLine == cpos.line)=true) :
  PS X (.Expr (.Call (.Attribute (.Name x p1) "append" apos) [e] [] cpos) pos) (tS X.K E ca mu<|Cb i m):=by
 refine PS.weak (Mu (Kf Ŋ PySem.F.slot_list_append PySem.F.type_list_append cJ (G6 hN hv hd A) (Er he Fg G) rfl (by rw[G];rfl) d G rfl) rfl) λD O H h=>?_;let(F,Y,R,S,q):=h;unfold Cb at q;cases f:Es Y i with
 |none=>erw[f]at q<;>symm|some kl=>
  let(kd,l):=kl;erw[f]at q;have W:=NC f;let(y,T,ry):=S.rep i _ W;let(p,xs,Rr,rfl,s,fp,g,J,dp,u):=ry.own_inv<|HQ f;refine{_,T,.inl {rfl,xs,Ab.of g},F,Y,R,S,?_};cases V:m Y with
  |none=>erw[V]at q<;>symm|some r=>
   erw[V]at q;cases r with
   |x c=>exact λF' H' e=>q F' H' O R e.stp0 (S.ext e)|v t bb=>
    cases bb with
    |true=>symm|false=>
     intro Q H1 y B b g1;have o :=g1
     by_cases I:l.length<Bh;erw[I,Ä]at q;have S1:=S.ext b;have K:=J.ext b;have C:=b.hh _ _ g;have Z:¬ B p:=λz=>by rw[b.nb p z]at g;cases g
     have n :=(ry.ext b |>.dom (by rw[s];exact .inl rfl)).1;refine{p,xs,y,rfl,rfl,C,by rw[<- J.len,<- GH];exact I,?_};have L:RpO X.K Q (upd H1 p<|.lst<|xs++[y]) (l++[t]) (xs++[y]) _:=(K.upd dp).snoc (o.upd Z) λj a N P=>J.apart b P j N
     have k:∀j,¬ (if j=l.length then B else Rr j) p:=λj z=>by
      by_cases U:j=l.length;erw[U,Ä]at z;exact Z z;erw[U,Ã]at z;exact dp j z
     have r2:=JR u L n Cn k<|HQ f
     let(S3,M):=S1.upd W T (by rw[s];exact .inl rfl) r2 (λa z=>by
      rw[s];rcases z with z|z;exact .inl<|.inl z
      rcases QK z with w|w;exact .inl<|.inr w
      exact .inr w)<|λj a N P=>S.apart b P j N
     exact q Q _ O _ (b.stp.trans M) S3;erw[I,Ã]at q<;>symm
def s_ext(hN:X.N[i]?=↑x)(hv:EI X.env.scope x)(hd:(x == "__debug__")=false)(J:(x == "__classdict__")=false)(he:PE X e<|tM X.K E ca m)(M:starEach [e] X.env=[(false,eval e X.env)])(f:(apos.endLine == cpos.line)=true) :
  PS X (.Expr (.Call (.Attribute (.Name x p1) "extend" apos) [e] [] cpos) pos) (tS X.K E ca mu<|JK i m):=by
 refine PS.weak (Mu (Kf Ŋ PySem.F.slot_list_extend PySem.F.type_list_extend zfj (G6 hN hv hd J) (Er he Fg M) rfl (by rw[M];rfl) f M rfl) rfl) λD O H h=>?_;let(F,Y,R,S,q):=h;unfold JK at q;cases n:Es Y i with
 |none=>erw[n]at q<;>symm|some kl=>
  let(kd,l):=kl;erw[n]at q;have ht:=NC n;let(y,ey,ry):=S.rep i _ ht;let(p,xs,A,rfl,G,fp,hp,ro,dp,I):=ry.own_inv<|HQ n;refine{_,ey,.inl {rfl,xs,Ab.of hp},F,Y,R,S,?_};cases hm:m Y with
  |none=>erw[hm]at q<;>symm|some r=>
   erw[hm]at q;cases r with
   |x c=>exact λF' H' e=>q F' H' O R e.stp0 (S.ext e)|v t bb=>
    cases t with
    |nd o P r=>
     cases P with
     |lst=>
      cases bb with
      |true=>symm|false=>
       intro F1 H1 y B e1 g1;let(w,g,_,r2):=E1.frz S e1 g1;have u :=r2;rw[T.share]at u;let(p2,ys,rfl,_,nn,s):=ED u
       by_cases N:l.length+r.length<=Bh;erw[N,Ä]at q;have S1:=S.ext g;have Q:=ro.ext g;have L:=g.hh _ _ hp;have C :=(ry.ext g |>.dom (by rw[G];exact .inl rfl)).1
       have K :=nn;have lr :=by have:=s.1;rw[EL,À]at this;exact this
       refine{p,p2,xs,ys,rfl,rfl,L,g.fh _ _ K,by rw[<- ro.len,<- lr,<- GH];exact N,?_}
       have app:∀(l2 ) (d ),Ai X.K w l2 d->∀(l ) (xs ) (k ),RpO X.K w k l xs A->RpO X.K w k (l++l2) (xs++d) A:=by
        intro l2
        induction l2 with
        |nil=>intro d hk l xs k b;rw[hk.inv0,Þ,Þ];exact b|cons t l2 ih=>
         intro d hk l xs k b;let(y,Z,rfl,r1,V):=hk.inv;have h2:=b.snoc (r1.any)<|λϊ ϊ ϊ z=>z
         have e3:(λj=>if j=l.length then R0 else A j)=A:=funext λj=>by
          by_cases hj:j=l.length;erw[hj,Ä];exact funext λa=>propext {λz=>z.elim,λz=>absurd (b.out _ a z)<|ã _};erw[hj,Ã]
         rw[e3]at h2;have h3:=ih Z V (l++[t]) (xs++[y]) k h2
         simpa using h3
       have U:=app _ _ s l xs _<|Q.upd (o:=.lst<|xs++ys) dp;have r3:=JR I U C Cn dp<|HQ n;let(S3,W):=S1.upd ht ey (by rw[G];exact .inl rfl) r3 (λa z=>.inl (by rw[G];exact z))<|λj a z1 z2=>z2
       exact q w _ O _ ((g.stp).trans W) S3;erw[N,Ã]at q<;>symm
     |_=>symm
    |_=>symm
def s_sto(hN:X.N[i]?=↑x)(hv:EI X.env.scope x)(hd:(x == "__debug__")=false)(N:(x == "__classdict__")=false)(he:PE X e<|tM X.K E ca m)(hk:PE X k<|tM X.K E ca mk)(hs:swapsWithSole [.Subscript (.Name x p1) k pos2] e pos.line X.env=pure false)(hw:swappedStores [.Subscript (.Name x p1) k pos2] e X.env=pure none)
  (ha : ∀ v, assign (.Subscript (.Name x p1) k pos2) X.env v = (do
   let ov <- holding [v]<|eval (.Name x p1) X.env;let iv <- holding [v,ov] (eval k X.env)
   standAt pos2
   holding [v,ov,iv] (setItem ov iv v)
   release [v,ov,iv] [])) :
  PS X (.Assign [.Subscript (.Name x p1) k pos2] e pos) (tS X.K E ca mu<|IH i mk m):=by
 refine PS.weak (Kc he (Mw (G6 hN hv hd N) hk Xj ha) hs hw rfl) λD O H h=>?_;let(F,Y,R,S,q):=h;refine{F,Y,R,S,?_};unfold IH at q;cases hm:m Y with
 |none=>erw[hm]at q<;>symm|some r=>
  erw[hm]at q;cases r with
  |x c=>exact λG I e=>q G I O R e.stp0 (S.ext e)|v t bb=>
   cases bb with
   |true=>symm|false=>
    intro F1 H1 y B d g1;have K :=g1;simp only at q;cases n:Es Y i with
    |none=>erw[n]at q<;>symm|some kl=>
     let(kd,l):=kl;erw[n]at q;have o:=S.ext d;have ht:=NC n;let(y2,ey,ry):=o.rep i _ ht;refine{y2,ey,F1,Y,R,o,?_};cases g:mk Y with
     |none=>erw[g]at q<;>symm|some r=>
      erw[g]at q;cases r with
      |x c=>exact λG I e=>q G I O R ((d.stp0).trans e.stp0) (o.ext e)|v tk bk=>
       cases tk with
       |int kk=>
        simp only at q;cases A:CZ l.length kk with
        |none=>erw[A]at q<;>symm|some j=>
         erw[A]at q;intro Z H2 z C s g2;have hz:=Nn g2;subst hz;have S2:=o.ext s;have T:=ry.ext s;let(p,xs,Rr,rfl,u,fp,hp,ro,dp,M):=T.own_inv<|HQ n;have P:=(Ky A).2.1;have L:=K.ext s
         have pB :=λz=>by
          have:R i p:=by rw[u];exact .inl rfl
          exact S.apart d z i this
         refine{p,xs,kk,j,rfl,rfl,hp,by rw[<- ro.len];exact A,?_};have Q:RpO X.K Z (upd H2 p<|.lst<|xs.set j y) (l.set j t) (xs.set j y) _:=(ro.upd dp).set P (L.upd pB) λb a ϊ V W=>S.apart d W i (by rw[u];exact .inr {(b),V})
         have J:∀b,¬ (if b=j then B else Rr b) p:=λb z=>by
          by_cases f:b=j;erw[f,Ä]at z;exact pB z;erw[f,Ã]at z;exact dp b z
         have r3:=JR M Q fp Cn J<|HQ n
         let(S3,U):=S2.upd ht ey (by rw[u];exact .inl rfl) r3 (λa z=>by
          rw[u];rcases z with z|z;exact .inl<|.inl z
          rcases Me z with w|w;exact .inl<|.inr w
          exact .inr w)<|λj a V W=>S.apart d W j V
         exact q Z _ O _ ((d.stp.trans s.stp0).trans U) S3
       |_=>symm
set_option tactic.hygienic true in
def znf(hN:X.N[i]?=↑x)(hv:EI X.env.scope x)(hd:(x == ("__debug__":Str))=false)(hcd:(x == ("__classdict__":Str))=false)(he:PE X e<|tM X.K E ca m)(hk:PE X k<|tM X.K E ca mk)(hn:PE X n<|tM X.K E ca mn)(hpl:KH k)(hs:swapsWithSole [.Subscript (.Subscript (.Name x p1) k pos2) n pos3] e pos.line X.env=pure false)(hw:swappedStores [.Subscript (.Subscript (.Name x p1) k pos2) n pos3] e X.env=pure none)
  (ha : ∀ v, assign (.Subscript (.Subscript (.Name x p1) k pos2) n pos3) X.env v = (do
   let ov <- holding [v]<|eval (.Subscript (.Name x p1) k pos2) X.env;let iv <- holding [v,ov] (eval n X.env)
   standAt pos3
   holding [v,ov,iv] (setItem ov iv v)
   release [v,ov,iv] [])) :
  PS X (.Assign [.Subscript (.Subscript (.Name x p1) k pos2) n pos3] e pos) (tS X.K E ca mu<|JJ i mk mn m):=by
 refine PS.weak (Kc he (Mw (Mx eQ (G6 hN hv hd hcd) hk hpl) hn Xj ha) hs hw rfl) λD O H h=>?_;let(F,Y,R,S,q):=h;refine{F,Y,R,S,?_};unfold JJ at q;cases hm:m Y with
 |none=>erw[hm]at q<;>symm|some r=>
  erw[hm]at q;cases r with
  |x c=>exact λZ H' e=>q Z H' O R e.stp0 (S.ext e)|v t bb=>
   cases bb with
   |true=>symm|false=>
    intro F1 H1 y B L g1;have g1' :=g1;simp only at q;cases ho:Es Y i with
    |none=>erw[ho]at q<;>symm|some kl=>
     let(kd,l):=kl;erw[ho]at q;have S1:=S.ext L;have ht:=NC ho;let(y2,ey,ry):=S1.rep i _ ht;refine{y2,ey,F1,Y,R,S1,?_};cases hkk:mk Y with
     |none=>erw[hkk]at q<;>symm|some r=>
      erw[hkk]at q;cases r with
      |x c=>exact λZ H' e=>q Z H' O R ((L.stp0).trans e.stp0) (S1.ext e)|v tk bk=>
       cases tk with
       |int kk=>
        simp only at q;cases hj:CZ l.length kk with
        |none=>erw[hj]at q<;>symm|some j=>
         erw[hj]at q;cases W:NB l[j]? with
         |none=>erw[W]at q<;>symm|some r=>
          erw[W]at q;intro F2 H2 z C e2 g2;have hz:=Nn g2;subst hz;have S2:=S1.ext e2;have ry2:=ry.ext e2;let(p,xs,Rr,rfl,V,fp,hp,ro,dp,hOw):=ry2.own_inv<|HQ ho;have hjl:=(Ky hj).2.1;have P:j<xs.length:=by have:=ro.len;lia
          have hlj :=by
           unfold NB at W;split at W;rename_i e;cases W;exact e;cases W
          have rk:=ro.rep j _ _ hlj<|Á P
          have F6:AZ xs kk=↑xs[j]:=by
           unfold AZ;rw[<- ro.len,hj];exact Á P
          refine{p,xs,kk,xs[j],rfl,rfl,Ab.of hp,F6,F2,Y,R,S2,?_};cases hnn:mn Y with
          |none=>erw[hnn]at q<;>symm|some r'=>
           erw[hnn]at q;cases r' with
           |x c=>exact λZ H' e=>q Z H' O R ((L.stp0.trans e2.stp0).trans e.stp0) (S2.ext e)|v tn bn=>
            cases tn with
            |int nn=>
             simp only at q;cases N:CZ r.length nn with
             |none=>erw[N]at q<;>symm|some u=>
              erw[N]at q;intro F3 H3 z C T g3;have hz:=Nn g3;subst hz;have S3:=S2.ext T;have g:=ro.ext T;have hp3:=T.hh _ _ hp;have Nr :=(ry2.ext T |>.dom (by rw[V];exact .inl rfl)).1
              have rk3:=rk.ext T;let(J,ys,Rq,ep,A,fp2,hp2,rq,dq,_):=rk3.own_inv rfl;have g3':=(g1'.ext e2).ext T;have U:∀a,Rr j a->R i a:=λa z=>by rw[V];exact .inr {(j),z}
              have f:Rr j J:=by rw[A];exact .inl rfl
              have p2B :=λz=>S.apart L z i<|U _ f
              have pp2:p≠J:=λz=>dp j<|z▸f
              have hj2l:=(Ky N).2.1;rw[ep];refine{J,ys,nn,u,rfl,rfl,hp2,by rw[<- rq.len];exact N,?_};have rq2:RpO X.K F3 (upd H3 J<|.lst<|ys.set u y) (r.set u t) (ys.set u y) _:=(rq.upd dq).set hj2l (g3'.upd p2B) λb a ϊ M K=>S.apart L K i<|U _ (by rw[A];exact .inr {(b),M})
              have dq2:∀b,¬ (if b=u then B else Rq b) J:=λb z=>by
               by_cases d:b=u;erw[d,Ä]at z;exact p2B z;erw[d,Ã]at z;exact dq b z
              have rrow:=JR (k:=.lst) trivial rq2 fp2 Cn dq2 rfl;have Q :=λb hne z=>ro.dis b j J hne z f
              have xsj:xs.set j (.ref J)=xs:=by
               have :=ep;rw[<- this];exact List.set_getElem_self P
              have ro4:RpO X.K F3 (upd H3 J<|.lst<|ys.set u y) (l.set j<|.own<|r.set u t) xs (λb=>if b=j then (λa=>a=J\/∃b,(if b=u then B else Rq b) a) else Rr b):=by
               refine{by simpa using g.len,λI t' x' h1 h2=>?_,λI k' a hik M K=>?_,λI a z=>?_};by_cases s:I=j;subst s;rw[ê hjl]at h1;cases h1;rw[Á P]at h2;cases h2;rw[ep];simpa using rrow;rw[å<|Í s]at h1;have:=(g.rep I t' x' h1 h2).upd (o:=.lst<|ys.set u y) (Q I s)
               simpa[s] using this
               have sub:∀a,(a=J\/∃b,(if b=u then B else Rq b) a)->Rr j a\/B a:=λa z=>by
                rcases z with z|z;exact .inl (by rw[z];exact f);rcases Me z with w|w;exact .inl (by rw[A];exact .inr w);exact .inr w
               by_cases s:I=j;erw[s,Ä]at M;have G:¬ k'=j:=λz=>hik<|s.trans z.symm
               erw[G,Ã]at K;rcases sub a M with w|w;exact g.dis j k' a (Í G) w K;exact S.apart L w i (by rw[V];exact .inr {(k'),K});erw[s,Ã]at M;by_cases G:k'=j;erw[G,Ä]at K;rcases sub a K with w|w;exact g.dis I j a s M w;exact S.apart L w i (by rw[V];exact .inr {(I),M});erw[G,Ã]at K;exact g.dis I k' a hik M K;by_cases s:I=j;simpa[s] using hjl;erw[s,Ã]at z;simpa using g.out I a z
              have dp3:∀b,¬ (if b=j then (λa=>a=J\/∃b,(if b=u then B else Rq b) a) else Rr b) p:=λb z=>by
               by_cases d:b=j;erw[d,Ä]at z;rcases z with z|z;exact pp2 z;rcases Me z with w|w;exact dp j (by rw[A];exact .inr w);exact S.apart L w i (by rw[V];exact .inl rfl);erw[d,Ã]at z;exact dp b z
              have rall:=JR hOw ro4 Nr (by rw[BB pp2];exact hp3) dp3<|HQ ho
              let(S4,st4):=S3.upd ht ey (U _ f) rall (λa z=>by
               rw[V];rcases z with z|⟨b,z⟩;exact .inl<|.inl z
               by_cases d:b=j;erw[d,Ä]at z;rcases z with z|z;exact .inl<|.inr {j,by rw[z];exact f}
               rcases Me z with w|w;exact .inl<|.inr {j,by rw[A];exact .inr w}
               exact .inr w
               erw[d,Ã]at z;exact .inl<|.inr {(b),z})<|λj a M K=>S.apart L K j M
              exact q F3 _ O _ (((L.stp.trans e2.stp0).trans T.stp0).trans st4) S4
            |_=>symm
       |_=>symm
def K5(i j:Nat)(ms:BC):AG:=λY=>match ms Y with
 |some (.v a false)=>(match a with
  |[t,u]=>if i<Y.length/\j<Y.length then ↑(.nx<|(Y.set i ↑t).set j ↑u) else none
  |ϊ=>none)
 |some (.v ϊ true)=>none|some (.x c)=>↑(.xc c Y)|none=>none
def s_par{px py pt}(L:X.calm=true)(J:X.N.Nodup)(M:X.N[i]?=↑x)(hj:X.N[j]?=↑y)(g:i≠j)
  (Q:X.env.scope.names.lookup x=↑.local) (T:X.env.scope.names.lookup y=↑.local) (K:PA X [a,b]<|CD X.K E ca ms)
  (P:swappedStores [.Tuple [.Name x px,.Name y py] kt pt] (.Tuple [a,b] k2 pt2) X.env=pure (↑[x,y]))
  (N:swapsWithSole [.Tuple [.Name x px,.Name y py] kt pt] (.Tuple [a,b] k2 pt2) pos.line X.env=pure false) :
  PS X (.Assign [.Tuple [.Name x px,.Name y py] kt pt] (.Tuple [a,b] k2 pt2) pos) (tS X.K E ca mu<|K5 i j ms):=by
 refine PS.weak (zob L J M hj g Q T K P N) λD O H h=>?_;let(F,Y,R,S,q):=h;refine{F,Y,R,S,?_};unfold K5 at q;cases o:ms Y with
 |none=>erw[o]at q<;>symm|some r=>
  erw[o]at q;cases r with
  |x c=>exact λp w e=>q p w O R e.stp0 (S.ext e)|v V I=>
   cases I with
   |true=>symm|false=>
    intro s A xs n rs;simp only at q
    match V,q,rs with
    |[t,u],q,rs=>
     simp only at q;by_cases f:i<Y.length/\j<Y.length;erw[f,Ä]at q;let(W,Z,rfl,r1,l):=rs.inv;let(x2,xs2,rfl,U,m):=l.inv;cases m.inv0;have B:=S.ext n;have C:=B.set ((r1).any) (λϊ ϊ ϊ ϊ z=>z.elim) f.1
     have G:=C.set ((U).any) (λϊ ϊ ϊ ϊ z=>z.elim)<|by simpa using f.2
     refine{W,x2,rfl,q s A _ _ (n.stp0.mono ?_) G};rintro a ⟨k,z⟩;by_cases hk:k=j;erw[hk,Ä]at z;exact z.elim;erw[hk,Ã]at z;by_cases d:k=i;erw[d,Ä]at z;exact z.elim;erw[d,Ã]at z;exact{(k),z};erw[f,Ã]at q<;>symm
    |[],q,rs=>symm|[ϊ],q,rs=>symm|ϊ::ϋ::ό::ύ,q,rs=>symm
end
section
variable {X:Cx}{E:L2.St->XK}{ca:Str->Value}{O:L2.St}{H F:Hp}{K:q9}{m mk:AI}{ms:BC}{D:Ends}{e:Expr}{es:kg}{pos apos cpos p1 p2:Pos}{i j:Nat}{x y:Str}{Y:AM}{R:Nat->Rg}{mu:Bool}
set_option genInjectivity true in
inductive Mo where
 |ok (v:T) (Y:AM)|exc (c:Str) (Y:AM)
def G4(K:q9)(ca:Str->Value)(g:qB->Option Ru):Sp:=λf H Q E=>∃F p l e A d,Aa F H/\f=.ref p::d/\Rp K F H (.nd true (.pin p) l) (.ref p) A/\Ai K F e d/\match g (.nd true (.pin p) l::e) with
 |some (.ok t)=>∀b a x B,Stp F H A b a B->Wr K true b a t x B->Q x a|some (.exc c)=>∀b a,Stp F H A b a R0->XE E ca c b a|none=>False
variable {mm:AM->Option Mo}
end
abbrev Yq(A:Around):Around:={ A with handled:=none }
structure FnS(P:Program)(w:World)(K:q9)(mg:Str->Option Value)(base:Heap)(k:Nat)(f:Addr)(fd:FuncData)(p:Str)(sp:Sp):Prop where
 run:∀(A:Around) (outer:List Env) (s:Shared) (H:Hp) (args:Args) (a:Addr) (Q:VK),A.handled=↑(.ref a)->(∃C,IsX H a C)->Room k (Yq A)->Env0 P w K mg base A outer s H->BindsTo s fd args [(p,.ref a)]->sp [.ref a] H Q E0 ->
  codeAny (model P w) A (.call (.ref f) args) (CR MB outer P w H s Q E0) s
structure DefS(P:Program)(w:World)(K:q9)(mg:Str->Option Value)(base:Heap)(k:Nat)(x p:Str)(sp:Sp) where
 f:Addr
 fd:FuncData
 ok:FnS P w K mg base k f fd p sp
 m:mg x=↑(.ref f)
 kp:W.keepIn K (.ref f)=true
 b:DF K fd [p] []
section
variable {X:Cx}{pz:List<|Addr×Obj}{O:L2.St}{H:Hp}{s:Shared}{a:Addr}{kvs:List<|Key×V}
end
section
variable {X:Cx}
def tDicO:TE:=λϊ H Q=>∀p,H p=none->Q (.ref p) (upd H p<|.dK [])
theorem zkz:PE X (.Dict [] [] pos) tDicO:=λa s O H Q I h=>by
 refine wpAny_Dict_empty {.ref s.heap.objs.size,_,I.laid (λϊ ϊ q=>Ø _ q) (Æ _)<|zj1 s.heap I.big,rfl,h _<|I.hok.fresh<|Æ _}
variable {E:L2.St->XK}{ca:Str->Value}{m mk mv:AI}{e k:Expr}{pos p1 pos2:Pos}{mu:Bool}
end
section
variable {X:Cx}{E:L2.St->XK}{ca:Str->Value}{m mk:AI}{e k:Expr}{pos p1 pos2:Pos}{mu:Bool}{i:Nat}{x:Str}
end
set_option tactic.hygienic true in
def zp3(b:X.A.units+64<cLine):Aj X (compareOp .NotEq)<|Bq X.K Cd:=by
 intro l s O H x y v u Q I g i h;let(F,m,n,r,fh,r1,f,e,q):=h;unfold Cd at e;split at e
 cases e;rename_i a;unfold Hm EW at a;rw[Å,Å,Å,Å,û]at a;let(j,c):=HJ I fh (r1.any) a.1.1.1 g;let(k,d):=HJ I fh (f.any) a.1.2.1 i;exact SeqAt.compareNe_reads c d a.1.1.2 a.1.2.2 (jZ b a.2) {.bl _,H,I,rfl,q.bl fh}
 cases e
def StR.frz{K }       (S:StR K F H O Y R)(h:Y[i]?=↑↑t):StR K (Pu.frz F H<|R i) H O (Y.set i ↑t.share) (λj=>if j=i then R0 else R j):=by
 let(x,ex,r):=S.rep i t h;have m:i<Y.length:=(Î.mp h).1;have n:∀a,R i a->F a=none:=λa z=>(r.dom z).1
 refine{Jh S.fh,by simpa using S.len,λj g e=>?_,λj a z=>?_,λj k a f c d=>?_};by_cases b:j=i;subst b;rw[ê m]at e;cases e;exact{x,ex,by simpa using r.share (FV n) λa u z q=>by rw[Ec z];exact q};rw[å<|Í b]at e;let(y,l,r1):=S.rep j g e;refine{y,l,?_};erw[b,Ã]
 exact r1.frame (FV n) λa z=>{rfl,by
  rw[FU<|λo=>S.dis j i a b z o]
  exact(r1.dom z).1}
 by_cases b:j=i;erw[b,Ä]at z;exact z.elim;erw[b,Ã]at z;let(g,e):=S.out j a z;exact{g,by rw[å<|Í b];exact e}
 by_cases b:j=i;erw[b,Ä]at c;exact c.elim;by_cases hk:k=i;erw[hk,Ä]at d;exact d.elim;erw[b,Ã]at c;erw[hk,Ã]at d;exact S.dis j k a f c d
open Classical in
def Fc(A:Rg)(F:Hp):Hp:=λa=>if A a then none else F a
section
variable {X:Cx}{E:L2.St->XK}{ca:Str->Value}{O:L2.St}{H:Hp}{K:q9}{u w:AG}{D:Ends}
end
def dQ{fs:ki}{xs}{f}:∀{j} {x:V},fs.findIdx? (· == f)=↑j->xs[j]?=↑x->(fs.zip xs).lookup f=↑x:=by
 induction fs generalizing xs with
 |nil=>intro j x h;simp at h|cons g r i=>
  intro j x h a;rw[Ų]at h;cases xs with
  |nil=>simp at a|cons y l=>
   rw[Œ,ç];by_cases b:g=f;subst b;erw[î,Ä,ţ]at h;subst h;simp at a;rw[î,a];have c:(g == f)=false:=beq_eq_false_iff_ne.mpr b;have d:(f == g)=false:=beq_eq_false_iff_ne.mpr<|Í b;rw[c]at h;erw[ę,Ã,Ý]at h;let(k,e,rfl):=h;rw[d];exact i e<|by simpa using a
def zav{fs:ki}{xs:qA}(h:fs.contains f=false):(fs.zip xs).lookup f=none:=by
 induction fs generalizing xs with
 |nil=>rfl|cons g r a=>
  cases xs with
  |nil=>rfl|cons y b=>rw[ű,Ċ]at h;rw[Œ,ç,h.1];exact a h.2
def Rp.obj_inv{K}(h:Rp K F H (.obj k l) x A):∃p xs,x=.ref p/\A=R0/\Lv F k p xs/\l.length=xs.length/\∀(i:Nat) (t) (x),l[i]?=↑t->xs[i]?=↑x->Rp K F H t x R0:=by
 cases h with
 |obj h e c=>exact{_,_,rfl,rfl,h,e,c}
def BQ(C:Addr)(fs:ki):T->Option (qB)
 |.obj (.ins b a) l=>if b=C/\a=fs then ↑l else none
 |ϊ=>none
def fG(h:BQ C fs t=↑l):t=.obj (.ins C fs) l:=by
 unfold BQ at h;grind
def Ax(C:Addr)(fs:ki)(j:Nat)(m:AI):AI:=λY=>match m Y with
 |some (.v t b)=>(match BQ C fs t with
  |some l=>(match l[j]? with
   |some u=>↑(.v u<|b && !u.sh)|none=>none)
  |none=>none)
 |some (.x c)=>↑(.x c)|none=>none
def Bm(C:Addr)(fs:ki)(g:qB->Option Ru)(m:AI)(ms:BC):AI:=λY=>match m Y with
 |some (.v t ϊ)=>(match BQ C fs t with
  |some ϊ=>(match ms Y with
   |some (.v a b)=>(match g (t.share::a) with
    |some (.ok v)=>BK b v|some (.exc c)=>LQ true c|none=>none)
   |some (.x c)=>↑(.x c)|none=>none)
  |none=>none)
 |some (.x c)=>↑(.x c)|none=>none
def Cj(m n:AI):AI:=λY=>match m Y with
 |some r=>↑r|none=>n Y
section
variable {X:Cx}{E:L2.St->XK}{ca:Str->Value}{m n:AI}{ms:BC}{e o:Expr}{es:kg}{pos p apos:Pos}{C:Addr}{fs:ki}{f:Str}{j:Nat}
theorem SM(c:PE X e<|tM X.K E ca m)(d:PE X e<|tM X.K E ca n):PE X e<|tM X.K E ca<|Cj m n:=λb s O H Q I h=>by
 let(F,Y,R,S,q):=h;unfold Cj at q;cases a:m Y with
 |none=>rw[a]at q;exact d b s O H Q I {(F),Y,R,S,q}|some r=>rw[a]at q;exact c b s O H Q I {F,Y,R,S,by rw[a];exact q}
def Nm{K}(g:E1 K F H R (.obj k l) b x B):Rp K F H (.obj k l) x R0/\B=R0:=by
 cases b with
 |true=>let(c,A,_,r):=g;let(p,xs,rfl,a,_):=r.obj_inv;exact{a▸r,c}
 |false=>have r:Rp K F H (.obj k l) x B:=g;let(p,xs,rfl,a,_):=r.obj_inv;exact{a▸r,a}
def r_fld(c:Cls X.K C)(J:CB X.K C f)(hj:fs.findIdx? (· == f)=↑j)(K:PE X o<|tM X.K E ca m)(G:attributeBase o f X.env (eval o X.env)=eval o X.env):PE X (.Attribute o f pos)<|tM X.K E ca<|Ax C fs j m:=by
 refine PE.weak (Yc K G) λO H Q h=>?_;let(F,Y,R,S,q):=h;refine{F,Y,R,S,?_};unfold Ax at q;cases k:m Y with
 |none=>erw[k]at q<;>symm|some r=>
  erw[k]at q;cases r with
  |x c=>exact q|v t b=>
   intro p s x B i g1;cases g:BQ C fs t with
   |none=>erw[g]at q<;>symm|some l=>
    erw[g]at q;have L:=fG g;subst L;cases d:l[j]? with
    |none=>erw[d]at q<;>symm|some u=>
     erw[d]at q;let(r1,A):=Nm g1;subst A;let(a,xs,rfl,_,(y,D),M,w):=r1.obj_inv;have I:=(Î.mp d).1;have n:xs[j]?=↑xs[j]:=Á<|by lia
     have e:=w j u _ d n;refine{a,_,y,_,xs[j],rfl,i.fh _ _ D,c,J,dQ hj n,?_};refine q p s _ R0 i ?_;cases b with
     |false=>exact e|true=>
      cases N:u.sh with
      |true=>exact e|false=>exact{rfl,R0,λϊ z=>z.elim,e}
structure MetX(P:Program)(w:World)(K:q9)(mg:Str->Option Value)(base:Heap)(C:Addr)(m:Str)(k:Nat)(ps:ki)(sp:Sp) where
 f:Addr
 fd:FuncData
 c:Cls K C
 me:Meth K C m f
 ok:FnOk P w K mg base (Dh P w) k f fd ps sp
 b:DF K fd ps []
def QB(C:Addr)(m:Str)(sp:Sp)(E:L2.St->XK)(e:TE)(t:TA):TE:=λO H Q=>e O H λx b=>∃a d fs,x=.ref a/\b a=↑(.ins C d fs)/\fs.lookup m=none /\
 t O b λf c=>sp (x::f) c Q<|E O
def pmx(D:MetX X.prog X.w X.K X.mg X.base C f k ps sp)(y:Room j X.A)(A:Ca X E)(w:PE X o ta)(v:PA X (e::es) t)(hk:k<=j)
  (c:starEach (e::es) X.env=(false,eval e X.env)::starEach es X.env) (b:(backTo pos<|starEach es X.env).any (·.1)=false)
  (z : eval (.Call (.Attribute o f apos) (e :: es) [] pos) X.env = (do
   let ov <- eval o X.env
   standAt apos.atName
   let (f,first) <- holding [ov] (getMethod ov f pl)
   callWith pos f first (backTo pos<|starEach (e::es) X.env) (backToKw pos<|keywordEach [] X.env))):PE X (.Call (.Attribute o f apos) (e::es) [] pos)<|QB C f sp E ta t:=by
 intro g s O H Q I h;refine W.methodCall_KW (pl:=pl) (A4 (w g s O H _ I h) λu F G=>?_) z;let(x,n,d,B,a,J,fs,ex,p,l,q):=G;subst ex;obtain rfl:u=Value.ref a:=B;refine fT d p D.c D.me l ?_;refine Ő (first:=[.ref a]) (h₀:=X.base) I.ok.mod.kin D.me.kp (A4 (v pos g F O n _ d q) λi K ⟨m,H2,I2,r,q2⟩=>{I2.kIn,?_}) c b;exact Mm (us:=.ref a::i) (vs:=.ref a::m) (dvs:=[]) D.ok (y.mono hk) D.b .nil A I2 (.cons rfl r) (by rw[Þ];exact q2)
def pmx0(D:MetX X.prog X.w X.K X.mg X.base C f k ps sp)(e:Room j X.A)(i:Ca X E)(d:PE X o ta)(hk:k<=j)
  (g : eval (.Call (.Attribute o f apos) [] [] pos) X.env = (do
   let ov <- eval o X.env
   standAt apos.atName
   let (f,first) <- holding [ov] (getMethod ov f pl)
   callWith pos f first (backTo pos<|starEach [] X.env) (backToKw pos<|keywordEach [] X.env))):PE X (.Call (.Attribute o f apos) [] [] pos)<|QB C f sp E ta XO:=by
 intro m s O H Q I h;refine W.methodCall_KW (A4 (d m s O H _ I h) λu v p=>?_) g;let(x,r,b,n,a,t,fs,ex,c,l,q):=p;subst ex;obtain rfl:u=Value.ref a:=n;refine fT b c D.c D.me l ?_;exact W.callWith_K0 b.kIn D.me.kp<|Mm (vs:=[.ref a]) D.ok (e.mono hk) D.b .nil i b (.cons rfl .nil) q
def XW(i:fs.contains f=false)(h:tM X.K E ca (Bm C fs g m ms) O H Q):QB C f (Bs X.K ca g) E (tM X.K E ca m) (CD X.K E ca ms) O H Q:=by
 let(F,Y,R,S,q):=h;refine{F,Y,R,S,?_};unfold Bm at q;cases L:m Y with
 |none=>erw[L]at q<;>symm|some r=>
  erw[L]at q;cases r with
  |x c=>exact q|v t b=>
   intro U H1 x B k g1;cases y:BQ C fs t with
   |none=>erw[y]at q<;>symm|some l=>
    erw[y]at q;have ht:=fG y;subst ht;let(r1,Z):=Nm g1;subst Z;have I:=S.ext k;let(a,xs,rfl,_,(W,hF),el,cc):=r1.obj_inv;refine{a,W,_,rfl,k.fh _ _ hF,zav i,U,Y,R,I,?_};cases M:ms Y with
    |none=>erw[M]at q<;>symm|some r=>
     erw[M]at q;cases r with
     |x c=>exact λD p e=>q D p (k.trans0 e)|v ts u=>
      intro j s vs w rs;have J:=I.ext w;simp only at q;have r2:Rp X.K (Gz u j s R) s (T.obj (.ins C fs) l).share (.ref a) R0:=(r1.ext w).share (Nl J) λϊ ϊ z=>z.elim
      refine{Gz u j s R,_,U9 J,.cons r2 rs,?_};have d:=k.trans0 w;cases K:g ((T.obj (.ins C fs) l).share::ts) with
      |none=>erw[K]at q<;>symm|some r=>
       erw[K]at q;cases r with
       |exc c=>
        erw[LQ]at q;cases A:G7 c with
        |none=>rw[A]at q;exact λD p o=>(q j p<|d.grow o.hh).any A|some n=>rw[A]at q;symm
       |ok v=>
        intro V G z P o N;simp only at q;unfold BK at q;cases u with
        |false=>exact q V G z P (d.trans0 o) N|true=>
         cases i:v.flat with
         |false=>rw[i]at q;cases q|true=>rw[i]at q;exact q j G z R0 (d.grow o.hh)<|N.flat_any i
theorem zny(D:MetX X.prog X.w X.K X.mg X.base C f k ps<|Bs X.K ca g)(i:fs.contains f=false)(l:Room j X.A)(p:Ca X E)(d:PE X o<|tM X.K E ca m)(c:PA X (e::es)<|CD X.K E ca ms)(hk:k<=j)
  (b:starEach (e::es) X.env=(false,eval e X.env)::starEach es X.env) (a:(backTo pos<|starEach es X.env).any (·.1)=false)
  (n : eval (.Call (.Attribute o f apos) (e :: es) [] pos) X.env = (do
   let ov <- eval o X.env
   standAt apos.atName
   let (f,first) <- holding [ov] (getMethod ov f pl)
   callWith pos f first (backTo pos<|starEach (e::es) X.env) (backToKw pos<|keywordEach [] X.env))):PE X (.Call (.Attribute o f apos) (e::es) [] pos)<|tM X.K E ca<|Bm C fs g m ms:=
 PE.weak (pmx D l p d c hk b a n) λO H Q h=>XW i h
structure NewX(P:Program)(w:World)(K:q9)(mg:Str->Option Value)(base:Heap)(x:Str)(C:Addr)(k:Nat)(ps:ki)(sp:Sp) where
 f:Addr
 fd:FuncData
 m:mg x=↑(.ref C)
 ma:Mk K C f
 ok:FnOk P w K mg base (Dh P w) k f fd ps sp
def zn5(C:Addr)(sp:Sp)(dvs:qA)(E:L2.St->XK)(t:TA):TE:=λO H Q=>t O H λd b=>∀x a,b x=none->b a=none->a≠x ->
 sp (.ref x::(d++dvs)) (upd (upd b a<|.own x) x<|.ins C a []) (λv c=>v=.non/\Q (.ref x) c) (E O)
def pnx{x:Str}{t:TA}(D:NewX X.prog X.w X.K X.mg X.base x C k ps sp)(z:DF X.K D.fd ps ds)(hd:Ag dvs ds)(G:Room j X.A)(J:Ca X E)(y:PA X (e::es) t)(hk:k+1<=j)(B:Gl X x)(f:(x == ("__debug__":Str))=false)
  (A:starEach (e::es) X.env=(false,eval e X.env)::starEach es X.env) (g:(backTo pos<|starEach es X.env).any (·.1)=false):PE X (.Call (.Name x p) (e::es) [] pos)<|zn5 C sp dvs E t:=by
 intro l s O H Q I h;refine ı<|J7 I B D.m ?_ f;refine Ő I.ok.mod.kin D.ma.kp (A4 (y pos l s O H _ I h) λc b ⟨N,H1,I1,r,q⟩=>{I1.kIn,?_}) A g
 have i:=q (b.heap.objs.size+1) b.heap.objs.size (I1.hok.fresh<|ġ _) (I1.hok.fresh<|Æ _)<|Ô<|Ĝ _;have d:=Inv.made (C:=C) I1;have m:Ag (V.ref (b.heap.objs.size+1)::(N++dvs))<|Value.ref (b.heap.objs.size+1)::(c++ds):=.cons rfl<|r.append hd
 have F :=by
  have e:=m.length;rw[D.ok.len _ _ _ _ i]at e;exact e.symm
 refine Ņ (zi6 I1.kIn D.ma.makes D.ma.init (beq_iff_eq.mp D.ma.fn) (ģ (D.ok.run _ X.stack _ _ {Value.ref (b.heap.objs.size+1)::c,[]} (Value.ref (b.heap.objs.size+1)::(c++ds)) _ _ (E O) ((G.mono hk).make C c [])
  (d.env0.make C c []) (z _ (Value.ref (b.heap.objs.size+1)::c) d.kIn F) m i) λr M a=>?_))
 cases r with
 |error v=>exact J l O _ _ v M d a|ok fl=>
  cases fl with
  |ret u=>let(v,n,o,L,w,K):=d.after a;subst w;exact{L,{V.ref<|b.heap.objs.size+1,n,o,rfl,K}}
  |next=>exact False.elim a|brk=>exact False.elim a|cont=>exact False.elim a
def K4(K:q9)(ca:Str->Value)(C:Addr)(g:qB->Option Ru):Sp:=λi H Q E=>∃F p h f e,Aa F H/\i=.ref p::e/\F p=none/\H p=↑(.ins C h [])/\Ai K F f e/\match g f with
 |some (.ok t)=>∀d b,Stp F H (λa=>a=p) d b R0->Rp K d b t (.ref p) R0->Q .non b|some (.exc c)=>∀d b,Stp F H (λa=>a=p) d b R0->XE E ca c d b|none=>False
def IS(g:qB->Option Ru)(ds:qB)(ms:BC):AI:=λY=>match ms Y with
 |some (.v a false)=>(match g (a++ds) with
  |some (.ok t)=>↑(.v t false)|some (.exc c)=>↑(.x c)|none=>none)
 |some (.v ϊ true)=>none|some (.x c)=>↑(.x c)|none=>none
def r_new{k j:Nat}{x:Str}(D:NewX X.prog X.w X.K X.mg X.base x C k ps<|K4 X.K ca C g)(U:DF X.K D.fd ps ds)(hd:Ag dvs ds)(K:∀F:Hp,Ai X.K F dts dvs)(Z:Room j X.A)(hx:Ca X E)(i:PA X (e::es)<|CD X.K E ca ms)(hk:k+1<=j)(B:Gl X x)(J:(x == ("__debug__":Str))=false)
  (V:starEach (e::es) X.env=(false,eval e X.env)::starEach es X.env) (L:(backTo pos<|starEach es X.env).any (·.1)=false):PE X (.Call (.Name x p) (e::es) [] pos)<|tM X.K E ca<|IS g dts ms:=by
 refine PE.weak (pnx D U hd Z hx i hk B J V L) λO H Q h=>?_;let(F,Y,R,S,q):=h;refine{F,Y,R,S,?_};unfold IS at q;cases P:ms Y with
 |none=>erw[P]at q<;>symm|some r=>
  erw[P]at q;cases r with
  |x c=>exact q|v T b=>
   cases b with
   |true=>exact λn G xs y rs=>q.elim|false=>
    intro n G xs y rs a m i l W;simp only at q;have M :=rs
    have s:∀d f,Stp n (upd (upd G m<|.own a) a<|.ins C m []) (λb=>b=a) d f R0->Ext F H d f R0:=λd f st=>by
     refine y.trans0 {λb u z=>?_,st.ff,st.fh,λϊ z=>z.elim,λb u z=>?_};have o :=DK z i;have A :=DK z l;exact st.kp b u o (by rw[BB o,BB A];exact z)
     rcases st.nf b u z with w|w|w;exact .inl w;rw[w];exact .inr i;by_cases o:b=a;rw[o];exact .inr i;by_cases A:b=m;rw[A];exact .inr l;rw[BB o,BB A]at w;exact .inr w
    have I:Aa n<|upd (upd G m<|.own a) a<|.ins C m []:=λb u z=>by
     have N:=y.fh b u z;rw[BB<|DK N i,BB<|DK N l];exact N
    refine{n,a,m,T++dts,xs++dvs,I,rfl,IM y.fh i,Cn,Mn M<|K n,?_};cases B:g (T++dts) with
    |none=>erw[B]at q<;>symm|some r=>
     erw[B]at q;cases r with
     |exc c=>exact λd f st=>q d f (s d f st)|ok t=>exact λd f st r=>{rfl,q d f _ R0 (s d f st) r}
end
def G8(Y:AM)(i:Nat)(C:Addr)(fs:ki):Option<|Addr×qB:=match Y[i]? with
 |some (↑(.oob p b a l))=>if b=C/\a=fs then ↑(p,l) else none
 |ϊ=>none
set_option tactic.hygienic true in
def SU(h:G8 Y i C fs=↑(p,l)):Y[i]?=↑(↑(.oob p C fs l)):=by
 unfold G8 at h;split at h;rename_i q;split at h;rename_i a;cases h;rw[q,a.1,a.2];cases h;cases h
def Cy(C:Addr)(fs:ki)(j i:Nat)(m:AI):AG:=λY=>match m Y with
 |some (.v t false)=>(match G8 Y i C fs with
  |some (p,l)=>if l.length=j then ↑(.nx<|Y.set i<|↑(.oob p C fs<|l++[t])) else none
  |none=>none)
 |some (.v ϊ true)=>none|some (.x c)=>↑(.xc c Y)|none=>none
def GA:kr->Option (ki×qB)
 |some (.osd a l)=>↑(a,l)|ϊ=>none
def Yk(h:GA o=↑(ks,l)):o=↑(.osd ks l):=by
 unfold GA at h;grind
open Classical in
def JM(C:Addr)(fs:ki)(j i:Nat)(mk m:AI):AG:=λY=>match m Y with
 |some (.v t false)=>(match G8 Y i C fs with
  |some (p,l)=>(match GA l[j]? with
   |some (a,lv)=>(match mk Y with
    |some (.v (.str k) ϊ)=>if k∉a/\a.length<100000 then ↑(.nx<|Y.set i<|↑(.oob p C fs<|l.set j<|.osd (a++[k])<|lv++[t.share])) else none
    |some (.v ϊ ϋ)=>none|some (.x c)=>↑(.xc c Y)|none=>none)
   |none=>none)
  |none=>none)
 |some (.v ϊ true)=>none|some (.x c)=>↑(.xc c Y)|none=>none
def IU:AI:=λϊ=>↑(.v (.osd [] []) false)
def Y2{y:V}:∀{fs:ki} {xs:qA},fs[xs.length]?=↑f->(fs.take xs.length).contains f=false->Dn f y (fs.zip xs)=fs.zip (xs++[y])
 |[],xs,h,ϊ=>by simp at h|g::r,[],h,ϊ=>by
  simp at h;subst h;simp[Dn]
 |g::r,x::xs,h,a=>by
  rw[ì,List.take_succ_cons,ű,Ċ]at a
  have b:¬ g=f:=λz=>by
   grind
  have c:=Y2 (y:=y) (by simpa using h) a.2;rw[Œ,ō,Œ];show(if g=f then _ else _)=_
  grind
section
variable {K:q9}{F H:Hp}{C:Addr}{fs:ki}{l:qB}
def Rp.oob_inv(h:Rp K F H (.oob p C fs l) x A):∃dx xs Rr,x=.ref p/\A=(λa=>a=p\/∃j,Rr j a)/\F p=none/\H p=↑(.ins C dx<|fs.zip xs)/\RpO K F H l xs Rr/\∀j,¬ Rr j p:=by
 cases h with
 |oob R f h e c d dp o=>exact{_,_,R,rfl,rfl,f,h,{(e),c,d,o},dp}
theorem Yo(r:RpO K F H l xs Rr)(f:F p=none)(h:H p=↑(.ins C dx<|fs.zip xs))(dp:∀j,¬ Rr j p):Rp K F H (.oob p C fs l) (.ref p) (λa=>a=p\/∃j,Rr j a):=.oob Rr f h r.len r.rep r.dis dp r.out
def Rp.osd_inv(h:Rp K F H (.osd ks l) x A):∃p xs Rs,x=.ref p/\A=(λa=>a=p\/∃j,Rs j a)/\F p=none/\H p=↑(.dK<|Cs ks xs)/\RpO K F H l xs Rs/\ks.length=xs.length/\∀j,¬ Rs j p:=by
 cases h with
 |osd R f h e b c d dp o=>exact{_,_,R,rfl,rfl,f,h,{(e),c,d,o},b,dp}
theorem Yi(r:RpO K F H l xs Rr)(b:ks.length=xs.length)(f:F p=none)(h:H p=↑(.dK<|Cs ks xs))(dp:∀j,¬ Rr j p):Rp K F H (.osd ks l) (.ref p) (λa=>a=p\/∃j,Rr j a):=.osd Rr f h r.len b r.rep r.dis dp r.out
theorem Yh(r:RpO K F H l xs Rr)(e:ks.length=xs.length)(f:F p=none)(dp:∀j,¬ Rr j p)(rt:Rp K F H t y B)(d:∀j a,Rr j a->¬ B a)(c:¬ B p):Rp K F (upd H p<|.dK<|Cs (ks++[k])<|xs++[y]) (.osd (ks++[k])<|l++[t]) (.ref p) (λa=>a=p\/∃j,(if j=l.length then B else Rr j) a):=
 Yi ((r.upd dp).snoc (rt.upd c) d) (by simp[e]) f Cn λj z=>by
  by_cases b:j=l.length;erw[b,Ä]at z;exact c z;erw[b,Ã]at z;exact dp j z
end
def eD(h:ks.length=xs.length):(Cs ks xs).length=xs.length:=by
 unfold Cs;rw[List.length_zipWith,h,Nat.min_self]
def zm0(h:kv∈Cs ks xs):∃k∈ks,kv.1=Sum.inr k:=by
 induction ks generalizing xs with
 |nil=>cases xs<;>cases h|cons a r c=>
  cases xs with
  |nil=>cases h|cons b s=>
   unfold Cs at h;rw[List.zipWith_cons_cons]at h;rcases Ì.mp h with e|e;exact{a,Ë ..,by rw[e]};let(k,hk,e):=c (xs:=s) e;exact{k,Ê _ hk,e}
def Y1(h:ks.length=xs.length)(hk:k∉ks):E5 (Cs ks xs) (Sum.inr k) y=Cs (ks++[k]) (xs++[y]):=by
 unfold E5;rw[if_neg];unfold Cs;rw[List.zipWith_append h];rfl;intro c;let(g,a,b):=ą.mp c;let(f,d,e):=zm0 a
 grind
section
variable {X:Cx}{E:L2.St->XK}{ca:Str->Value}{m mk:AI}{e k:Expr}{pos p1 pos2 pos3:Pos}{mu:Bool}{i j:Nat}{x f:Str}{C:Addr}{fs:ki}
theorem YS:PE X (.Dict [] [] pos)<|tM X.K E ca IU:=PE.weak zkz λO H Q h p a=>by
 let(F,Y,R,S,q):=h;exact q F (upd H p<|.dK []) (.ref p) _ (Ext.newO S.fh a) (Rp.osd0 (xs:=[]) (IM S.fh a) Cn rfl rfl λi t x h=>by simp at h)
def znl(c:Cls X.K C)(hn:CB X.K C f)(hj:fs[j]?=↑f)(I:(fs.take j).contains f=false)(hjl:j<900)(hN:X.N[i]?=↑x)(hv:EI X.env.scope x)(hd:(x == "__debug__")=false)(A:(x == "__classdict__")=false)(he:PE X e<|tM X.K E ca m)
  (hs:swapsWith e (↑(.Attribute (.Name x p1) f pos2)) pos.line X.env=pure false):PS X (.Assign [.Attribute (.Name x p1) f pos2] e pos)<|tS X.K E ca mu<|Cy C fs j i m:=by
 refine PS.weak (zod (G6 hN hv hd A) he hs) λD O H h=>?_;let(F,Y,R,S,q):=h;refine{F,Y,R,S,?_};unfold Cy at q;cases Z:m Y with
 |none=>erw[Z]at q<;>symm|some r=>
  erw[Z]at q;cases r with
  |x c=>exact λF' H' e=>q F' H' O R e.stp0 (S.ext e)|v t bb=>
   cases bb with
   |true=>exact λd k y B b g1=>q.elim|false=>
    intro d k y B b g1;have s:Rp X.K d k t y B:=g1;simp only at q;cases J:G8 Y i C fs with
    |none=>erw[J]at q<;>symm|some pl=>
     let(p,l):=pl;erw[J]at q;by_cases G:l.length=j;rw[if_pos G]at q;have S1:=S.ext b;have ht:=SU J;let(y2,W,ry):=S.rep i _ ht;let(V,xs,Rr,rfl,u,fp,K,M,dp):=ry.oob_inv;have g:xs.length=j:=by rw[<- M.len];exact G
     have L:=b.hh _ _ K;have pB:¬ B p:=λz=>by rw[b.nb p z]at K;cases K
     have o:d p=none:=(ry.ext b |>.dom (by rw[u];exact .inl rfl)).1;refine{_,W,p,C,V,fs.zip xs,rfl,L,c,hn,?_,?_};rw[List.length_zip];lia;rw[Y2 (by rw[g];exact hj) (by rw[g];exact I)];have N:=M.ext b;have P:RpO X.K d (upd k p<|.ins C V<|fs.zip<|xs++[y]) (l++[t]) (xs++[y]) _:=(N.upd dp).snoc (s.upd pB) λj a T U=>M.apart b U j T
     have n:∀j,¬ (if j=l.length then B else Rr j) p:=λj z=>by
      by_cases hj:j=l.length;erw[hj,Ä]at z;exact pB z;erw[hj,Ã]at z;exact dp j z
     have r2:=Yo (C:=C) (fs:=fs) P o Cn n
     let(S3,Q):=S1.upd ht W (by rw[u];exact .inl rfl) r2 (B:=B) (λa z=>by
      rw[u];rcases z with z|z;exact .inl<|.inl z
      rcases QK z with w|w;exact .inl<|.inr w
      exact .inr w)<|λj a T U=>S.apart b U j T
     exact q d _ O _ (b.stp.trans Q) S3;rw[if_neg G]at q;symm
def rSetS:WK:=λo i v H Q=>∃p a k,o=.ref p/\i=.str k/\H p=↑(.dK a)/\a.length<sizeLine/\Q (upd H p<|.dK<|E5 a (Sum.inr k) v)
def Xk(d:X.A.units+1<cLine):WX X rSetS:=by
 intro n s O H o i v m l u Q I g f j h;let(p,e,k,rfl,rfl,c,b,q):=h;cases g;exact zgf d I (PN.k (k:=Sum.inr k) c b) (f) j λr a=>{_,a,q}
def Hj{K}(g:E1 K F H R (.str z) b y B):y=.str z:=by
 cases b with
 |true=>let(_,A,_,r):=g;exact r.str_inv
 |false=>exact(g).str_inv
def s_dpf(hu:X.A.units+1<cLine)(c:Cls X.K C)(hn:CB X.K C f)(hj:fs.findIdx? (· == f)=↑j)(hN:X.N[i]?=↑x)(hv:EI X.env.scope x)(hd:(x == ("__debug__":Str))=false)(hcd:(x == "__classdict__")=false)(he:PE X e<|tM X.K E ca m)(hk:PE X k<|tM X.K E ca mk)
  (hs:swapsWithSole [.Subscript (.Attribute (.Name x p1) f pos3) k pos2] e pos.line X.env=pure false) (hw:swappedStores [.Subscript (.Attribute (.Name x p1) f pos3) k pos2] e X.env=pure none)
  (ha : ∀ v, assign (.Subscript (.Attribute (.Name x p1) f pos3) k pos2) X.env v = (do
   let ov <- holding [v]<|eval (.Attribute (.Name x p1) f pos3) X.env;let iv <- holding [v,ov] (eval k X.env)
   standAt pos2
   holding [v,ov,iv] (setItem ov iv v)
   release [v,ov,iv] [])) :
  PS X (.Assign [.Subscript (.Attribute (.Name x p1) f pos3) k pos2] e pos) (tS X.K E ca mu<|JM C fs j i mk m):=by
 refine PS.weak (Kc he (Mw (Yc (G6 hN hv hd hcd) rfl) hk (Xk hu) ha) hs hw rfl) λD O H h=>?_;let(F,Y,R,S,q):=h;refine{F,Y,R,S,?_};unfold JM at q;cases hm:m Y with
 |none=>erw[hm]at q<;>symm|some r=>
  erw[hm]at q;cases r with
  |x c=>exact λL s e=>q L s O R e.stp0 (S.ext e)|v t bb=>
   cases bb with
   |true=>exact λM W y B P g1=>q.elim|false=>
    intro F0 W y B e0 g0;simp only at q;let(M,P,_,g1):=E1.frz S e0 g0;have g1':Rp X.K M W t.share y R0:=(g1).any;cases ho:G8 Y i C fs with
    |none=>erw[ho]at q<;>symm|some pl=>
     let(p,l):=pl;erw[ho]at q;cases g:GA l[j]? with
     |none=>erw[g]at q<;>symm|some kl=>
      let(K,lv):=kl;erw[g]at q;have I:=Yk g;have N:=S.ext P;have ht:=SU ho;let(y2,ey,ry):=N.rep i _ ht;let(dx,xs,Rr,rfl,hA,fp,hp,ro,dp):=ry.oob_inv;have A:=(Î.mp I).1;have hjx:j<xs.length:=by rw[<- ro.len];exact A
      have hx :=Á hjx;refine{_,ey,p,C,dx,_,xs[j],rfl,hp,c,hn,dQ hj hx,M,Y,R,N,?_};cases G:mk Y with
      |none=>erw[G]at q<;>symm|some r=>
       erw[G]at q;cases r with
       |x c=>exact λL s e=>q L s O R ((P.stp0).trans e.stp0) (N.ext e)|v tk bk=>
        cases tk with
        |str J=>
         simp only at q;by_cases U:J∉K/\K.length<100000;rw[if_pos U]at q;intro V Z z CC d g2;have hz:=Hj g2;subst hz;have e2':Ext M W V Z R0:=d.mono λϊ z=>z.elim
         have S2:=N.ext d;have ry2:=ry.ext d;have b:=ro.ext d;have fp2 :=(ry2.dom (by rw[hA];exact .inl rfl)).1
         have hp2:=d.hh _ _ hp;have rk:=b.rep j _ _ I hx;let(o,ys,Rs,u,w,fpd,hpd,rs,Q,ds):=rk.osd_inv;have g2' :=g1'.ext d;have n:Rr j o:=by rw[w];exact .inl rfl
         have pne:o≠p:=λz=>dp j<|z▸n
         refine{o,Cs K ys,J,u,rfl,hpd,?_,?_};rw[eD Q,<- Q,Ĕ];exact į U.2<|by decide
         rw[Y1 Q U.1];have r3:=Yh (k:=J) rs Q fpd ds (g2'.any (H':=Z)) (λϊ ϊ ϊ z=>z.elim)<|λz=>z.elim
         have hE:(λa=>a=o\/∃j,(if j=lv.length then R0 else Rs j) a)=Rr j:=by
          rw[w];funext a;apply propext;constructor;rintro(z|⟨j,z⟩);exact .inl z;split at z;exact z.elim;exact .inr {(j),z};rintro(z|⟨j,z⟩);exact .inl z;exact .inr {j,by rw[if_neg<|Ô<|rs.out j a z];exact z}
         rw[hE]at r3;have oth :=λk hk z=>b.dis k j o hk z n
         have ro3:RpO X.K V (upd Z o<|.dK<|Cs (K++[J])<|ys++[y]) (l.set j<|.osd (K++[J])<|lv++[t.share]) xs Rr:=by
          refine{by rw[Ī];exact b.len,λk t' x' T h2=>?_,b.dis,λk a z=>by rw[Ī];exact b.out k a z};by_cases hk:k=j;subst hk;rw[ê A]at T;rw[hx]at h2;cases T;cases h2;rw[u];exact r3;rw[å<|Í hk]at T;exact(b.rep k t' x' T h2).upd (oth k hk)
         have r4:=Yo ro3 fp2 (by rw[BB<|Í pne];exact hp2) dp;let(S3,st3):=S2.upd ht ey (by rw[hA];exact .inr {(j),n}) r4 (λa z=>.inl (by rw[hA];exact z))<|λj a z1 z2=>z2
         exact q V _ O _ ((P.stp.trans d.stp0).trans st3) S3;rw[if_neg U]at q;symm
        |_=>exact λL s z CC d g2=>q.elim
end
section
variable {X:Cx}{E:L2.St->XK}{ca:Str->Value}{ma mb mc:AI}{a b c:Expr}{pos:Pos}{x:Str}{t:T}
theorem r_con(a:Gl X x)(b:X.mg x=↑u)(c:Ac v u)(hd:(x == "__debug__")=false)(r:∀F ,Rp X.K F F t v R0):PE X (.Name x pos)<|tM X.K E ca<|mC t:=
 PE.weak (Yb a b c hd) λO H Q h=>by
  let(F,Y,R,S,q):=h;exact q F H v R0 (Ext.refl S.fh) (r F).any
def Gd(g g':T->T->kr)(ma a mc:AI):AI:=λY=>match ma Y,a Y with
 |some (.v t ϊ),↑(.v u ϋ)=>if t.flat && u.flat then (match g t u with
  |some (.bl true)=>(match mc Y with
   |some (.v w ϊ)=>if w.flat then (match g' u w with
    |some (.bl k)=>↑(.v (.bl k) false)|ϊ=>none) else none
   |ϊ=>none)
  |some (.bl false)=>↑(.v (.bl false) false)|ϊ=>none) else none
 |ϊ,ϋ=>none
def Jf{K}{b}{x}(g:E1 K F H R v b x B)(h:v.flat=true):Rp K F' H' v x R0:=by
 cases b with
 |true=>let(_,A,_,r):=g;exact r.flat_any h
 |false=>exact(g).flat_any h
def X1(h:tM X.K E ca (Gd g g' ma mb mc) O H Q):QE (Bq X.K g) (Bq X.K g') (tM X.K E ca ma) (tM X.K E ca mb) (tM X.K E ca mc) O H Q:=by
 let(F,Y,R,S,q):=h;refine{F,Y,R,S,?_};unfold Gd at q;cases f:ma Y with
 |none=>erw[f]at q<;>symm|some r1=>
  cases r1 with
  |x c=>erw[f]at q<;>symm|v t b1=>
   cases l:mb Y with
   |none=>erw[f,l]at q<;>symm|some V=>
    cases V with
    |x c=>erw[f,l]at q<;>symm|v u b2=>
     erw[f,l]at q;by_cases b:(t.flat && u.flat)=true;rw[if_pos b]at q;rw[Å]at b;intro J H1 x Z C g1;have A:=S.ext C;refine{J,Y,R,A,?_};rw[l];intro m M y B2 D g2;have o:=A.ext D;have e:Ext F H m M R0:=(C.trans D).mono λϊ z=>z.elim
     cases d:g t u with
     |none=>erw[d]at q<;>symm|some k=>
      cases k with
      |bl k=>
       cases k with
       |false=>
        erw[d]at q;refine{m,t,u,_,o.fh,Jf g1 b.1,Jf g2 b.2,d,λn s z I j i=>{false,i.bl_inv,?_}};rw[if_neg ö];exact q n s _ R0 (e.trans0<|j.mono λϊ z=>z.elim)<|.bl false
       |true=>
        erw[d]at q;refine{m,t,u,_,o.fh,Jf g1 b.1,Jf g2 b.2,d,λn s z I j i=>{true,i.bl_inv,?_}};rw[if_pos rfl];have B:=o.ext j;refine{n,Y,R,B,?_};cases p:mc Y with
        |none=>erw[p]at q<;>symm|some i=>
         cases i with
         |x c=>erw[p]at q<;>symm|v w b3=>
          erw[p]at q;by_cases r:w.flat=true;rw[if_pos r]at q;intro K H4 z4 B4 G U;have P:=B.ext G;cases a:g' u w with
          |none=>erw[a]at q<;>symm|some k=>
           cases k with
           |bl k=>
            erw[a]at q;refine{K,u,w,_,P.fh,Jf g2 b.2,Jf U r,a,λL N z5 C5 T W=>?_};rw[W.bl_inv];exact q L N _ R0 (e.trans0<|((j.trans G).trans T).mono λϊ z=>z.elim)<|.bl k
           |_=>erw[a]at q<;>symm
          rw[if_neg r]at q;symm
      |_=>erw[d]at q<;>symm
     rw[if_neg b]at q;symm
theorem r_chn(k:Aj X (compareOp op)<|Bq X.K g)(d:Aj X (compareOp op')<|Bq X.K g')(e:PE X a<|tM X.K E ca ma)(f:PE X b<|tM X.K E ca mb)(i:PE X c<|tM X.K E ca mc)(j:lastMarks [op,op'] [b,c]=false) :
  PE X (.Compare a [op,op'] [b,c] pos) (tM X.K E ca<|Gd g g' ma mb mc):=PE.weak (zhv k d e f i j) λO H Q h=>X1 h
theorem znw(k:Aj X (compareOp op)<|Bq X.K g)(d:Aj X (compareOp op')<|Bq X.K g')(e:PE X a<|tM X.K E ca ma)(f:PE X b<|tM X.K E ca mb)(i:PE X c<|tM X.K E ca mc)(j:lastMarks [op,op'] [b,c]=false) :
  PT X (.Compare a [op,op'] [b,c] pos) (BG X.K E ca<|Gd g g' ma mb mc):=PT.weak (zho k d e f i j) λO H Q h=>X1<|MZ h
end
def PK(x:Str):It:={λi ϊ=>i<x.cps.size,λi H y a=>a=H/\∃c,x.cps[i]?=↑c/\y=.str {#[c]},λi ϊ=>x.cps.size<=i}
def zhd{K}(x)(t)(it):Turn P w K tg (PK x) [it] it (λi h=>h.IsStrIter it (strIterType x) x t i) where
 mem:=by simp
 obj:=λi h st b a=>by
  have e :=by simpa using a
  subst e;let(o,e,c,d):=st;exact{o,e,λv z=>by rw[d]at z;cases z}
 keep:=λi h g st k=>by
  let(o,e,c,d):=st;exact{o,k it (by simp) o e,c,d}
 item:=by
  intro X r C q A i D s O H E I m st B;subst r C q;have j :=B;let(f0,f1,f2,f3,f4,f5):=m it<|by simp
  have BK:∀(g ),g.IsStrIter it (strIterType x) x t (i+1)->Heap.SameBut it s.heap g->∃u,↑(Value.str {#[x.cps[i]]} s.toks)=↑u /\
   wpAny (model X.prog X.w) X.A (letOwnedTupleGo tg (.ref it) u) (λϊ F=>∃y p,Inv X D O p F/\Ac y u/\(PK x).yld i H y p/\F.heap.IsStrIter it (strIterType x) x t (i+1)/\∀b∈[it],p b=none) E { s with heap:=g,toks:=s.toks+1 }:=λg l sb=>by
   have G :=I.turned (t':=s.toks+1) (λb o a e=>(sb.2 b a).trans e) f0 f1 f3 f4 f5;let(o,e,c,d):=id l;refine{_,rfl,LI e c d ?_ {.str {#[x.cps[i]]},H,G,{_,rfl},{rfl,_,ň j,rfl},l,λb a=>(m b a).1}};unfold strIterType;split<;>decide
  cases f:(x.cps.all λx=>decide (x<128)) with
  |true=>
   have e:strIterType x="str_ascii_iterator":=by unfold strIterType;rw[f];rfl
   rw[e]at st BK ⊢;exact wpAny_pyNext_ascii_item st (ň j) BK
  |false=>
   have e:strIterType x="str_iterator":=by unfold strIterType;rw[f];rfl
   rw[e]at st BK ⊢;exact wpAny_pyNext_wide_item st (ň j) BK
 done:=by
  intro X r C q A i D s O H E I m st B;subst r C q;have j :=B;let(f0,f1,f2,f3,f4,f5):=m it<|by simp
  have n :=Array.getElem?_eq_none j;cases f:(x.cps.all λx=>decide (x<128)) with
  |true=>
   have e:strIterType x="str_ascii_iterator":=by unfold strIterType;rw[f];rfl
   rw[e]at st;exact wpAny_pyNext_ascii_end (I.ok.hd A) st n λg eb=>{rfl,I.turned (λb o a e=>eb b o a e) f0 f1 f3 f4 f5}
  |false=>
   have e:strIterType x="str_iterator":=by unfold strIterType;rw[f];rfl
   rw[e]at st;exact wpAny_pyNext_wide_end (I.ok.hd A) st n λg eb=>{rfl,I.turned (λb o a e=>eb b o a e) f0 f1 f3 f4 f5}
 self:=λϊ i s Q E st h=>by
  cases f:(x.cps.all λx=>decide (x<128)) with
  |true=>
   have e:strIterType x="str_ascii_iterator":=by unfold strIterType;rw[f];rfl
   rw[e]at st;exact wpAny_pyIter_striter_ascii st h
  |false=>
   have e:strIterType x="str_iterator":=by unfold strIterType;rw[f];rfl
   rw[e]at st;exact wpAny_pyIter_striter_wide st h
def iStrT(b:TE):TI:=λO H P=>b O H λx a=>∃y,x=.str y/\P (PK y) a
section
variable {X:Cx}{tg l e:Expr}{tl:TE}{E:L2.St->XK}{ca:Str->Value}{m:AI}
def zoi(g:PE X l tl):PI X tg l<|iStrT tl:=by
 intro i s O H R I h;refine A4 (g i s O H _ I h) λv c k=>?_;let(x,d,a,r1,j):=k;let(y,rfl,q):=j;let(t,rfl):=(r1);refine wpAny_pyIter_strU ?_;refine{c.heap.objs.size,[c.heap.objs.size],_,_,d,rfl,a.kept λb o e=>Ø _ e,zhd y t _,{_,æ _ rfl,rfl,rfl},λb f=>?_,q}
 have e :=by simpa using f
 subst e;exact a.fpOk (Æ _)<|a.hok.fresh<|Æ _
def HF(x:Str):qB:=x.cps.toList.map λc=>.str {#[c]}
def zm2{K}:GZ K (PK x) F<|HF x:=by
 intro i d k m j;refine{λt b=>?_,λe=>?_};unfold HF at b;rw[È]at b;let(c,a,rfl):=Ý.mp b;have h:i<x.cps.size:=by simpa using (Î.mp a).1
 refine{h,λy f z=>?_};let(rfl,l,g,rfl):=z;rw[Array.getElem?_toList,g]at a;cases a;exact{d,Ext.refl j,.str _};show x.cps.size<=i;rw[e];simp[HF]
def Aq(m:AI):BC:=λY=>match m Y with
 |some (.v (.str x) ϊ)=>↑(.v (HF x) false)|ϊ=>Jd m Y
def zo1(a:PE X e<|tM X.K E ca m):PI X tg e<|tI X.K E ca<|Aq m:=by
 refine PI.weak (PI.or (YQ a)<|zoi a) λO H P h=>?_;let(F,Y,R,S,q):=h;by_cases i:∃x b,m Y=↑(.v (.str x) b);let(x,b,c):=i;have e:Aq m Y=↑(.v (HF x) false):=by unfold Aq;rw[c]
 rw[e]at q;refine .inr {F,Y,R,S,?_};rw[c];intro d f y B g g1;exact{x,Hj g1,q d f _ (g.mono λϊ z=>z.elim) zm2}
 have e:Aq m Y=Jd m Y:=by
  unfold Aq;grind
 rw[e]at q;exact .inl {(F),Y,R,S,q}
end
open Classical in
def met(val:Nat->Key):Nat->List Key
 |0=>[]|i+1=>if val i∈met val i then met val i else met val i++[val i]
open Classical in
def cX(val:Nat->Key):∀i,(met val i).length<=i
 |0=>Æ 0|i+1=>by
  have:=cX val i;unfold met;split;lia;rw[ë,Ũ];lia
section
variable {prog:Program}{w:World}{A:Around}{E:Value->Shared->Prop}
open Classical in
def dN{knd:PySem.KeyKind prog w Key}{R:Result->Shared->Prop}{I:Addr}{fp J:List Addr}{G:Array GenState->Array GenState->Prop}{n:Nat}{P:Nat->Value->Prop}{St:Nat->Shared->Prop}(W:WalksS prog w A.in1 I fp J G n P St)(S:Addr)(j:S∉fp)(val:Nat->Key)
  (L:∀i v,P i v->knd.is (val i) v=true/\v.scannable=true) (Y:n+1<scanBound):∀(k i:Nat) (s:Shared),n - i=k->i<=n->St i s->Heap.SetOf knd s.heap S (λk'=>decide (k'∈met val i)) (met val i).length ->
   (∀s':Shared,Moved (S::J) G s s'->Heap.SetOf knd s'.heap S (λk'=>decide (k'∈met val n)) (met val n).length->R (Except.ok<|Flow.ret Value.none) s') ->
   codeAny (model prog w) A (Code.builtin "set.update.loop" { pos:=[Value.ref S,Value.ref I] }) R s
 |0,i,s,hk,X,st,a,h=>by
  have e:i=n:=by lia
  subst e;refine codeAny_builtin F.entry_set_update_loop ?_;rw[Around.under_plainId š];unfold Builtin.«set.update.loop»;refine Â<|W.done s _ _ st λs' mv=>?_
  refine Ñ ?_;refine h s' (mv.mono λb d=>Ê _ d) ?_;let(o,m,l,t,p,q):=a;exact{o,m,l,t,mv.heap S o (λz=>j<|W.sub S z) p,q}
 |k+1,i,s,hk,X,st,a,h=>by
  have u:i<n:=by lia
  refine codeAny_builtin F.entry_set_update_loop ?_;rw[Around.under_plainId š];unfold Builtin.«set.update.loop»;refine Â<|W.item i s _ _ u st λv s' Z E mv=>?_
  let(r,x):=L i v Z
  have f:Heap.SetOf knd s'.heap S (λk'=>decide (k'∈met val i)) (met val i).length:=by
   let(o,m,l,t,p,q):=a;exact{o,m,l,t,mv.heap S o (λz=>j<|W.sub S z) p,q}
  refine Â<|ć ?_;unfold setAdd;refine ć<|Â<|knd.pyHash r ?_;have hl:=cX val i;refine wpAny_setAddHashed_of (s:={ s' with toks:=s'.toks+1 }) r x f (by lia) λK sb g=>?_
  refine Ñ {plainId_quiet š _,?_};have H:=W.frame (i+1) s' K (s'.toks+1) E (ġ _) λb d o e=>(sb.2 b<|λz=>j<|z▸d).trans e
  have B:Moved (S::J) G s { s' with heap:=K,toks:=s'.toks+1 }:=(mv.mono λb d=>Ê _ d).then_heap (ġ _) λb o d e=>(sb.2 b<|λz=>d (by rw[z];exact Ë ..)).trans e;refine dN W S j val L Y k (i+1) _ (by lia) (by lia) H ?_ λD C y=>h D (B.trans W.gtrans C) y
  have j:(λk'=>(decide (k'∈met val i) || decide (k'=val i)))=λk'=>decide (k'∈met val (i+1)):=funext λk'=>by
   conv=>rhs;unfold met
   by_cases c:val i∈met val i;rw[if_pos c];by_cases e:k'=val i;rw[e,Ç c];rfl;rw[Õ e,Bool.or_false];rw[if_neg c,Bool.eq_iff_iff];erw[ď,û,ß,Ï]
  have V:(if decide (val i∈met val i)=true then (met val i).length else (met val i).length+1)=(met val<|i+1).length:=by
   conv=>rhs;unfold met
   by_cases c:val i∈met val i;rw[if_pos c,if_pos<|Ç c];rw[if_neg c,if_neg<|λz=>c<|ä z,ë,Ũ]
  let(o,m,l,t,p,q,M,N,O,Q,T,U):=g;refine{o,m,l,t,p,q,M,N,λk'=>?_,Q,T,U.trans V};rw[<- O k'];have e:=congrFun j k';show decide (k'∈met val (i+1))=true ↔ _;rw[<- e]
end
open Classical in
def zc4{prog:Program}{w:World}{A:Around}{E:Value->Shared->Prop}{s:Shared}{l:Addr}{items:Array Value}{knd:PySem.KeyKind prog w Key}{val:Nat->Key}{Q:Value->Shared->Prop}(hh:A.handled=none)(hl:s.heap.IsList l items)
  (hP:∀(i:Nat) (v:Value),items[i]?=↑v->knd.is (val i) v=true/\v.scannable=true) (I:items.size+1<scanBound)
  (h:∀(h':Heap) (tk:Nat),Heap.SetOf knd h' s.heap.objs.size (λk'=>decide (k'∈met val items.size)) (met val items.size).length->(∀(b:Nat) (o:Obj),b<s.heap.objs.size->s.heap.get? b=↑o->h'.get? b=↑o)->Q (.ref s.heap.objs.size) { s with heap:=h',toks:=tk }) :
  wpAny (model prog w) A (call (Value.type "set") [Value.ref l]) Q E s:=by
 let(c,tl,x):=İ.mro;have n:=İ.made;have C:=İ.sub;refine Ņ<|codeAny_of_tree ?_;refine Ñ {Code.quiet_builtin _ (by decide +kernel),codeAny_builtin F.entry_type_call ?_}
 have hu:=Around.under_plain (A:=A) (weight_type_call_type "set" [Value.ref l] []) rfl;have h1:=İ.notType;have h2:=İ.canCreate;have J:=F.typeCall_set_1<|Value.ref l;show wpAny (model prog w) (A.under<|Code.builtin "type.__call__" { pos:=[Value.type "set",Value.ref l] }) _ _ _ s;rw[hu];unfold Builtin.«type.__call__»;refine Ā (by rw[h1];rfl)<|Ā (by rw[h2];rfl) ?_
 refine Â<|ĳ J<|Â<|ĳ x<|Ā rfl<|Â<|ĳ n<|Â<|Ñ<|Â<|ć<|Ņ<|ģ (code_set_new_1 (E:=λϊ ϊ=>False) (Value.ref l) (Q₁:=λv q=>∃d:Bool,v=.ref s.heap.objs.size/\q={ s with heap:=s.heap.push { cls:=.type "set",data:=.set #[] 0 (SetTable.fresh 0 0 d) } }) λd=>{(d),rfl,rfl}) λr D B=>?_
 cases r with
 |error e=>exact False.elim B|ok fl=>
  cases fl with
  |next=>exact False.elim B|brk=>exact False.elim B|cont=>exact False.elim B|ret v=>
   let(d,rfl,rfl):=(show ∃d:Bool,v=.ref s.heap.objs.size/\D={ s with heap:=s.heap.push { cls:=.type "set",data:=.set #[] 0 (SetTable.fresh 0 0 d) } } from B);have N:(s.heap.push { cls:=.type "set",data:=.set #[] 0 (SetTable.fresh 0 0 d) }).get? s.heap.objs.size=↑{ cls:=.type "set",data:=.set #[] 0 (SetTable.fresh 0 0 d) }:=æ _ rfl;have H:Shared.TypeIs { s with heap:=s.heap.push { cls:=.type "set",data:=.set #[] 0 (SetTable.fresh 0 0 d) } } (.ref s.heap.objs.size) "set":={_,N,rfl}
   have m:=İ.init;refine Â<|Β H C<|Ā rfl<|Â<|ć ?_;unfold callSpecial?;refine Â<|wpAny_specialOf H m.lookup<|ć<|Â<|ĳ (m.bind _)<|Â<|Ņ<|ģ (R:=wants (λv q=>v=.none/\∃tk h',q={ s with heap:=h',toks:=tk }/\Heap.SetOf knd h' s.heap.objs.size (λk'=>decide (k'∈met val items.size)) (met val items.size).length/\∀(b:Nat) (o:Obj),b<s.heap.objs.size->s.heap.get? b=↑o->h'.get? b=↑o) λϊ ϊ=>False) (codeAny_call_builtin m.plain F.entry_set_init<|check_set_init_1 H ?_) λr G f=>?_
   unfold Builtin.«set.__init__» noKeywords;refine Â<|wpAny_ite_true rfl<|Ñ ?_;unfold typeNameOfCut shownTypeOf;refine Â<|Â<|Â<|wpAny_typeOf H<|Ā (by decide +kernel)<|Ñ ?_
   refine ĳ (rfl:typeNameCut 200 (Value.type "set")=pure _) ?_;refine Â<|ĳ (rfl:checkCount _ 0 1 1=pure ()) ?_;refine Â<|Ñ ?_;unfold setUsed setState;refine Â<|Â<|Â<|wpAny_load N<|Ā rfl<|Ñ<|Ñ<|Ā rfl ?_;let(P,y,k,nl,u):=id hl;have g:(s.heap.push { cls:=.type "set",data:=.set #[] 0 (SetTable.fresh 0 0 d) }).get? l=↑P:=Ø _ y;have j:Shared.TypeIs { s with heap:=s.heap.push { cls:=.type "set",data:=.set #[] 0 (SetTable.fresh 0 0 d) } } (.ref l) "list":={_,g,k}
   unfold Builtin.Frozenset.updateFrom Builtin.Frozenset.isAnySet;refine Â<|Â<|Â<|Β j F.sub_list_set ?_;have M:(s.heap.push { cls:=.type "set",data:=.set #[] 0 (SetTable.fresh 0 0 d) }).IsList l items:={(P),g,k,nl,u};refine Β j F.sub_list_frozenset<|Ā rfl<|Â<|wpAny_typeOf j<|Ā (by decide +kernel)<|Â<|Α M ?_
   have lt:l<s.heap.objs.size:=É y;have p:(s.heap.push { cls:=.type "set",data:=.set #[] 0 (SetTable.fresh 0 0 d) }).objs.size=s.heap.objs.size+1:=Ğ _ _;generalize L:s.heap.push { cls:=.type "set",data:=.set #[] 0 (SetTable.fresh 0 0 d) }=hp at *
   have hS:s.heap.objs.size∉[hp.objs.size,l]:=by
    rw[p];intro z;rcases Ì.mp z with e|e;exact absurd e<|Ô<|Ĝ _
    exact absurd (Ï.mp e)<|Nat.ne_of_gt lt
   refine Â<|wpAny_runValue ?_;refine dN (knd:=knd) (A:=A.in1.in1) (Walks.list (A:=A.in1.in1.in1) hh hp.objs.size l (by rw[p];exact Ô<|ī lt) items).toS s.heap.objs.size hS val (λi v e=>hP i v e) I items.size 0 _ (by lia) (é _) {?_,?_} ?_ λq mv O=>?_
   exact{_,æ _ rfl,rfl,rfl};exact{P,Ø _ g,k,nl,u};letI:BEq Key:={λa b=>decide (a=b)};haveI:LawfulBEq Key:={ eq_of_beq:=λh=>ä h,rfl:=Ç rfl };have U:=(setObjOf_fresh (prog:=prog) (w:=w) (knd:=knd) d).setOf (h:=hp.push { cls:=.type "list_iterator",data:=.fields #[.ref l,.int 0 0] }) (a:=s.heap.objs.size) (Ø _ N) (by decide);let(o,W,V,t,g1,g2,X,Y,Z,g6,g7,g8):=U;refine{o,W,V,t,g1,g2,X,Y,λk'=>?_,g6,g7,g8};rw[<- Z k'];simp[met];refine Ñ<|Ñ ?_
   have T:∀(b:Nat) (o:Obj),b<s.heap.objs.size->s.heap.get? b=↑o->q.heap.get? b=↑o:=λb o I e=>by
    refine mv.heap b o (λz=>?_)<|Ø _ (by rw[<- L];exact Ø _ e)
    rcases Ì.mp z with e|e;exact absurd e<|Ô I
    have e:=Ï.mp e;rw[p]at e;exact absurd e<|Ô<|ī I
   have m1:=mv.gens;have m2:=mv.drawn;have S:=mv.os;let(K,g',d',t',os'):=q;refine{rfl,t',K,?_,O,T};simp only at m1 m2 S;rw[m1,m2,S]
   .cases r with
    |error e=>exact False.elim f|ok fl=>
     cases fl with
     |next=>exact False.elim f|brk=>exact False.elim f|cont=>exact False.elim f|ret v=>
      let(rfl,tk,h',rfl,hs,hk):=(show v=.none/\∃tk h',G={ s with heap:=h',toks:=tk }/\Heap.SetOf knd h' s.heap.objs.size (λk'=>decide (k'∈met val items.size)) (met val items.size).length/\∀(b:Nat) (o:Obj),b<s.heap.objs.size->s.heap.get? b=↑o->h'.get? b=↑o from f);refine Ñ<|Ā rfl<|Ñ ?_;exact h h' tk hs hk
def WQ(P:Program)(w:World)(a:Addr)(b:List Key):HO:=.ext λh=>Heap.SetOf (Dq P w) h a (λk=>@decide (k∈b) (Classical.propDecidable _)) b.length
section
variable {X:Cx}
def zgw(y:X.calm=true):C4 X (.type "set") (λxs H Q=>∃(p:Addr) (ys:ki),xs=[.ref p]/\Ab X.K H p (ys.map V.str)/\ys.length<1000/\∀a,H a=none->Q (.ref a) (upd H a<|WQ X.prog X.w a<|met (λi=>Sum.inr<|ys.getD i Str.empty) ys.length)):=by
 intro L s O H xs M Q I r h;let(p,ys,rfl,z,B,q):=h;let(u,rfl,F):=Ft r;cases F;let(g,x,D,_):=I.list z;have c:=x.length;rw[À]at c;have d:g.toArray.size=ys.length:=by rw[ð];exact c.symm
 refine zc4 (knd:=Dq X.prog X.w) (val:=λi=>Sum.inr<|ys.getD i Str.empty) (I.ok.hd y) D.isList (λi v e=>?_) (by rw[d];exact Ü (Nat.succ_lt_succ B)<|by decide) λG tk f kp=>?_;have j :=by simpa using e
 have w:i<ys.length:=by rw[c];exact(Î.mp j).1
 have A:(ys.map V.str)[i]?=↑(.str ys[i]):=by rw[È,Á w];rfl
 let(u,l,E):=x.get A;rw[j]at l;cases l;let(t,rfl):=(E);refine{?_,rfl};show Hf (Sum.inr<|ys.getD i Str.empty) (Value.str ys[i] t)=true;rw[Ó,Á w];show(ys[i] == ys[i])=true;exact î _
 rw[d]at f;refine{.ref s.heap.objs.size,_,I.laid (o:=WQ X.prog X.w s.heap.objs.size<|met (λi=>Sum.inr<|ys.getD i Str.empty) ys.length) (λb o e=>kp b o (É e) e) (Æ _) {?_,?_,?_},rfl,q _<|I.hok.fresh<|Æ _};exact f;let(o,n,m,t,g1,_):=f;exact{(o),g1};intro J K C k;let(o,n,m,t,g1,g2):=C;exact{o,n,m,t,k o g1,g2}
def zgz:C4 X (.builtin "len") (λxs H Q=>∃a ks,xs=[.ref a]/\H a=↑(WQ X.prog X.w a ks)/\Q (.int ks.length) H):=by
 intro p s O H xs v Q I r h;let(a,ks,rfl,i,q):=h;let(u,rfl,k):=Ft r;cases k;let((o,b,l,t,g1,g2,c,m,n,d,f,g),_):=(show _/\_ from I.hok a _ i)
 have j:((b.size:Nat):Int)<2 ^ 63:=by
  have:scanBound<=2 ^ 40:=by decide
  have e:b.size<scanBound:=d;lia
 refine call_len_set g1 g2 c f j {.int (b.size:Int),H,I.tok _,{_,rfl},?_};rw[show b.size=ks.length from g];exact q
end
def EJ:qB->Option (ki)
 |[]=>↑[]|.str x::r=>(match EJ r with
  |some l=>↑(x::l)|none=>none)
 |ϊ::ϋ=>none
set_option tactic.hygienic true in
def M8{K}{F}:∀{l} {ys} {xs},EJ l=↑ys->Ai K F l xs->xs=ys.map V.str
 |[],ys,xs,h,r=>by
  cases h;exact r.inv0
 |t::l,ys,xs,h,r=>by
  let(x,c,rfl,r1,b):=r.inv;unfold EJ at h;split at h;grind;rename_i y r e;cases e;split at h;rename_i d a;cases h;rw[r1.str_inv,M8 a b];rfl;cases h;cases h
def Pw(ys:ki):Nat:=(met (λi=>Sum.inr<|ys.getD i Str.empty) ys.length).length
def KU:T->kr
 |.nd ϊ .lst l=>(match EJ l with
  |some a=>if a.length<1000 then ↑(.int<|Pw a) else none
  |none=>none)
 |.nd ϊ .rl l=>(match EJ l with
  |some a=>if a.length<1000 then ↑(.int<|Pw a) else none
  |none=>none)
 |ϊ=>none
section
variable {X:Cx}{E:L2.St->XK}{ca:Str->Value}{m:AI}{e:Expr}{pos p p2 p3:Pos}
set_option tactic.hygienic true in
def r_unq(w:X.calm=true)(y:Gl X "len")(A:X.mg "len"=none)(d:Gl X "set")(f:X.mg "set"=none)(b:PE X e<|tM X.K E ca m)(r:starEach [e] X.env=[(false,eval e X.env)]) :
  PE X (.Call (.Name "len" p) [.Call (.Name "set" p2) [e] [] p3] [] pos) (tM X.K E ca<|B5 (g1 KU)<|AB m AE):=by
 have c:=Yd (pos:=p3) (p:=p2) (zgw w) d f (rfl) (Er b Fg r) (by decide) (by decide) r rfl;refine PE.weak (My (zgz) y A PySem.boot_len (Er c Fg rfl) (by decide) (by decide) rfl rfl) λO H Q h=>?_;refine(IC<|ID h).mono λx G t=>?_;let(F,I,v,fh,rs,e,q):=IB t;unfold g1 at e;split at e;let(J,C,s,r1,B):=rs.inv;cases s;unfold KU at e;split at e;split at e;rename_i o l k g;split at e;rename_i i;cases e;let(j,D,rfl,_,n,kd):=ED r1;have u :=n;refine{j,k,rfl,Ab.of (by rw[<- M8 g kd];exact fh _ _ u),i,λa b=>{a,_,rfl,Cn,?_}}
 exact q F _ _ R0 ((Ext.newO fh b).mono λϊ z=>z.elim)<|Rp.int _
 cases e;cases e;split at e;rename_i o l k g;split at e;rename_i i;cases e;let(j,D,rfl,_,n,kd):=ED r1;refine{j,k,rfl,by rw[<- M8 g kd];exact fh.seq<|Gv.l n,i,λa b=>{a,_,rfl,Cn,?_}}
 exact q F _ _ R0 ((Ext.newO fh b).mono λϊ z=>z.elim)<|Rp.int _
 cases e;cases e;cases e;cases e
end
def GI:T->T->kr
 |.int i,.int j=>↑(.bl<|decide (i<=j))|.str x,.str y=>↑(.bl<|!(@decide (y.cps.toList<x.cps.toList) (Classical.propDecidable _)))|ϊ,ϋ=>none
section
variable {X:Cx}{E:L2.St->XK}{ca:Str->Value}{m mk:AI}{o k:Expr}{pos apos cpos:Pos}
set_option tactic.hygienic true in
def zlc:Aj X (compareOp .LtE)<|Bq X.K GI:=by
 intro g s O H x y v u Q I c d h;let(F,k,l,r,fh,r1,f,e,q):=h;unfold GI at e;split at e
 cases e;rw[r1.int_inv]at c;rw[f.int_inv]at d;exact Ym g s O H _ _ v u Q I c d {_,_,rfl,rfl,q.bl fh};rename_i a b;cases e;rw[r1.str_inv]at c;rw[f.str_inv]at d;let(t,rfl):=(c);let(j,rfl):=(d);refine PySem.P.le_str {.bl _,H,I,rfl,?_};have i:=q.bl fh
 grind;cases e
end
def C7(ys:ki)(y:Str):Option Nat:=ys.findIdx? λx=>@decide (x=y) (Classical.propDecidable _)
def zft{ys:ki}{y:Str}{j:Nat}(h:C7 ys y=↑j):∃hj:j<ys.length,ys[j]=y/\∀(m:Nat) (hm:m<ys.length),m<j->ys[m]≠y:=by
 unfold C7 at h;let(b,c,d):=ĥ.mp h;refine{b,@of_decide_eq_true _ (Classical.propDecidable _) c,λm hm a e=>?_}
 exact d m a<|@decide_eq_true _ (Classical.propDecidable _) e
def kA{x y:Str}:(x.cps.toList == y.cps.toList)=true ↔ x=y:=by
 constructor;cases x;simp_all;grind
def zo4(K:q9):V->qA->Hp->VK->Prop:=λx b H Q=>∃(l:Addr) (a:ki) (y:Str) (j:Nat),x=.ref l/\b=[.str y]/\Ab K H l (a.map V.str)/\C7 a y=↑j/\a.length<1000000/\Q (.int j) H
section
variable {X:Cx}{E:L2.St->XK}{ca:Str->Value}{m mk:AI}{o k:Expr}{pos apos cpos:Pos}
def zi5:PH X "list.index"<|zo4 X.K:=by
 intro pz s O H x vs v us Q I T S h;let(l,k,y,j,rfl,rfl,J,K,hz,q):=h;cases T;let(u,rfl,D):=S.one;let(d,r,(ob,n,e,c1,c2,c3),R):=I.list J;have M:=r.length;let(W,Z,Y,U):=ob;simp only at c1 c2 c3;subst c1 c2 c3;let(t,rfl):=(D);let(L,w,A):=zft K;rw[À]at M
 have at_:∀(i ) (o ),∃(b:Tok) (a:i<k.length),d.toArray[i]=Value.str k[i] b:=λi o=>by
  have p :=by simpa using o
  have a:i<k.length:=by lia
  have P:(k.map V.str)[i]?=↑(.str k[i]):=by rw[È,Á a];rfl
  let(u,E,D):=r.get P;let(b,rfl):=(D);rw[Á p]at E;refine{b,a,?_}
  simpa using E
 let G:Value->Bool:=λv=>match v with
  |.str x ϊ=>x.cps.toList == y.cps.toList|ϊ=>false
 have c:∀(x ) (b ),G (.str x b)=(x.cps.toList == y.cps.toList):=λϊ ϊ=>rfl;have g:j<d.toArray.size:=by rw[ð];lia
 refine ń F.slot_list_index {_,e,rfl} F.entry_list_index (F.args_list_index_2 _ _) (SeqAt.list_indexAt l d.toArray n none U (.str y t) G j g (by lia) ?_ λm N B=>?_) {e,λy' C=>?_,.int j,H,I.tok _,{_,rfl},q}
 rotate_left 2
 let(i,o,rfl):=Array.mem_iff_getElem.mp C;let(b,a,f):=at_ i o;rw[f,c _ b];exact(SeqRoads2.EqGives.str _ _ _ _).at _ _
 let(b,a,f):=at_ j g;rw[f,c _ b];exact kA.mpr w;let(b,a,f):=at_ m N;rw[f,c _ b,Bool.eq_false_iff];exact λz=>A m a B<|kA.mp z
def Kt:T->Option (qB)
 |.nd false .lst l=>↑l|.nd false .rl l=>↑l|ϊ=>none
def zlr{t:T}{l:qB}(h:Kt t=↑l):∃k,t=.nd false k l/\Jb t=true:=by
 unfold Kt at h;split at h;cases h;exact{_,rfl,rfl};cases h;exact{_,rfl,rfl};cases h
def IT(m mk:AI):AI:=λY=>match m Y with
  |some (.v t false)=>(match Kt t with
   |some l=>(match EJ l with
    |some a=>(match mk Y with
      |some (.v (.str y) ϊ)=>(match C7 a y with
        |some j=>if a.length<1000000 then ↑(.v (.int j) false) else none
        |none=>none)
      |ϊ=>none)
    |none=>none)
   |none=>none)
  |ϊ=>none
def zkf(V:PE X o<|tM X.K E ca m)(hk:PE X k<|tM X.K E ca mk)(d:attributeBase o "index" X.env (eval o X.env)=eval o X.env)(G:starEach [k] X.env=[(false,eval k X.env)])(e:(apos.endLine == cpos.line)=true) :
    PE X (.Call (.Attribute o "index" apos) [k] [] cpos) (tM X.K E ca<|IT m mk):=by
  refine PE.weak (Kf Ŋ PySem.F.slot_list_index PySem.F.type_list_index zi5 V (Er hk Fg G) d (by rw[G];rfl) e G rfl) λO H Q h=>?_;let(F,Y,R,S,q):=h;refine{F,Y,R,S,?_};unfold IT at q;cases n:m Y with
  |none=>erw[n]at q<;>symm|some r=>
    cases r with
    |x c=>erw[n]at q<;>symm|v t b=>
      cases b with
      |true=>erw[n]at q<;>symm|false=>
       erw[n]at q;cases f:Kt t with
       |none=>erw[f]at q<;>symm|some l=>
        erw[f]at q;let(kk,rfl,T):=zlr f;intro i M x B u g1;have P:Rp X.K i M (.nd false kk l) x B:=g1;let(p,rfl):=P.ref_inv;let(xs0,U,D):=Ai.node P;let(p1,xs,s,g,W):=LB T<|Ai.of_node (H:=i) U D;injection s with s
        subst s;cases J:EJ l with
        |none=>erw[J]at q<;>symm|some K=>
          erw[J]at q;have I:=M8 J W;refine{.inl {rfl,xs,g i M (Aa.refl _) u.fh},i,Y,R,S.ext u,?_};cases a:mk Y with
          |none=>erw[a]at q<;>symm|some r=>
            cases r with
            |x c=>erw[a]at q<;>symm|v t2 b2=>
              cases t2 with
              |str y=>
                erw[a]at q;intro L N z B2 w g2;have Z:=Hj g2;subst Z;cases A:C7 K y with
                |none=>erw[A]at q<;>symm|some j=>
                  erw[A]at q;by_cases C:K.length<1000000
                  . rw[if_pos C]at q
                    refine{p,K,y,j,rfl,rfl,by rw[<- I];exact g L N w.ff w.fh,A,C,?_};exact q L N _ R0 ((u.trans w).mono λϊ z=>z.elim)<|.int _
                  . rw[if_neg C]at q
                    symm
              |_=>erw[a]at q<;>symm
variable {mu:Bool}{i:Nat}{x n:Str}{np hpos:Pos}{body suite:kh}{b₀:Stmt}{u h:AG}{cs:List<|Str×Addr}
end
section
variable {X:Cx}{E:L2.St->XK}{ca:Str->Value}{m:AI}{e:Expr}{pos p p2:Pos}{c:Str}{v:V}{tb:List<|Addr×Bool}
end
section
variable {X:Cx}{E:L2.St->XK}{ca:Str->Value}{mu:Bool}{i j:Nat}{tg it c:Expr}{ret:kh}{mc:AI}{k:T}{ip pos:Pos}
variable {e:Expr}{m:AI}{t:T}{p1 apos cpos bpos:Pos}{x:Str}
end
section
variable {X:Cx}{E:L2.St->XK}{ca:Str->Value}{m mk ma:AI}{o k e a:Expr}{pos apos cpos p p2:Pos}
def rSlS:V->ke->ke->Hp->VK->Prop:=λx b a H Q=>∃z:Str,x=.str z/\z.length<=Bh/\Q (.str<|Txt.slice z b a) H
def zn9:WM X rSlS:=by
 intro r s O H x v vl y p o w Q I n h m f q;let(z,rfl,a,q):=q;let(t,rfl):=(n);let(ob,c,b,hd):=h;rw[GH]at a;cases m with
 |none=>
  cases f with
  |none=>exact{"str",_,ŉ.lookup,Ĳ _ _ _,ř (l:=none) (u:=none) (st:=none) {(ob),c,b,hd} rfl<|Ś {Ú (Ŗ z _ _) a,λd k=>{.str _,H,I.tok _,{_,rfl},q}}}|int j e=>exact{"str",_,ŉ.lookup,Ĳ _ _ _,ř (l:=none) (u:=↑(j,e)) (st:=none) {(ob),c,b,hd} rfl<|Ś {Ú (Ŗ z _ _) a,λd k=>{.str _,H,I.tok _,{_,rfl},q}}}
 |int i g=>
  cases f with
  |none=>exact{"str",_,ŉ.lookup,Ĳ _ _ _,ř (l:=↑(i,g)) (u:=none) (st:=none) {(ob),c,b,hd} rfl<|Ś {Ú (Ŗ z _ _) a,λd k=>{.str _,H,I.tok _,{_,rfl},q}}}|int j e=>exact{"str",_,ŉ.lookup,Ĳ _ _ _,ř (l:=↑(i,g)) (u:=↑(j,e)) (st:=none) {(ob),c,b,hd} rfl<|Ś {Ú (Ŗ z _ _) a,λd k=>{.str _,H,I.tok _,{_,rfl},q}}}
def Fj(ma:AI)(d c:Option<|AI):AI:=λY=>match ma Y with
 |some (.v (.str z) ϊ)=>(match Fk d Y,Fk c Y with
  |some b,↑a=>if z.length<=Bh then ↑(.v (.str<|Txt.slice z b a) false) else none
  |ϊ,ϋ=>none)
 |ϊ=>none
def zhl{lo hi}(A:PE X a<|tM X.K E ca ma)(C:PO X lo<|IA X.K ml)(hh:PO X hi<|IA X.K mh):PE X (.Subscript a (.Slice lo hi none p2) pos)<|tM X.K E ca<|Fj ma ml mh:=by
 refine PE.weak (Y8 zn9 A C hh) λO H Q h=>?_;let(F,Y,R,S,q):=h;refine{F,Y,R,S,?_};unfold Fj at q;cases m:ma Y with
 |none=>rw[m]at q;symm|some r=>
  rw[m]at q;cases r with
  |x c=>symm|v t I=>
   cases t with
   |str z=>
    intro j p x B w g1;have D:=Hj g1;subst D;have b:Ext F H j p R0:=w.mono λϊ z=>z.elim
    have k:=S.ext b;cases d:Fk ml Y with
    |none=>erw[d]at q<;>symm|some i=>
     refine{j,Y,R,i,k,d,λn G l=>?_};have u:=k.ext l;cases e:Fk mh Y with
     |none=>erw[d,e]at q<;>symm|some f=>
      erw[d,e]at q;refine{n,Y,R,f,u,e,λo s y=>?_};by_cases g:z.length<=Bh;rw[if_pos g]at q;exact{z,rfl,g,q o s _ R0 (b.trans0<|l.trans0 y)<|.str _};rw[if_neg g]at q;symm
   |_=>symm
def rJoin:V->qA->Hp->VK->Prop:=λx c H Q=>∃(a:Str) (l:Addr) (b:ki),x=.str a/\c=[.ref l]/\H l=↑(.lst<|b.map V.str)/\(b.map (·.length)).sum+b.length * a.length<=Bh/\Q (.str<|Txt.join a b) H
def X7:∀{ys} {its},Ag (ys.map V.str) its->StrsAre its ys
 |[],its,r=>by
  cases r;exact .nil
 |y::ys,its,r=>by
  cases r with
  |cons h t=>let(tk,rfl):=h;exact .cons _ _<|X7 t
def zln:PH X "str.join" rJoin:=by
 intro j s O H x o v n Q I g f h;let(i,l,p,rfl,rfl,a,b,q):=h;let(t,rfl):=(g);let(u,rfl,e):=f.one;cases e;let(c,r,d,_):=I.list<|Ab.of a;refine join_list d.isList (X7 r) (by exact b) λm k=>{.str _,H,I.tok _,{_,rfl},q}
def Ks(m mk:AI):AI:=λY=>match m Y with
 |some (.v (.str a) ϊ)=>(match mk Y with
  |some (.v (.nd ϊ .lst l) ϋ)=>(match EJ l with
   |some b=>if (b.map (·.length)).sum+b.length * a.length<=Bh then ↑(.v (.str<|Txt.join a b) false) else none
   |none=>none)
  |ϊ=>none)
 |ϊ=>none
def zpn{K}{o}(s:Aa F H)(h:Rp K F H (.nd o .lst l) x A):∃p xs,x=.ref p/\H p=↑(.lst xs)/\l.length=xs.length/\∀(i:Nat) (t) (x),l[i]?=↑t->xs[i]?=↑x->∃B,Rp K F H t x B:=by
 cases h with
 |shr h e c=>exact{_,_,rfl,s _ _ h,e,λi t x a b=>{_,c i t x a b}}|own hk R f h e c d dp o=>exact{_,_,rfl,h,e,λi t x a b=>{_,c i t x a b}}
set_option tactic.hygienic true in
def X6{K}{F H}:∀{l} {ys} {xs},EJ l=↑ys->l.length=xs.length->(∀(i:Nat) (t) (x),l[i]?=↑t->xs[i]?=↑x->∃B,Rp K F H t x B)->xs=ys.map V.str
 |[],ys,xs,h,e,ϊ=>by
  cases h;cases xs with
  |nil=>rfl|cons ϊ ϋ=>simp at e
 |t::l,ys,[],h,e,ϊ=>by simp at e|t::l,ys,x::xs,h,e,f=>by
  unfold EJ at h;split at h;cases ‹_::_=[]›;rename_i z r hh;cases hh;split at h;rename_i g c;cases h;let(B,r0):=f 0 _ x rfl rfl;have d:xs=g.map V.str:=X6 c (by simpa using e) λi t x a b=>f (i+1) t x (by simpa using a)<|by simpa using b
  rw[r0.str_inv,d];rfl;cases h;cases h
def zo0(N:PE X o<|tM X.K E ca m)(hk:PE X k<|tM X.K E ca mk)(a:attributeBase o "join" X.env (eval o X.env)=eval o X.env)(i:starEach [k] X.env=[(false,eval k X.env)])(d:(apos.endLine == cpos.line)=true) :
  PE X (.Call (.Attribute o "join" apos) [k] [] cpos) (tM X.K E ca<|Ks m mk):=by
 refine PE.weak (Kf PySem.F.plainAttrs_str PySem.F.slot_str_join PySem.F.type_str_join zln N (Er hk Fg i) a (by rw[i];rfl) d i rfl) λO H Q h=>?_;let(F,Y,R,S,q):=h;refine{F,Y,R,S,?_};unfold Ks at q;cases G:m Y with
 |none=>rw[G]at q;symm|some r=>
  rw[G]at q;cases r with
  |x c=>symm|v t b=>
   cases t with
   |str g=>
    simp only at q;intro w I x B K g1;have T:=Hj g1;subst T;have e:Ext F H w I R0:=K.mono λϊ z=>z.elim
    refine{rfl,w,Y,R,S.ext e,?_};cases f:mk Y with
    |none=>rw[f]at q;symm|some V=>
     rw[f]at q;cases V with
     |x c=>symm|v W J=>
      cases W with
      |nd o2 U l=>
       cases U with
       |lst=>
        simp only at q;intro y C z Z D g2
        have P:∃A,Rp X.K y C (.nd o2 .lst l) z A:=by
         cases J with
         |true=>let(_,A,_,r):=g2;exact{(A),r}
         |false=>exact{_,g2}
        let(A,r):=P;let(p,xs,rfl,M,L,kd):=zpn D.fh r;cases n:EJ l with
        |none=>erw[n]at q<;>symm|some u=>
         erw[n]at q;have j:=X6 n L kd
         by_cases s:(u.map (·.length)).sum+u.length * g.length<=Bh;rw[if_pos s]at q;exact{g,p,u,rfl,rfl,by rw[<- j];exact M,s,q y C _ R0 ((e.trans D).mono λϊ z=>z.elim)<|.str _};rw[if_neg s]at q;symm
       |_=>symm
      |_=>symm
   |_=>symm
def rIxD:R2:=λx y H Q=>∃a b k v,x=.ref a/\y=.str k/\H a=↑(.dK b)/\E3 b (Sum.inr k)=↑v/\Q v H
def eR(o:X.A.units+1<cLine):GY X rIxD:=by
 intro d c z s O H x y v u Q I A B h n;let(a,t,k,w,rfl,rfl,i,p,q):=h;cases A;have g :=p▸PQ.k i
 have m:s.TypeIs (.ref a) "dict":=by
  let(_,_,D,_,l):=jY I.hok i;exact l.typeIs
 refine Â ?_;refine Â<|wpAny_specialOf m PySem.F.slot_dict_getitem.lookup ?_
 have BK:wpAny (model X.prog X.w) X.A (subscripted c false (.ref a) u) (λr b=>wpAny (model X.prog X.w) X.A (letTemporaryGo d (.ref a) r >>= λϊ=>pure r) (EP X z O Q) X.xe b) X.xe s:=by
  rw[n];exact wpAny_operating<|í (zgg o I g (B) λE C j f=>{(w),H,j,f,q}) (λr b e=>Â<|wpAny_letTemporaryGo<|Ñ e) λϊ ϊ x=>x
 first|exact Ñ (Â BK)|rfl|rfl
def Ew(m mk:AI):AI:=λY=>match m Y with
 |some (.v (.obj (.sdc a) l) ϊ)=>(match mk Y with
  |some (.v (.str y) ϊ)=>(match C7 a y with
   |some j=>(match l[j]? with
    |some u=>if u.sh then ↑(.v u false) else none
    |none=>none)
   |none=>none)
  |ϊ=>none)
 |ϊ=>none
def Pt:∀{ks} {xs} {y} {j} {v},C7 ks y=↑j->xs[j]?=↑v->E3 (Cs ks xs) (Sum.inr y)=↑v
 |[],xs,y,j,v,h,ϊ=>by simp[C7]at h|k::ks,[],y,j,v,ϊ,h=>by simp at h|k::ks,x::xs,y,j,v,h,a=>by
  show E3 ((Sum.inr k,x)::Cs ks xs) (Sum.inr y)=↑v;unfold C7 at h;rw[Ų]at h;by_cases e:k=y;rw[@decide_eq_true _ (Classical.propDecidable _) e]at h;erw[Ä,ţ]at h;subst h;rw[MR (p:=(Sum.inr k,x))<|by rw[e]];simpa using a;rw[@decide_eq_false _ (Classical.propDecidable _) e]at h;erw[ę,Ã,Ý]at h;let(c,b,rfl):=h;rw[MS (p:=(Sum.inr k,x))<|λz=>e<|Sum.inr.inj z]
  exact Pt (show C7 ks y=↑c from b)<|by simpa using a
def r_gt(U:X.A.units+1<cLine)(P:PE X o<|tM X.K E ca m)(hk:PE X k<|tM X.K E ca mk)(T:KH k):PE X (.Subscript o k pos)<|tM X.K E ca<|Ew m mk:=by
 refine PE.weak (Mx (eR U) P hk T) λO H Q h=>?_;let(F,Y,R,S,q):=h;refine{F,Y,R,S,?_};unfold Ew at q;cases A:m Y with
 |none=>rw[A]at q;symm|some r=>
  rw[A]at q;cases r with
  |x c=>symm|v t b=>
   cases t with
   |obj kd l=>
    cases kd with
    |sdc W=>
     simp only at q;intro s D x B n g1;let(r1,J):=Nm g1;subst J;let(a,xs,rfl,_,(N,K),el,G):=r1.obj_inv;refine{s,Y,R,S.ext n,?_};cases g:mk Y with
     |none=>rw[g]at q;symm|some Z=>
      rw[g]at q;cases Z with
      |x c=>symm|v t2 b2=>
       cases t2 with
       |str y=>
        simp only at q;intro w i z B2 I g2;have V:=Hj g2;subst V;have e:Ext s D w i R0:=I.mono λϊ z=>z.elim
        cases p:C7 W y with
        |none=>erw[p]at q<;>symm|some j=>
         erw[p]at q;cases d:l[j]? with
         |none=>erw[d]at q<;>symm|some u=>
          erw[d]at q;by_cases f:u.sh=true;rw[if_pos f]at q;have M:=(Î.mp d).1;have C:xs[j]?=↑xs[j]:=Á<|by lia
          have L:=(G j u _ d C).move (H':=i) f e.ff;exact{a,_,y,_,rfl,rfl,e.hh _ _<|n.fh _ _ K,Pt p C,q w i _ R0 (n.trans0 e) L};rw[if_neg f]at q;symm
       |_=>symm
    |_=>symm
   |_=>symm
def tKys(d:TE):TE:=λO H Q=>d O H λx b=>∃a c xs,x=.ref a/\c.length=xs.length/\b a=↑(.dK<|Cs c xs)/\∀p,b p=none->Q (.ref p) (upd b p<|.lst<|c.map V.str)
def eC:∀{ks} {xs},ks.length=xs.length->(Cs ks xs).length=ks.length
 |[],[],ϊ=>rfl|[],ϊ::ϋ,h=>by simp at h|ϊ::ϋ,[],h=>by simp at h|k::ks,x::xs,h=>by
  show(Cs ks xs).length+1=ks.length+1;rw[eC<|by simpa using h]
def eE:∀{ks} {xs} {vs},ks.length=xs.length->KV (Cs ks xs) vs->vs.map (·.1)=ks.map Sum.inr
 |[],[],vs,ϊ,r=>by
  have a :=(r);cases a;rfl
 |[],ϊ::ϋ,ό,h,ύ=>by simp at h|ϊ::ϋ,[],ό,h,ύ=>by simp at h|k::ks,x::xs,vs,h,r=>by
  have a :=r;cases a with
  |@cons ϊ q ϋ c hd b=>rw[Ù,Ù,<- hd.1,eE (by simpa using h) b]
def zor(U:X.calm=true)(Y:Gl X "list")(Z:X.mg "list"=none)(ho:PE X o to)(J:starEach [o] X.env=[(false,eval o X.env)]) :
  PE X (.Call (.Name "list" p) [o] [] p2) (tKys to):=by
 intro pz s O H Q I h;refine ı<|Gh I Y Z ŋ ?_ (by decide)<|by decide
 refine Ę ?_ (by rw[J];rfl) rfl;rw[J];show wpAny _ _ (spliced<|(false,eval o X.env)::backTo p2 (starEach [] X.env)) _ _ s;refine Calls.spliced_cons<|A4 (ho pz s O H _ I h) λv s1 zz=>?_
 let(x,H1,m,r1,q1):=zz;let(a,g,xs,rfl,F,hd,q):=q1;cases r1;let(z,D,K,l,o',T,S,C,r):=(m.hok a _ hd);have B:s1.heap.DictAt (Dq X.prog X.w) a K S:={(o'),T,C,r};refine Calls.spliced_nil ?_;refine W.kdl_call (W.kdl_dict D) (m.ok.hd U) B (by rw[<- zpu l];exact z) λh' tk c L hk G e=>?_
 have b:=eE F l;refine{.ref _,_,m.laid hk (Æ _) ?_,rfl,q _<|m.hok.fresh<|Æ _};refine{by rw[À,<- eC F];exact z,c.toList,L,?_,by rw[G]}
 have j:c.toList.length=g.length:=by
  rw[Array.length_toList,e.1,<- À,b,À]
 have f:∀(n ) (k ) (v ),g[n]?=↑k->c.toList[n]?=↑v->∃t,v=Value.str k t:=λn k v y A=>by
  let(k',x',M,N):=e.2 n v (by rw[<- Array.getElem?_toList];exact A);have E:(K.map (·.1))[n]?=↑k':=by rw[È,M];rfl
  rw[b,È,y]at E;have P :=(Û E).symm;subst P
  rcases Fo (show Hf (Sum.inr k) v=true from N) with ⟨i,t,w,_⟩|⟨x,t,w,R⟩;cases w;cases w;exact{(t),R}
 clear G hk e;generalize c.toList=d at j f;clear hd q b
 have go:∀(g:ki) (d ),d.length=g.length->(∀(n:Nat) (k ) (v ),g[n]?=↑k->d[n]?=↑v->∃t,v=Value.str k t)->Ag (g.map V.str) d:=by
  intro g
  induction g with
  |nil=>
   intro d u _;cases d with
   |nil=>exact .nil|cons ϊ ϋ=>simp at u
  |cons k g ih=>
   intro d u f;cases d with
   |nil=>simp at u|cons v d=>exact .cons (f 0 k v rfl rfl)<|ih d (by simpa using u) λn k v y A=>f (n+1) k v (by simpa using y)<|by simpa using A
 exact go g d j f
def Hb(m:AI):AI:=λY=>match m Y with
 |some (.v (.obj (.sdc a) ϊ) ϋ)=>↑(.v (.own<|a.map T.str) false)|ϊ=>none
theorem zhi{K}(c:ki):Ai K F (c.map T.str)<|c.map V.str:={by simp,λi t x a b=>by
 rw[È]at a b;cases h:c[i]? with
 |none=>grind|some k=>rw[h]at a b;cases a;cases b;exact .str k}
def r_kys(D:X.calm=true)(G:Gl X "list")(I:X.mg "list"=none)(J:PE X o<|tM X.K E ca m)(L:starEach [o] X.env=[(false,eval o X.env)]):PE X (.Call (.Name "list" p) [o] [] p2)<|tM X.K E ca<|Hb m:=by
 refine PE.weak (zor D G I J L) λO H Q h=>?_;let(F,Y,R,S,q):=h;refine{F,Y,R,S,?_};unfold Hb at q;cases d:m Y with
 |none=>rw[d]at q;symm|some r=>
  rw[d]at q;cases r with
  |x c=>symm|v t b=>
   cases t with
   |obj kd l=>
    cases kd with
    |sdc j=>
     intro n u x B f g1;let(r1,y):=Nm g1;subst y;let(a,xs,rfl,_,(i,A),N,M):=r1.obj_inv;refine{a,j,xs,rfl,i,f.fh _ _ A,λp K=>?_}
     have w:Dx X.K n u (.own<|j.map T.str) Q:=λk s z C e g=>q k s z C (f.trans0 e) g;exact w.list f.fh (zhi j) K
    |_=>symm
   |_=>symm
structure ICls(K:q9)(C:Addr):Prop where
 c:Cls K C
 a:W.findIn K (.ref C) "__class__"=↑(↑(.builtin "object.__class__"))
 n:W.specialIn K (.builtin "object.__class__") "__get__"=↑(↑(.builtin "getset_descriptor.__get__"))
 k:W.takesIn K (.builtin "object.__class__")=↑true
 m:W.mroIn K C (.type "object")=↑true
def U3(a:List<|Addr×Bool):Ob->kr
 |.ins C ϊ=>(a.lookup C).map .bl|ϊ=>none
def MV:List String:=["NoneType","bool","int","str","list","tuple","dict"]
def LC(a:List<|Addr×Bool):T->kr
 |.obj o ϊ=>U3 a o|t=>(MW t).map λϊ=>.bl false
def zjk(c:ICls X.K C)(hk:W.kitOne X.K (.ref C) (.ref D)=↑b):C4 X (.builtin "isinstance") (λxs H Q=>∃a dx fs,xs=[.ref a,.ref D]/\H a=↑(.ins C dx fs)/\Q (.bl b) H):=by
 intro g s O H xs i Q I r h;let(a,dx,fs,rfl,e,q):=h;let(u,j,rfl,d,f):=Hy r;cases f;exact U1 I d (.ins e c.c c.a c.n c.k c.m) hk λtk=>{.bl b,H,I.tok _,rfl,q}
def r_isC(g:(∀C b,tb.lookup C=↑b->ICls X.K C/\W.kitOne X.K (.ref C) (.ref D)=↑b)/\(MV.all λa=>W.kitOne X.K (.type a) (.ref D) == ↑false)=true)(G:Gl X "isinstance")(f:X.mg "isinstance"=none)(j:Gl X c)(k:X.mg c=↑(.ref D))(hd:(c == "__debug__")=false)(i:PE X e<|tM X.K E ca m)(l:starEach [e,.Name c p2] X.env=(false,eval e X.env)::starEach [.Name c p2] X.env) :
  PE X (.Call (.Name "isinstance" p) [e,.Name c p2] [] pos) (tM X.K E ca<|B5 (g1<|LC tb)<|AB m AE):=by
 have A:C4 X (.builtin "isinstance") (λxs H Q=>(∃C b a d fs,tb.lookup C=↑b/\xs=[.ref a,.ref D]/\H a=↑(.ins C d fs)/\Q (.bl b) H)\/∃x a,xs=[x,.ref D]/\a∈MV/\(TyOf X.K H x (.type a)\/WJ X.K H x a)/\Q (.bl false) H):=λK s O H xs N Q I r h=>by
  rcases h with ⟨C,b,a,d,fs,n,h⟩|⟨x,a,rfl,f,ty,q⟩;exact zjk (g.1 C b n).1 (g.1 C b n).2 K s O H xs N Q I r {(a),d,fs,h};have hk :=eq_of_beq<|Ö.mp g.2 a f;let(u,T,rfl,o,M):=Hy r;cases M
  rcases ty with ty|J;exact U1 I o ty hk λtk=>{.bl false,H,I.tok _,rfl,q};exact e8 I o J hk λtk=>{.bl false,H,I.tok _,rfl,q}
 refine PE.weak (My A G f PyProof.Rows.boot_isinstance (Er i (Er (Yb (v:=.ref D) j k rfl hd) Fg) l) (by decide) (by decide) l rfl) λO H Q h=>?_;refine(IC<|ID h).mono λx R y=>?_;let(F,S,w,fh,rs,e,q):=IB y;unfold g1 at e;split at e;let(U,P,t,r1,L):=rs.inv;cases t;unfold LC at e;split at e;unfold U3 at e;split at e;let(b,B,rfl):=Ý.mp e;let(a,xs,rfl,_,(d,z),_,_):=r1.obj_inv;exact .inl {_,b,a,d,_,B,rfl,fh _ _ z,q.bl fh}
 cases e;let(a,i,rfl):=Ý.mp e;let(ty,f):=Wz fh r1 i;exact .inr {_,a,rfl,f,ty,q.bl fh}
 cases e
end
open Classical in
def JL(i:Nat)(mk m:AI):AG:=λY=>match m Y with
 |some (.v t false)=>(match GA (Y.getD i none) with
  |some (a,l)=>(match mk Y with
   |some (.v (.str k) ϊ)=>if k∉a/\a.length<100000 then ↑(.nx<|Y.set i<|↑(.osd (a++[k])<|l++[t])) else none
   |some (.v ϊ ϋ)=>none|some (.x c)=>↑(.xc c Y)|none=>none)
  |none=>none)
 |some (.v ϊ true)=>none|some (.x c)=>↑(.xc c Y)|none=>none
def Yj{Y:AM}(h:GA (Y.getD i none)=↑(ks,l)):Y[i]?=↑(↑(.osd ks l)):=by
 have:=Yk h;rw[Ó]at this;cases e:Y[i]? with
 |none=>rw[e]at this;cases this|some o=>rw[e]at this;rw[<- this];rfl
section
variable {X:Cx}{E:L2.St->XK}{ca:Str->Value}{m mk:AI}{e k:Expr}{pos p1 pos2 pos3:Pos}{mu:Bool}{i j:Nat}{x f:Str}
def s_dps(hu:X.A.units+1<cLine)(hN:X.N[i]?=↑x)(hv:EI X.env.scope x)(hd:(x == "__debug__")=false)(K:(x == "__classdict__")=false)(he:PE X e<|tM X.K E ca m)(hk:PE X k<|tM X.K E ca mk)(hs:swapsWithSole [.Subscript (.Name x p1) k pos2] e pos.line X.env=pure false)(hw:swappedStores [.Subscript (.Name x p1) k pos2] e X.env=pure none)
  (ha : ∀ v, assign (.Subscript (.Name x p1) k pos2) X.env v = (do
   let ov <- holding [v]<|eval (.Name x p1) X.env;let iv <- holding [v,ov] (eval k X.env)
   standAt pos2
   holding [v,ov,iv] (setItem ov iv v)
   release [v,ov,iv] [])) :
  PS X (.Assign [.Subscript (.Name x p1) k pos2] e pos) (tS X.K E ca mu<|JL i mk m):=by
 refine PS.weak (Kc he (Mw (G6 hN hv hd K) hk (Xk hu) ha) hs hw rfl) λD O H h=>?_;let(F,Y,R,S,q):=h;refine{F,Y,R,S,?_};unfold JL at q;cases W:m Y with
 |none=>erw[W]at q<;>symm|some r=>
  erw[W]at q;cases r with
  |x c=>exact λf g e=>q f g O R e.stp0 (S.ext e)|v t bb=>
   cases bb with
   |true=>symm|false=>
    intro F1 H1 y B o g1;have G :=g1;simp only at q;cases L:GA (Y.getD i none) with
    |none=>erw[L]at q<;>symm|some kl=>
     let(N,l):=kl;erw[L]at q;have n:=S.ext o;have Z:=Yj L;let(y2,V,ry):=n.rep i _ Z;refine{y2,V,F1,Y,R,n,?_};cases d:mk Y with
     |none=>erw[d]at q<;>symm|some r=>
      erw[d]at q;cases r with
      |x c=>exact λf g e=>q f g O R ((o.stp0).trans e.stp0) (n.ext e)|v tk bk=>
       cases tk with
       |str M=>
        simp only at q;by_cases A:M∉N/\N.length<100000;rw[if_pos A]at q;intro F2 H2 z C b g2;have hz:=Hj g2;subst hz;have S2:=n.ext b;have P:=ry.ext b;let(p,xs,Rs,rfl,u,fp,hp,rs,s,ds):=P.osd_inv;have I :=G.ext b;have J:∀j a,R j a->¬ B a:=λj a T U=>S.apart o U j T
        have pB:¬ B p:=J i p (by rw[u];exact .inl rfl);refine{p,Cs N xs,M,rfl,rfl,hp,?_,?_};rw[eD s,<- s,Ĕ];exact į A.2<|by decide
        rw[Y1 s A.1];have r3:=Yh (k:=M) rs s fp ds I (λj a T U=>J i a (by rw[u];exact .inr {(j),T}) U) pB
        let(S3,Q):=S2.upd Z V (by rw[u];exact .inl rfl) r3 (λa z=>by
         rw[u];rcases z with z|z;exact .inl<|.inl z
         rcases QK z with w|w;exact .inl<|.inr w
         exact .inr w) J
        exact q F2 _ O _ ((o.stp.trans b.stp0).trans Q) S3;rw[if_neg A]at q;symm
       |_=>exact λf g z CC b g2=>q.elim
def HP(l:qB)(j:Nat):Option<|qB:=match l[j]? with
 |some (.nd true .lst v)=>↑v|ϊ=>none
def zec(h:HP l j=↑v):l[j]?=↑(.own v):=by
 unfold HP at h;grind
def K6(i:Nat)(mk m:AI):AG:=λY=>match GA (Y.getD i none) with
 |some (a,l)=>(match mk Y with
  |some (.v (.str y) false)=>(match C7 a y with
   |some j=>(match HP l j with
    |some v=>(match m Y with
     |some (.v t false)=>if v.length<Bh/\t.sh=true then ↑(.nx<|Y.set i<|↑(.osd a<|l.set j<|.own<|v++[t])) else none
     |ϊ=>none)
    |none=>none)
   |none=>none)
  |ϊ=>none)
 |none=>none
def s_dap(hu:X.A.units+1<cLine)(hN:X.N[i]?=↑x)(hv:EI X.env.scope x)(hd:(x == "__debug__")=false)(hcd:(x == "__classdict__")=false)(hk:PE X k<|tM X.K E ca mk)(hsl:KH k)(he:PE X e<|tM X.K E ca m)(hs:starEach [e] X.env=[(false,eval e X.env)])(g:(apos.endLine == cpos.line)=true) :
  PS X (.Expr (.Call (.Attribute (.Subscript (.Name x p1) k pos2) "append" apos) [e] [] cpos) pos) (tS X.K E ca mu<|K6 i mk m):=by
 refine PS.weak (Mu (Kf Ŋ PySem.F.slot_list_append PySem.F.type_list_append cJ (Mx (eR hu) (G6 hN hv hd hcd) hk hsl) (Er he Fg hs) rfl (by rw[hs];rfl) g hs rfl) rfl) λD O H h=>?_;let(F,Y,R,S,q):=h;unfold K6 at q;cases ho:GA (Y.getD i none) with
 |none=>erw[ho]at q<;>symm|some kl=>
  let(ks,l):=kl;erw[ho]at q;have ht:=Yj ho;let(y2,ey,ry):=S.rep i _ ht;refine{y2,ey,F,Y,R,S,?_};cases L:mk Y with
  |none=>erw[L]at q<;>symm|some r=>
   erw[L]at q;cases r with
   |x c=>symm|v tk bk=>
    cases bk with
    |true=>cases tk<;>symm|false=>
    cases tk with
    |str kk=>
     simp only at q;intro F1 H1 z C W g1;have w:=Hj g1;subst w;cases u:C7 ks kk with
     |none=>erw[u]at q<;>symm|some j=>
      erw[u]at q;cases o:HP l j with
      |none=>erw[o]at q<;>symm|some v=>
       erw[o]at q;have M:=zec o;have S1:=S.ext W;have Q:=ry.ext W;let(p,xs,Rs,rfl,hA,fp,hp,rs,ek,ds):=Q.osd_inv;have K:=(Î.mp M).1;have hjx:j<xs.length:=by rw[<- rs.len];exact K
       have hx :=Á hjx;have rk:=rs.rep j _ _ M hx;let(s,T,Rr,A,J,fpd,N,ro,dr,_):=rk.own_inv rfl;refine{p,_,kk,xs[j],rfl,rfl,hp,Pt u hx,?_};rw[A];refine{.inl {rfl,T,Ab.of N},F1,Y,R,S1,?_};cases hm:m Y with
       |none=>erw[hm]at q<;>symm|some r=>
        erw[hm]at q;cases r with
        |x c=>symm|v t bb=>
         cases bb with
         |true=>symm|false=>
          intro V H2 y B f g2;have I:=g2;simp only at q
          by_cases w:v.length<Bh/\t.sh=true;rw[if_pos w]at q;have hB:=Rp.r0 I w.2;subst hB;have S2:=S1.ext f;have b:=rs.ext f;have ry2:=Q.ext f;have ro2:=ro.ext f;have P:=f.hh _ _ N;have Z:=(ry2.dom (by rw[hA];exact .inl rfl)).1
          have hp2:=f.hh _ _ hp;have d:Rs j s:=by rw[J];exact .inl rfl
          have pne:s≠p:=λz=>ds j<|z▸d
          have G:=(b.dom d).1;refine{s,T,y,rfl,rfl,P,by rw[<- ro.len,<- GH];exact w.1,?_};have ro3:RpO X.K V (upd H2 s<|.lst<|T++[y]) (v++[t]) (T++[y]) _:=(ro2.upd dr).snoc (B:=R0) (I.upd<|λz=>z.elim) λϊ ϊ ϊ z=>z.elim
          have r3:=JR (k:=.lst) trivial ro3 G Cn (n:=rfl) λj z=>by
           by_cases u:j=v.length;erw[u,Ä]at z;exact z.elim;erw[u,Ã]at z;exact dr j z
          have hE:(λa=>a=s\/∃j,(if j=v.length then R0 else Rr j) a)=Rs j:=by
           rw[J];funext a;apply propext;constructor;rintro(z|⟨j,z⟩);exact .inl z;split at z;exact z.elim;exact .inr {(j),z};rintro(z|⟨j,z⟩);exact .inl z;exact .inr {j,by rw[if_neg<|Ô<|ro.out j a z];exact z}
          rw[hE]at r3;have oth :=λk hk z=>b.dis k j s hk z d
          have rs3:RpO X.K V (upd H2 s<|.lst<|T++[y]) (l.set j<|.own<|v++[t]) xs Rs:=by
           refine{by rw[Ī];exact b.len,λk t' x' U h2=>?_,b.dis,λk a z=>by rw[Ī];exact b.out k a z};by_cases hk:k=j;subst hk;rw[ê K]at U;rw[hx]at h2;cases U;cases h2;rw[A];exact r3;rw[å<|Í hk]at U;exact(b.rep k t' x' U h2).upd (oth k hk)
          have r4:=Yi rs3 ek Z (by rw[BB<|Í pne];exact hp2) ds;let(S3,st3):=S2.upd (B:=R0) ht ey (by rw[hA];exact .inr {(j),d}) r4 (λa z=>.inl (by rw[hA];exact z))<|λj a z1 z2=>z2
          exact q V _ O _ ((W.stp0.trans f.stp).trans st3) S3;rw[if_neg w]at q;symm
    |_=>symm
end
end Pu
namespace Zx
open PySem PySem.Spec PyProof.Rows L2 Zw
section
variable {A:Around}{E:Value->Shared->Prop}{M:Model}
end
section
variable {X:Cx}{i1 i2:Nat}{x1 x2 n1 n2:Str}{np1 np2 pos hpos1 hpos2:Pos}{body suite1 suite2:kh}{b1 b2:Stmt}{tb th1 th2:TS}{E:L2.St->XK}
end
end Zx
namespace Pu
open PySem PySem.Spec PyProof.Rows L2 Zw Zx
section
variable {X:Cx}{E:L2.St->XK}{ca:Str->Value}{mu:Bool}{i1 i2:Nat}{x1 x2 n1 n2:Str}{np1 np2 pos hpos1 hpos2:Pos}{body suite1 suite2:kh}{b1 b2:Stmt}{u h1 h2:AG}{cs1 cs2:List<|Str×Addr}
variable {m:AI}{e:Expr}{p p2 p3 p4:Pos}{c1 c2:Str}{t1 t2:List<|Addr×Bool}{kt:Nat}
end
end Pu
namespace Zx
open PySem PySem.Spec PyProof.Rows L2 Zw
def tTry0(K:q9)(W:Addr)(E:L2.St->XK)(e th:TS):TS:=λD O H=>e D O H/\∀c a d b,E c a d b->∃C,a=.ref C/\PySem.W.subIn K (.ref C) (.ref W)=↑true/\th D c b
section
variable {X:Cx}{x:Str}{np pos hpos:Pos}{body suite:kh}{b₀:Stmt}{tb th:TS}{E:L2.St->XK}
def zkq(T:ECls X.K X.mg x)(J:X.stack=X.env::X.outer)(hf:X.env.frame=↑X.env.locals)(j:∀pz xe,Ca (FY X pz xe) E->B9 (FY X pz xe) body tb)(hh:∀a,B9 (LV X a) (b₀::suite) th)(hg:Gl X x)(hdb:(x == "__debug__")=false) :
  PS X (.Try body [.ExceptHandler (↑(.Name x np)) none (b₀::suite) hpos] [] [] pos) (tTry0 X.K T.C E tb th):=by
 intro pz s O H D I h;let(h1,h2):=h
 refine wpAny_Try_except (í (j pz (λe P=>wpAny (model X.prog X.w) X.A (noteFrame e X.env) (λϊ Q=>wpAny (model X.prog X.w) X.A (setFlight e none) (λϊ R=>wpAny (model X.prog X.w) X.A (handleBy e X.env [.ExceptHandler (↑(.Name x np)) none (b₀::suite) hpos]) (SP X pz D) X.xe R) X.xe Q) X.xe P)
  ?pass [] s O H D (zq8 I) h1) (λf L q=>?_)<|λe L q=>q)
 case pass=>
  intro pins1 O1 H1 L e s' Y hcx;have V :=Yr (ok:=I.ok) Y;let(a,cls,i,B,rfl,os,bare,un,hok,kB,tB,fl0,he):=hcx;let(c0,dx):=cls;let(C,A,K,kk):=h2 O1 c0 dx i he;have A :=A;subst A;have fl1 :=J▸fl0
  have sl:∀y,s'.heap.UpToSlots y->∀b o,L.heap.get? b=↑o->H1 b=none->b∈Bc X.stack->∃z,y.get? b=↑{ o with slots:=z }:=λy U b o e n j=>by
   let(_,o2,G,hd):=V.stack.mem j;rw[e]at G;cases G;let(z2,e2):=un.slot b o e n j<|by simp
   let(z3,e3):=U b { o with slots:=z2 } e2 hd;exact{(z3),e3}
  have l :=λy st U=>
   V.call' (s':={ s' with heap:=y }) os {λb o e n j ϊ=>st b o<|kB b o e n j,λb o e n j ϊ=>sl y U b o e n j,un.free,λb o e ϊ=>by
    by_cases j:b∈Bc X.stack;let(z,q):=sl y U b o e (V.stkFree b j) j;exact{_,q}
    let(o',q):=tB b o e j;exact{o',st b o' q},un.tups,un.frzs,un.tbls} (hok.kept st) bare (λϊ z=>nomatch z)
  refine Sa (J▸I.ok.frames) rfl hf fl1 λh4 F M=>?_;refine UT F λh5 w N=>?_;have Z:=l h5 w.1<|M.trans N;let(oe,he5,hc5):=w.there;let(cd,bm,dd,kf,mN,hC,_,_,TL):=jN Z.kIn T.k.q;refine wpAny_handleBy_cons (codeAny_handlers_test<|J7 (fH Z) hg T.m ?_ hdb) (by intro q;cases q)
  refine exm hC he5 hc5 (TL.hasType ŝ.hasBase) (W.looks_subIn Z.kIn K) ?_;refine codeAny_handlers_suite<|zqx w λh6 fl6 sm6=>?_
  refine í (hh a pz _ O1 i D (fH<|l h6 fl6.1<|(M.trans N).trans sm6) kk) (λf s8 S=>?_)<|λϊ ϊ z=>False.elim z
  cases f with
  |next=>let(c,m,p,t):=S;exact{c,m,NI I.ok p,t}
  |brk=>let(c,m,p,t):=S;exact{c,m,NI I.ok p,t}
  |cont=>let(c,m,p,t):=S;exact{c,m,NI I.ok p,t}
  |ret u=>let(v,c,m,p,r8,t):=S;exact{v,c,m,NI I.ok p,r8,t}
 have g:∀{xe0 } {k } {i },Inv (FY X pz xe0) [] k i L->Inv X pz k i L:=λΓ=>Yr (ok:=I.ok) Γ;cases f with
 |next=>let(k,i,Γ,d):=q;exact ł {k,i,g Γ,d}
 |brk=>let(k,i,Γ,d):=q;exact{k,i,g Γ,d}
 |cont=>let(k,i,Γ,d):=q;exact{k,i,g Γ,d}
 |ret u=>let(v,k,i,Γ,r,d):=q;exact{v,k,i,g Γ,r,d}
end
end Zx
namespace Pu
open PySem PySem.Spec PyProof.Rows L2 Zw Zx
def HH(cs:List<|Str×Addr)(u h:AG):AG:=λY=>match u Y with
 |some (.xc c b)=>(match cs.lookup (HN c) with
  |some ϊ=>(match h b with
   |some (.nx a)=>↑(.nx a)|some (.rt t)=>↑(.rt t)|ϊ=>none)
  |none=>none)
 |r=>r
section
variable {X:Cx}{E:L2.St->XK}{ca:Str->Value}{mu:Bool}{x:Str}{np pos hpos:Pos}{body suite:kh}{b₀:Stmt}{u h:AG}{cs:List<|Str×Addr}
def zne(T:ECls X.K X.mg x)(p:∀c C,cs.lookup c=↑C->ca c=.ref C/\W.subIn X.K (.ref C) (.ref T.C)=↑true)(w:X.stack=X.env::X.outer)(M:X.env.frame=↑X.env.locals)
  (L:∀(E' ) pz xe,Ca (FY X pz xe) E'->B9 (FY X pz xe) body (tS X.K E' ca mu u)) (hh:∀a,B9 (LV X a) (b₀::suite)<|tS X.K E00 ca mu h) (N:Gl X x) (r:(x == "__debug__")=false) :
  PS X (.Try body [.ExceptHandler (↑(.Name x np)) none (b₀::suite) hpos] [] [] pos) (tS X.K E ca mu<|HH cs u h):=by
 intro pz s O H D I Q;let(F,Y,R,S,q):=Q;let E':L2.St->XK:=λz g ϊ k=>∃c b e f,u Y=↑(.xc c b)/\g=ca (HN c)/\Stp F H (tot R) e k (tot f)/\StR X.K e k z b f
 refine zkq T w M (λpz xe P=>L E' pz xe P) hh N r pz s O H D I {{F,Y,R,S,?_},?_};unfold HH at q;cases i:u Y with
 |none=>rw[i]at q;exact q|some o=>
  cases o with
  |xc c b=>exact λe V Z f st m ϊ ϊ=>{(c),b,e,f,i,rfl,st,m}|_=>rw[i]at q;exact q
 intro z g _ k ⟨c,b,e,f,i,n,st,m⟩;unfold HH at q;erw[i]at q;cases v:cs.lookup (HN c) with
 |none=>erw[v]at q<;>symm|some C=>
  erw[v]at q;let(J,K):=p _ C v;refine{C,n.trans J,K,e,b,f,m,?_};cases hh:h b with
  |none=>erw[hh]at q<;>symm|some o=>
   erw[hh]at q;cases o with
   |nx U=>exact λj l y A d G=>q j l y A (st.trans d) G|rt t=>exact λj l x B d r4=>q j l x B (st.trans d) r4|bk ϊ=>symm|ct ϊ=>symm|xc ϊ ϋ=>symm
variable {m mk ma:AI}{o k e a:Expr}{apos cpos p p2:Pos}
end
section
variable {X:Cx}{E:L2.St->XK}{ca:Str->Value}{m mk:AI}{o k e:Expr}{pos pos' apos cpos:Pos}
def K8(i:Nat)(m:AI):AG:=λY=>match Y[i]? with
 |some (↑(.int a))=>(match m Y with
  |some (.v (.int b) ϊ)=>↑(.nx<|Y.set i<|↑(.int<|a+b))|ϊ=>none)
 |ϊ=>none
def s_aug{mu:Bool}{i:Nat}{x:Str}(u:X.N.Nodup)(G:X.N[i]?=↑x)(I:GX X.env.scope x)(A:PE X e<|tM X.K E ca m)(C:X.fn x=true\/X.env.scope.names.lookup x=↑.local) :
  PS X (.AugAssign (.Name x pos') .Add e pos) (tS X.K E ca mu<|K8 i m):=by
 refine PS.weak (zoe u G I A zq7 C) λD O H h=>?_;let(F,Y,R,S,q):=h;unfold K8 at q;cases f:Y[i]? with
 |none=>rw[f]at q;symm|some J=>
  rw[f]at q;cases J with
  |none=>symm|some t=>
   cases t with
   |int a=>
    simp only at q;let(y,s,K):=S.rep i _ f;have g:=K.int_inv;subst g;refine{_,s,F,Y,R,S,?_};cases o:m Y with
    |none=>rw[o]at q;symm|some r=>
     rw[o]at q;cases r with
     |x c=>symm|v t b=>
      cases t with
      |int z=>
       simp only at q;intro k l y B p g1;have g:=Nn g1;subst g;have d:Ext F H k l R0:=p.mono λϊ z=>z.elim
       refine{a,z,rfl,rfl,?_};refine q k l _ _ (d.stp0.mono λb ⟨j,w⟩=>{j,?_})<|(S.ext d).set (.int<|a+z) (λϊ ϊ ϊ ϊ z=>z.elim) (Î.mp f).1
       by_cases n:j=i;erw[n,Ä]at w;exact w.elim;simpa[n] using w
      |_=>symm
   |_=>symm
end
abbrev fK(ms:BC):BC:=EH ms
theorem r_enX{X:Cx}{E:L2.St->XK}{ca:Str->Value}{ms:BC}{a:Expr}{b:kg}{h:Nat}{p pos c:Pos}(e:Gl X "enumerate")(f:X.mg "enumerate"=none)(d:PA X [a]<|CD X.K E ca ms)(g:starEach [a] X.env=[(false,eval a X.env)]):PI X (.Tuple b h c) (.Call (.Name "enumerate" p) [a] [] pos)<|tI X.K E ca<|fK ms:=YR e f d g
def clsO(C N:Addr)(o:Obj):Prop:=∃nm q bs b k sub d c e f g h i j a,o=excClassObj nm q C N bs [.type "object"] b k sub d c e f g h i j a
def keyO(e:DictEntry):Bool:=match e.key with
 |.str n ϊ=>!(n == ("__eq__":Str)) && !(n == ("__ne__":Str))|ϊ=>false
def nsO(o:Obj):Bool:=match o.data with
 |.dict a ϊ=>a.toList.all keyO|ϊ=>false
structure TiOk(K:q9)(C:Addr):Prop where
 i:ICls K C
 k:(JC.all λc=>W.kitOne K (.ref C) (.type c) == ↑false)=true
 o:∃(oC oN:Obj) (N:Addr),K.lookup C=↑oC/\clsO C N oC/\K.lookup N=↑oN/\nsO oN=true
mutual
noncomputable def T.lend:T->T
 |.nd o k l=>match o,k with
  |true,.lst=>.nd false .rl (Hc l)|true,.tup=>.nd false .tup (Hc l)|ϊ,ϋ=>.nd o k l
 |.dic a l=>.dic a l|.pdc a l=>.pdc a l|.odc a l=>.odc a l|.obj k l=>.obj k l|.oob p C fs l=>.oob p C fs l|.osd a l=>.osd a l|.non=>.non|.bl b=>.bl b|.int i=>.int i|.str x=>.str x
noncomputable def Hc:List T->List T
 |[]=>[]|t::r=>t.lend::Hc r
end
def U2:T->Bool
 |.nd o k ϊ=>match o,k with
  |true,.lst=>true|ϊ,ϋ=>false
 |ϊ=>false
def zm4(h:U2 t=true):∃l,t=.nd true .lst l:=by
 cases t with
 |nd o k l=>
  cases o with
  |false=>cases h|true=>cases k<;>first|exact⟨l,rfl⟩|cases h
 |_=>cases h
mutual
noncomputable def T.lnd:T->Bool
 |.nd o k l=>match o,k with
  |true,.lst=>GG l|true,.tup=>l.any U2 && GG l|true,ϊ=>false|false,ϊ=>A3 l
 |.dic ϊ l=>A3 l|.pdc ϊ l=>A3 l|.odc ϊ ϋ=>false|.obj ϊ l=>A3 l|.oob ϊ ϋ ό ύ=>false|.osd ϊ ϋ=>false|.non=>true|.bl ϊ=>true|.int ϊ=>true|.str ϊ=>true
noncomputable def GG:List T->Bool
 |[]=>true|t::r=>t.lnd && GG r
end
def Na:∀l,Hc l=l.map T.lend
 |[]=>rfl|t::r=>by rw[Hc,Na r];rfl
def UO:∀{l},GG l=true->∀{i:Nat} {t},l[i]?=↑t->t.lnd=true
 |[],ϊ,i,t,e=>by simp at e|a::r,h,i,t,e=>by
  rw[GG,Å]at h;cases i with
  |zero=>cases e;exact h.1|succ j=>exact UO h.2<|by simpa using e
def dW(n:T.lnd (.nd true .tup l)=true):l.any U2=true/\GG l=true:=by
 rw[T.lnd,Å]at n;exact n
def Rp.lend{K}(r:Rp K F H t x A)(n:t.lnd=true)(s:Aa F F')(k:∀a xs,A a->H a=↑(.lst xs)->∃o,F' a=↑(.frz o<|.lst xs))(k2:∀a xs,A a->H a=↑(.tup xs)->F' a=↑(.tup xs)):Rp K F' H' t.lend x R0:=by
 induction r with
 |non=>exact .non|bl b=>exact .bl b|int i=>exact .int i|str y=>exact .str y|@shr m p xs l h e c g=>
  have C:T.sh (.nd false m l)=true:=by rw[T.sh];rw[T.lnd]at n;exact n
  have B:(T.nd false m l).lend=.nd false m l:=by cases m<;>rfl
  rw[B];exact(Rp.shr (H:=H) h e c).move C s
 |dic h e q c g=>exact(Rp.dic (H:=H) h e q c).move (by rw[T.sh];exact n) s|pdc h e q c g=>exact(Rp.pdc (H:=H) h e q c).move (by rw[T.sh];exact n) s|odc f h e q c g=>cases n|obj h e c g=>exact(Rp.obj (H:=H) h e c).move (by rw[T.sh];exact n) s|oob R f h e c d dp o g=>cases n|osd R f h e q c d dp o g=>cases n|@own m p xs l hk R f h e c d dp o g=>
  have j:GG l=true->∀i t x,(Hc l)[i]?=↑t->xs[i]?=↑x->Rp K F' H' t x R0:=λnl i t x v w=>by
   rw[Na,È]at v;let(D,u,rfl):=Ý.mp v;exact g i D x u w (UO nl u) (λa xs z=>k a xs<|.inr {(i),z}) λa xs z=>k2 a xs<|.inr {(i),z}
  cases m with
  |lst=>rw[T.lend];exact .shr (.inl<|k p xs (.inl rfl) h) (by rw[Na,À];exact e) (j n)|tup=>rw[T.lend];exact .shr (k:=.tup) (k2 p xs (.inl rfl) h) (by rw[Na,À];exact e) (j (dW n).2)|_=>cases n
def Rp.lnd{K}(r:Rp K F H t x A)(n:t.lnd=true):∀a,A a->(∃xs,H a=↑(.lst xs))\/∃xs,H a=↑(.tup xs)/\∃(j:Nat) (c:Addr) (ys:qA),xs[j]?=↑(.ref c)/\A c/\H c=↑(.lst ys):=by
 induction r with
 |@own T p xs l hk R f h e c d dp o k=>
  have b:GG l=true->∀a i,R i a->(∃xs,H a=↑(.lst xs))\/∃xs,H a=↑(.tup xs)/\∃(j:Nat) (c:Addr) (ys:qA),xs[j]?=↑(.ref c)/\(c=p\/∃i,R i c)/\H c=↑(.lst ys):=λnl a i z=>by
   have u:=o i a z;have g:i<xs.length:=by lia
   rcases k i _ _ (Á u) (Á g) (UO nl<|Á u) a z with w|⟨W,E,j,c,ys,G,I,J⟩;exact .inl w;exact .inr {W,E,j,c,ys,G,.inr {(i),I},J}
  cases T with
  |lst=>
   rintro a (rfl|⟨i,z⟩);exact .inl {(xs),h};exact b n a i z
  |tup=>
   let(U,V):=dW n;rintro a (rfl|⟨i,z⟩);let(t,Q,O):=ą.mp U;let(m,rfl):=zm4 O;let(j,M,C):=Ŏ.mp Q;have g:j<xs.length:=by lia
   have s:=c j _ _ (Á M)<|Á g;rw[C]at s;generalize L:R j=B at s;generalize S:xs[j]=y at s;cases s with
   |@own k1 q ys m' N X fq P eq Y Z v oq=>exact .inr {xs,h,j,q,ys,by rw[Á g,S],.inr {j,by rw[L];exact .inl rfl},P}
   exact b V a i z
  |_=>cases n
 |odc f h e D c k=>cases n|oob R f h e c d dp o k=>cases n|osd R f h e D c d dp o k=>cases n|_=>exact λa z=>z.elim
open Classical in
def fz(A:Rg)(h:Heap)(H:Hp):Hp:=λb=>if A b then (match H b,h.get? b with
 |some (.lst xs),↑o=>↑(.frz o<|.lst xs)|u,ϊ=>u) else H b
open Classical in
def th(A:Rg)(H H':Hp):Hp:=λb=>if A b then H b else H' b
def fz_in{A:Rg}{h:Heap}{H:Hp}(z:A b)(e:H b=↑(.lst xs))(q:h.get? b=↑o):fz A h H b=↑(.frz o<|.lst xs):=by unfold fz;rw[if_pos z,e,q]
def fY{A:Rg}{h:Heap}{H:Hp}(z:¬ A b):fz A h H b=H b:=by unfold fz;rw[if_neg z]
set_option tactic.hygienic true in
def LL{A:Rg}{h:Heap}{H:Hp}(e:∀xs,H b≠↑(.lst xs)):fz A h H b=H b:=by
 unfold fz;split;split;rename_i xs _ q _;exact absurd q<|e xs
 rfl;rfl
def JD{A:Rg}{H H':Hp}(z:A b):th A H H' b=H b:=by unfold th;rw[if_pos z]
def Fv{A:Rg}{H H':Hp}(z:¬ A b):th A H H' b=H' b:=by unfold th;rw[if_neg z]
section
variable {X:Cx}{pz:List<|Addr×Obj}{O O':L2.St}{H H':Hp}{s s':Shared}{A:Rg}
def Ib(I:Inv X pz O H s)(z:A b)(e:H b=↑(.lst xs)):∃o,s.heap.get? b=↑o/\fz A s.heap H b=↑(.frz o<|.lst xs):=by
 let(_,a,n,_,q):=I.hok b _ e;exact{_,q,fz_in z e q}
def zid(I:Inv X pz O H s):Inv X pz O (fz A s.heap H) s:=by
 have nf:∀{b},H b=none->fz A s.heap H b=none:=λ{b} e=>by
  rw[LL (λxs q=>by rw[e]at q;cases q)];exact e
 have nl:∀{b} {u},H b=↑u->(∀xs,u≠.lst xs)->fz A s.heap H b=↑u:=λ{b u} e n=>by
  rw[LL (λxs q=>by rw[e]at q;exact n xs<|Û q)];exact e
 refine { I with base:={I.base.keep,I.base.slot,λb o e n l=>nf<|I.base.free b o e n l,I.base.there,λb xs e=>nl (I.base.tups b xs e) (λϊ z=>by cases z),λb o u e=>nl (I.base.frzs b o u e) (λϊ z=>by cases z),λb ps e=>?_},free:=nf I.free,freeC:=λx c e=>nf<|I.freeC x c e,pin:=λp k=>?_,hok:=λa o e=>?_ };let(d,q):=I.base.tbls b ps e;exact{d,nl q<|λϊ z=>by cases z};let(g,h,i):=I.pin p k;exact{g,nf h,i};have st:=λ{u} q=>(I.hok a u q).stay (H':=fz A s.heap H) (λϊ ϊ ϊ e=>e) (λb e=>nl e<|λϊ z=>by cases z) λb xs e=>nl e<|λϊ z=>by cases z
 by_cases z:A a/\∃xs,H a=↑(.lst xs);let(z,xs,q):=z;let(ob,j,w):=Ib I z q;rw[w]at e;cases e;exact{j,st q}
 by_cases f:A a;rw[LL<|λxs q=>z {(f),xs,q}]at e;exact st e;rw[fY f]at e;exact st e
def zic(I:Inv X pz O H s)(f:∀a,A a->(∃xs,H a=↑(.lst xs))\/∃xs,H a=↑(.tup xs))(Γ:Inv X pz O' H' s')(hk:∀b,A b->H' b=fz A s.heap H b):Inv X pz O' (th A H H') s':=by
 have nf:∀{b},(A b->H b=none)->H' b=none->th A H H' b=none:=λ{b} j k=>by
  by_cases z:A b;rw[JD z];exact j z;rw[Fv z];exact k
 have i:∀{b xs},A b->H b=↑(.tup xs)->H' b=↑(.tup xs):=λ{b xs} z e=>by
  rw[hk b z,LL (λv q=>by rw[e]at q;cases q)];exact e
 have nl:∀{b} {u},H' b=↑u->(∀o xs,u≠.frz o (.lst xs))->th A H H' b=↑u:=λ{b u} e n=>by
  by_cases z:A b;rcases f b z with ⟨xs,q⟩|⟨xs,q⟩;let(o,_,w):=Ib I z q;rw[hk b z,w]at e;exact absurd (Û e).symm<|n o xs
  rw[JD z,q,<- i z q];exact e;rw[Fv z];exact e
 refine { Γ with base:={Γ.base.keep,Γ.base.slot,λb o e n h=>nf (λϊ=>I.base.free b o e n h)<|Γ.base.free b o e n h,Γ.base.there,λb xs e=>nl (Γ.base.tups b xs e) (λϊ ϊ z=>by cases z),λb o u e=>?_,λb ps e=>?_},free:=nf (λϊ=>I.free) Γ.free,freeC:=λx c e=>nf (λϊ=>I.freeC x c e)<|Γ.freeC x c e,pin:=λp g=>?_,hok:=λa o e=>?_ };by_cases z:A b;rw[JD z];exact I.base.frzs b o u e;rw[Fv z];exact Γ.base.frzs b o u e;let(d,q):=Γ.base.tbls b ps e;exact{d,nl q<|λϊ ϊ z=>by cases z};let(l,m,r):=Γ.pin p g;exact{l,nf (λϊ=>(I.pin p g).2.1) m,r};have st:=λ{u} (q:DU X.prog X.w H' s'.heap a u)=>q.stay (H':=th A H H') (λϊ ϊ ϊ e=>e) (λb e=>nl e<|λϊ ϊ z=>by cases z) λb xs e=>nl e<|λϊ ϊ z=>by cases z
 by_cases z:A a;rcases f a z with ⟨xs,q⟩|⟨xs,q⟩;let(ob,t,w):=Ib I z q;rw[JD z,q]at e;cases e;have:=Γ.hok a _<|(hk a z).trans w;exact st this.2
 rw[JD z,q]at e;cases e;exact st<|Γ.hok a _<|i z q
 rw[Fv z]at e;exact st<|Γ.hok a o e
end
def kYng:Kd->Bool
 |.rl=>false|.rt=>false|ϊ=>true
def oYng:Ob->Bool
 |.lab ϊ=>false|ϊ=>true
mutual
noncomputable def T.noR:T->Bool
 |.nd ϊ k l=>kYng k && GF l|.dic ϊ l=>GF l|.pdc ϊ l=>GF l|.odc ϊ l=>GF l|.obj k l=>oYng k && GF l|.oob ϊ ϋ ό l=>GF l|.osd ϊ l=>GF l|.non=>true|.bl ϊ=>true|.int ϊ=>true|.str ϊ=>true
noncomputable def GF:List T->Bool
 |[]=>true|t::r=>t.noR && GF r
end
def GD:∀{l},GF l=true->∀{i:Nat} {t},l[i]?=↑t->t.noR=true
 |[],ϊ,i,t,e=>by simp at e|a::r,h,i,t,e=>by
  rw[GF,Å]at h;cases i with
  |zero=>cases e;exact h.1|succ j=>exact GD h.2<|by simpa using e
def zpd{K}(r:Rp K F H t (.ref c) A)(n:t.noR=true)(b:F c=↑(.frz o<|.lst ys)):False:=by
 cases r with
 |@shr i p xs l a e k=>
  rw[T.noR,Å]at n;cases i with
  |lst=>have h:F c=↑(.lst xs):=a;rw[b]at h;cases h|pin q=>have h:F c=↑(.lst xs):=a;rw[b]at h;cases h|tup=>have h:F c=↑(.tup xs):=a;rw[b]at h;cases h|rl=>cases n.1|rt=>cases n.1
 |dic a e g c=>rw[b]at a;cases a|pdc a e g c=>rw[b]at a;cases a|odc f a e g c=>rw[b]at f;cases f|@obj i p xs l a e c=>
  rw[T.noR,Å]at n;cases i with
  |ins C fs=>let(j,q):=a;rw[b]at q;cases q
  |exn C=>let(j,(ob,q,_),_):=a;rw[b]at q;cases q
  |sdc m=>have q:=a.2;rw[b]at q;cases q|lab q=>cases n.1
 |oob R f a e c d dp o=>rw[b]at f;cases f|osd R f a e g c d dp o=>rw[b]at f;cases f|own hk R f a e c d dp o=>rw[b]at f;cases f
def Rp.noR{K}{M:Hp}{A:Rg}(r:Rp K F H t x B)(n:t.noR=true)(J:∀b,A b->(∃o xs,F b=↑(.frz o<|.lst xs))\/∃xs,F b=↑(.tup xs)/\∃(j:Nat) (c:Addr) (o:Obj) (ys:qA),xs[j]?=↑(.ref c)/\F c=↑(.frz o<|.lst ys))(D:∀b,B b->¬ A b):Rp K (Fc A F) (th A M H) t x B:=by
 have nl:∀{b} {u},F b=↑u->(∀o xs,u≠.frz o (.lst xs))->(∀xs,u≠.tup xs)->Fc A F b=↑u:=λ{b u} e m m2=>by
  unfold Fc;rw[if_neg<|λz=>?_];exact e;rcases J b z with ⟨o,xs,q⟩|⟨xs,q,_⟩;rw[e]at q;exact m o xs<|Û q
  rw[e]at q;exact m2 xs<|Û q
 have nn:∀{b},F b=none->Fc A F b=none:=λ{b} e=>by unfold Fc;split;rfl;exact e
 induction r with
 |non=>exact .non|bl b=>exact .bl b|int i=>exact .int i|str y=>exact .str y|@shr I p xs l g e c k=>
  rw[T.noR,Å]at n;refine .shr ?_ e λi t x a h=>k i t x a h (GD n.2 a) λb z=>z.elim;cases I with
  |lst=>exact nl g (λϊ ϊ z=>by cases z) (λϊ z=>by cases z)|pin q=>exact nl g (λϊ ϊ z=>by cases z) (λϊ z=>by cases z)|tup=>
   have G:F p=↑(.tup xs):=g;show Fc A F p=↑(.tup xs);unfold Fc;rw[if_neg<|λz=>?_]
   exact G;rcases J p z with ⟨o,ys,q⟩|⟨Q,q,j,O,o,ys,a,h⟩;rw[G]at q;cases q;rw[G]at q;cases q;have L:j<l.length:=by rw[e];exact(Î.mp a).1
   exact zpd (c j _ _ (Á L) a) (GD n.2<|Á L) h
  |rl=>cases n.1|rt=>cases n.1
 |dic g e w c k=>exact .dic (nl g (λϊ ϊ z=>by cases z)<|λϊ z=>by cases z) e w λi t x a h=>k i t x a h (GD n a) λb z=>z.elim|pdc g e w c k=>exact .pdc (nl g (λϊ ϊ z=>by cases z)<|λϊ z=>by cases z) e w λi t x a h=>k i t x a h (GD n a) λb z=>z.elim|odc f g e w c k=>exact .odc (nn f) ((Fv<|D _ rfl).trans g) e w λi t x a h=>k i t x a h (GD n a) λb z=>z.elim|@obj I p xs l g e c k=>
  rw[T.noR,Å]at n;refine .obj ?_ e λi t x a h=>k i t x a h (GD n.2 a) λb z=>z.elim;cases I with
  |ins C fs=>exact g.elim λE q=>{E,nl q (λϊ ϊ z=>by cases z)<|λϊ z=>by cases z}|exn C=>let(E,(ob,q,r),s):=g;exact{E,{ob,nl q (λϊ ϊ z=>by cases z) (λϊ z=>by cases z),r},λv N=>let ⟨d,od,u,e,a,r⟩:=s v N;{d,od,u,e,nl a (λϊ ϊ z=>by cases z) (λϊ z=>by cases z),r}}
  |sdc P=>exact{g.1,nl g.2 (λϊ ϊ z=>by cases z)<|λϊ z=>by cases z}|lab q=>exact g
 |oob R f g e c d dp o k=>exact .oob R (nn f) ((Fv<|D _<|.inl rfl).trans g) e (λi t x a h=>k i t x a h (GD n a) λb z=>D b<|.inr {(i),z}) d dp o|osd R f g e w c d dp o k=>exact .osd R (nn f) ((Fv<|D _<|.inl rfl).trans g) e w (λi t x a h=>k i t x a h (GD n a) λb z=>D b<|.inr {(i),z}) d dp o|own hk R f g e c d dp o k=>rw[T.noR,Å]at n;exact .own hk R (nn f) ((Fv<|D _<|.inl rfl).trans g) e (λi t x a h=>k i t x a h (GD n.2 a) λb z=>D b<|.inr {(i),z}) d dp o
def Ds(i:Nat)(m:AI):AI:=λY=>match Y[i]? with
 |some ↑t=>if t.lnd then (match m (Y.set i ↑t.lend) with
  |some (.v v false)=>if v.noR then ↑(.v v false) else none
  |ϊ=>none) else none
 |ϊ=>none
def dF(h:Ds i m Y=↑r):∃t v,Y[i]?=↑↑t/\t.lnd=true/\m (Y.set i ↑t.lend)=↑(.v v false)/\v.noR=true/\r=.v v false:=by
 unfold Ds at h;grind
def UP{X:Cx}{E:L2.St->XK}{ca:Str->Value}{m:AI}{i:Nat}{D:List<|Addr×Obj}{s:Shared}{O:L2.St}{H:Hp}{Q:VK}(I:Inv X D O H s)(h:tM X.K E ca (Ds i m) O H Q) :
  ∃A:Rg,Inv X D O (fz A s.heap H) s/\tM X.K E ca m O (fz A s.heap H) (λv H'=>(∀b,A b->H' b=fz A s.heap H b)/\Q v (th A H H'))/\∀{O':L2.St} {H':Hp} {s':Shared},Inv X D O' H' s'->(∀b,A b->H' b=fz A s.heap H b)->Inv X D O' (th A H H') s':=by
 let(F,Y,R,S,q):=h;cases L:Ds i m Y with
 |none=>rw[L]at q;symm|some r=>
  let(t,v,Z,W,hv,hn,rfl):=dF L;rw[L]at q;let(x,ex,r):=S.rep i t Z;have hi:i<Y.length:=(Î.mp Z).1;have V:=r.lnd W;have n:∀a,R i a->(∃xs,H a=↑(.lst xs))\/∃xs,H a=↑(.tup xs):=λa z=>(V a z).imp_right λ⟨xs,e,_⟩=>{(xs),e}
  have fA:∀a,R i a->F a=none:=λa z=>(r.dom z).1;have p:∀{b},¬ R i b->fz (R i) s.heap H b=H b:=λz=>fY z;have P:∀{b xs},H b=↑(.tup xs)->fz (R i) s.heap H b=↑(.tup xs):=λ{b xs} e=>by rw[LL (λys z=>by rw[e]at z;cases z)];exact e
  have M:Aa F<|frz F (fz (R i) s.heap H)<|R i:=FV fA
  have fh:Aa (frz F (fz (R i) s.heap H)<|R i)<|fz (R i) s.heap H:=λb u e=>by
   by_cases z:R i b;rw[Ec z]at e;exact e;rw[FU z]at e;rw[p z];exact S.fh b u e
  have S':StR X.K (frz F (fz (R i) s.heap H)<|R i) (fz (R i) s.heap H) O (Y.set i ↑t.lend) (λj=>if j=i then R0 else R j):=by
   refine{fh,by simpa using S.len,λj N e=>?_,λj a z=>?_,λj k a K G J=>?_};by_cases d:j=i;subst d;rw[ê hi]at e;cases e;refine{x,ex,?_};erw[Ä];refine r.lend W M (λa xs z f=>?_) λa xs z f=>?_;let(o,_,w):=Ib (A:=R j) I z f;exact{o,by rw[Ec z];exact w};rw[Ec z];exact P f;rw[å<|Í d]at e;let(y,f,r1):=S.rep j N e;refine{y,f,?_};erw[d,Ã];exact r1.frame M λa z=>{p λw=>S.dis j i a d z w,by rw[FU<|λw=>S.dis j i a d z w];exact(r1.dom z).1}
   by_cases d:j=i;erw[d,Ä]at z;exact z.elim;erw[d,Ã]at z;let(N,e):=S.out j a z;exact{N,by rw[å<|Í d];exact e}
   by_cases d:j=i;erw[d,Ä]at G;exact G.elim;by_cases hk:k=i;erw[hk,Ä]at J;exact J.elim;erw[d,Ã]at G;erw[hk,Ã]at J;exact S.dis j k a K G J
  have l:∀b,R i b->∃u,fz (R i) s.heap H b=↑u:=λb z=>by
   rcases n b z with ⟨xs,e⟩|⟨xs,e⟩;let(o,_,w):=Ib (A:=R i) I z e;exact{_,w};exact{_,P e}
  refine{R i,zid I,{_,_,_,S',?_},λΓ hk=>zic I n Γ hk};rw[hv];intro T H' y B e g;have g':Rp X.K T H' v y B:=g
  have nB:∀b,B b->¬ R i b:=λb z w=>by
   let(u,C):=l b w;rw[e.nb b z]at C;cases C
  refine{λb z=>?_,q (Fc (R i) T) (th (R i) H H') y B {λb u w=>?_,λb u w=>?_,λb u w=>?_,λb z=>?_,λb u w=>?_} ?_};let(u,C):=l b z;rw[C];exact e.hh b _ C;by_cases z:R i b;rw[JD z];exact w;rw[Fv z];exact e.hh b u (by rw[p z];exact w);have z:¬ R i b:=λz=>by rw[fA b z]at w;cases w
  unfold Fc;rw[if_neg z];exact e.ff b u<|M b u w
  unfold Fc at w;by_cases z:R i b;rw[if_pos z]at w;cases w;rw[if_neg z]at w;rw[Fv z];exact e.fh b u w;rw[<- p<|nB b z];exact e.nb b z;unfold Fc at w;by_cases z:R i b;rw[if_pos z]at w;cases w;rw[if_neg z]at w;rcases e.nf b u w with w|w;rw[FU z]at w;exact .inl w;rw[p z]at w;exact .inr w;refine g'.noR hn (λb z=>?_) nB;rcases V b z with ⟨xs,f⟩|⟨xs,f,j,c,ys,h1,U,h3⟩;let(o,_,w):=Ib (A:=R i) I z f;exact .inl {o,xs,e.ff b _ (by rw[Ec z];exact w)};let(o,_,w):=Ib (A:=R i) I U h3;exact .inr {xs,e.ff b _ (by rw[Ec z];exact P f),j,c,o,ys,h1,e.ff c _ (by rw[Ec U];exact w)}
def znz{X:Cx}{E:L2.St->XK}{ca:Str->Value}{m:AI}{e:Expr}{i:Nat}(d:PE X e<|tM X.K E ca m):PE X e<|tM X.K E ca<|Ds i m:=by
 intro j s O H Q I h;let(A,b,c,a):=UP I h;refine í (d j s O _ _ b c) (λu o g=>?_) λϊ ϊ z=>z
 let(l,n,Γ,k,hk,f):=g;exact{l,_,a Γ hk,k,f}
def zke{X:Cx}{E:L2.St->XK}{ca:Str->Value}{m:AI}{e:Expr}{i:Nat}(Z:PT X e<|BG X.K E ca m):PT X e<|BG X.K E ca<|Ds i m:=by
 intro pz s O H Q I h;let(F,Y,R,S,q):=h;cases o:Ds i m Y with
 |none=>rw[o]at q;symm|some r=>
  let(t,v,M,N,P,e4,rfl):=dF o;rw[o]at q;let(c,rfl):∃c,v=.bl c:=by cases v<;>first|exact⟨_,rfl⟩|symm
  have U:Ds i (λL=>match m L with|some (.v (.bl b) false)=>if b=c then ↑(.v (.bl b) false) else none|ϊ=>none) Y=↑(.v (.bl c) false):=by
   unfold Ds;erw[M,N,P,Ä];rfl
  let(A,G,(D,l,J,K,a),j):=UP (E:=E) (ca:=ca) (Q:=λv d=>∃f,v=V.bl f/\Q f d) I {F,Y,R,S,by
   rw[U];intro n d x B ex g;have T:Rp X.K n d (.bl c) x B:=g;cases T;exact{c,rfl,q n d ex}}
  have W:BG X.K E ca m O (fz A s.heap H)<|λf d=>(∀b,A b->d b=fz A s.heap H b)/\Q f (th A H d):=by
   refine{D,l,J,K,?_};simp only at a;cases C:m l with
   |none=>rw[C]at a;exact a.elim|some r=>
    rw[C]at a;cases r with
    |x f=>exact a.elim|v w b=>
     cases b with
     |true=>cases w<;>exact a.elim|false=>
      cases w with
      |bl b=>
       by_cases y:b=c;subst y;erw[reduceIte]at a;intro n d ex;let(k,f,e,p):=a n d (.bl b) R0 ex<|.bl b;cases e;exact{(k),p}
       erw[y,Ã]at a;exact a.elim
      |_=>exact a.elim
  refine í (Z pz s O _ _ G W) (λu s' hx=>?_) λϊ ϊ z=>z;let(d,Γ,hk,p):=hx;exact{_,j Γ hk,p}
def znk{X:Cx}{E:L2.St->XK}{ca:Str->Value}{m:AI}{st:Stmt}{i j:Nat}(n:PS X st<|HE (tM X.K E ca m)<|Gr j):PS X st<|HE (tM X.K E ca<|Ds i m)<|Gr j:=by
 intro o s O H D I h;let(A,g,k,a):=UP I h;refine í (n o s O _ { nx:=λe d=>(∀b,A b->d b=fz A s.heap H b)/\D.nx e (th A H d),rt:=λϊ ϊ=>False,bk:=λϊ ϊ=>False,ct:=λϊ ϊ=>False } g k) (λf p c=>?_) λϊ ϊ z=>z
 cases f with
 |next=>let(e,d,Γ,hk,l):=c;exact{e,_,a Γ hk,l}
 |brk=>let(_,_,_,z):=c;exact z.elim
 |cont=>let(_,_,_,z):=c;exact z.elim
 |ret u=>let(_,_,_,_,_,z):=c;exact z.elim
end Pu
namespace Zx
open PySem PySem.Spec PyProof.Rows L2 Zw
section
variable {M:Model}{prog:Program}{w:World}{A:Around}{E:Value->Shared->Prop}{env:Env}{nm q:Str}{C N:Addr}{bs bm:kc}{hdct:Bool}{sn:ki}{sub:kc}{ab:Bool}{col:Option Bool}{dd:Option Addr}{k0 k1 k2 k3 k5:Option Value}{newId:String}
variable {K:q9}{s:Shared}{e:Addr}{vs:Array Value}{sl:Array<|Option Value}{name:Str}{v:Value}
end
section
variable {K:q9}{prog:Program}{w:World}{A:Around}{E:Value->Shared->Prop}{s:Shared}{a C:Addr}{name:Str}{u:Value}
variable {X:Cx}{pz:List<|Addr×Obj}{O:L2.St}{H:Hp}{t:Addr}
end
section
variable {X:Cx}{E:L2.St->XK}{C:Addr}{x:Str}{p pos:Pos}{e:Expr}{t:TA}{k j:Nat}
end
section
variable {X:Cx}{pz:List<|Addr×Obj}{O:L2.St}{H:Hp}{s:Shared}{a C t:Addr}{dx:Option Addr}
variable {E:L2.St->XK}{e:Expr}{pos:Pos}{te:TE}
end
end Zx
namespace Pu
open PySem PySem.Spec PyProof.Rows L2 Zw Zx
def FW(t u:T):kr:=match t,u with
 |.nd ϊ .lst (ϋ::ό),.nd ύ .lst []=>↑(.bl false)|ϊ,ϋ=>Au t u
def zld(i:X.A.units+64<cLine):Aj X (compareOp .Eq)<|Bq X.K FW:=by
 intro t s O H x y v u Q I f g h;let(F,z,A,r,fh,r1,d,e,q):=h;unfold FW at e;split at e
 cases e;let(p,xs,rfl,rfl,m,k):=ED r1;let(D,E,rfl,rfl,n,l):=ED d;cases f;cases g;let(j,w,o,_):=I.list<|Ab.of<|fh _ _ m;let(c,b,a,_):=I.list<|Ab.of<|fh _ _ n;refine SeqAt.RcAt.lists_lengths o.isList a.isList ?_ (by lia) _ _ _ _ {.bl false,H,I,rfl,q.bl fh}
 have l1:=k.1;have l2:=l.1;have B:=w.length;have C:=b.length
 grind;exact Yn i t s O H x y v u Q I f g {F,z,A,_,fh,r1,d,e,q}
end Pu
noncomputable section
namespace Pu
open PySem PySem.Spec PyProof.Rows L2 Zw Zx
structure Fn where
 lv:Nat
 ps:ki
 g:qB->Option Ru
structure Gx where
 co:List (Str×T)
 cl:List (Str×Addr×ki)
 mt:List (Str×Addr×ki×Fn)
 nw:List (Str×Fn×List (Nat×qB))
 nr:Bool
 tx:Bool
 df:Bool
 sf:Option (Addr×ki)
 xs:List (Str×List (Str×Addr))
 sb:List (Str×List (Addr×Bool))
 sv:List (Str×List (Addr×Bool))
 no:Bool
 fo:ki
 ci:List (Str×List (Addr×Bool))
 x2:List (Str×Str×List (Str×Addr))
 gt:ki
 wd:List (Str×Fn)
 pn:ki
 ti:List Addr
 dn:List (Str×Fn×qB)
 rn:Option<|Addr×Nat
abbrev Bz:Gx:={[],[],[],[],false,true,true,none,[],[],[],true,[],[],[],[],[],[],[],[],none}
structure Gm where
 N:ki
 nm:List (Str×NameKind)
 ce:ki
 lv:Nat
 fns:List (Str×Fn)
 bl:ki
 ex:ki
 ow:ki
 pk:ki
 mu:Bool
 mus:List (Str×Fn)
 mv:ki
 dc:ki
 ox:Gx
def DJ(x:Str):Bool:=!(x == ("__debug__":Str)) && !(x == ("__classdict__":Str)) && !(x == ("__name__":Str))
def Pq(nm:List<|Str×NameKind)(x:Str):Bool:=nm.lookup x == ↑.local || nm.lookup x == ↑.cell || nm.lookup x == ↑.free
def Cf(nm:List<|Str×NameKind)(x:Str):Bool:=nm.lookup x == ↑.globalImplicit
def Dt(N:ki)(x:Str):Option Nat:=N.findIdx? (· == x)
def Gm.var(J:Gm)(x:Str):Option Nat:=if DJ x && Pq J.nm x then Dt J.N x else none
def Gm.loc(J:Gm)(x:Str):Bool:=DJ x && (J.nm.lookup x == ↑.local || J.ce.contains x)
def EO:Expr->Bool
 |.Starred ..=>false|ϊ=>true
def GB:Expr->Bool
 |.IfExp ..=>false|.NamedExpr ..=>false|ϊ=>true
def nmOf:Expr->Option (Str×Pos)
 |.Name x p=>↑(x,p)|ϊ=>none
def Pz:kg->ki
 |[]=>[]|e::a=>(match nmOf e with
  |some (x,ϊ)=>x::Pz a|none=>Pz a)
def Ej:Expr->ki
 |.Name x ϊ=>[x]|.Tuple a ϊ ϋ=>Pz a|ϊ=>[]
def zq6:Expr->Bool
 |.Tuple ..=>true|ϊ=>false
def Gj:Expr->Bool
 |.Slice ..=>true|ϊ=>false
def Ey(nm:List<|Str×NameKind):ki:=nm.filterMap λ(y,k)=>if k == .free then ↑y else none
def V4(nm:List<|Str×NameKind):ki:=nm.filterMap λ(y,k)=>if k == .cell then ↑y else none
def Ka(a outer:List<|Str×NameKind):List<|Str×NameKind:=a.map λ(n,k)=>if (k == .free && outer.lookup n == ↑.cell) then (n,.cell) else (n,k)
def LX(N:ki):ki->Option (kq)
 |[]=>↑[]|y::r=>(match Dt N y with
  |some i=>(match LX N r with
   |some l=>↑(i::l)|none=>none)
  |none=>none)
def L3(J:Gm)(a:Scope)(b:ki):Bool:=
 (a.kind == .function) && a.names.all (λx=>!(x.2 == .local) || a.names.lookup x.1 == ↑.local) &&
 a.names.all (λx=>!(x.2 == .free) || (a.names.lookup x.1 == ↑.free && (J.nm.lookup x.1 == ↑.cell || J.nm.lookup x.1 == ↑.free) && !(a.names.contains (x.1,NameKind.cell)))) &&
 decide b.Nodup && (V4 a.names).all (λy=>(Ka a.names J.nm).lookup y == ↑.cell)
def Gm.blk(J:Gm)(a:Scope)(b:ki):Gm:={ J with N:=b,nm:=Ka a.names J.nm,ce:=(V4 a.names).filter λy=>a.names.lookup y == ↑.cell,ow:=[],ox:={ J.ox with df:=false,nr:=true } }
def Sb:Expr->Bool
 |.Set ..=>false|ϊ=>true
def Gk:Expr->Bool
 |.ListComp ..=>true|.SetComp ..=>true|.DictComp ..=>true|ϊ=>false
def fD:Expr->Bool
 |.Attribute ..=>true|ϊ=>false
def gtN(J:Gm):Expr->Bool
 |.Name x ϊ=>J.ox.gt.contains x|ϊ=>false
def HM:Expr->Bool
 |.Call ϊ a ϋ ό=>!a.isEmpty|ϊ=>true
def OV(h:HM o=true):attributeBase o f env (eval o env)=eval o env:=by
 cases o with
 |Call g a b c=>
  cases a with
  |nil=>cases h|cons e a=>cases g<;>rfl
 |_=>rfl
def zfk(h:HM o=true)(a:((backTo pos<|starEach es env).all λx=>!x.1)=true)(d:es.length<30)(c:(ap.endLine == pos.line)=true):∃pl ,eval (.Call (.Attribute o f ap) es [] pos) env=(do
   let ov <- eval o env
   standAt ap.atName
   let (f,first) <- holding [ov] (getMethod ov f pl)
   callWith pos f first (backTo pos<|starEach es env) (backToKw pos<|keywordEach [] env)):=by
 refine{do let b <- importBound o env;pure (b.getD true),?_}
 have e:methodCallForm (es.length+([]:List Keyword).length) (backTo pos<|starEach es env) (backToKw pos<|keywordEach [] env)=true:=by
  unfold methodCallForm;rw[a];show(true && true && decide (es.length+0+0<30))=true;rw[Ç<|by lia];rfl
 rw[arm_eval_Call,OV h];unfold methodCall calleeOf methodCallPos;rw[e,c];rfl
structure GxOk(G:Gx)(lv:Nat)(P:Program)(w:World)(K:q9)(mg:Str->Option Value)(base:Heap)(ca:Str->Value):Prop where
 co:∀x t,G.co.lookup x=↑t->∃u v,mg x=↑u/\Ac v u/\∀F:Hp,Rp K F F t v R0
 cl:∀c∈G.cl,Cls K c.2.1/\∀f∈c.2.2,CB K c.2.1 f
 mt:∀c∈G.mt,c.2.2.2.lv<=lv/\Nonempty (MetX P w K mg base c.2.1 c.1 c.2.2.2.lv c.2.2.2.ps<|Bs K ca c.2.2.2.g)
 nw:∀x F ds,G.nw.lookup x=↑(F,ds)->F.lv+1<=lv/\∃(C:Addr) (D:NewX P w K mg base x C F.lv F.ps<|K4 K ca C F.g),∀k dts,ds.lookup k=↑dts->∃dvs us,DF K D.fd F.ps us/\Ag dvs us/\∀H:Hp,Ai K H dts dvs
 sf:∀C fs,G.sf=↑(C,fs)->Cls K C/\∀f∈fs,CB K C f
 xs:∀W cs,G.xs.lookup W=↑cs->∃T:ECls K mg W,∀c C,cs.lookup c=↑C->ca c=.ref C/\PySem.W.subIn K (.ref C) (.ref T.C)=↑true
 sb:∀D tb,G.sb.lookup D=↑tb->∃A:Addr,mg D=↑(.ref A)/\∀C b,tb.lookup C=↑b->ExcK K C/\PySem.W.kitOne K (.ref C) (.ref A)=↑b
 sv:∀D tb,G.sv.lookup D=↑tb->mg D=none/\∃t,bootBuiltins D=↑(.type t)/\∀C b,tb.lookup C=↑b->ExcK K C/\PySem.W.kitOne K (.ref C) (.type t)=↑b
 ci:∀x tb,G.ci.lookup x=↑tb->∃D:Addr,mg x=↑(.ref D)/\(∀C b,tb.lookup C=↑b->ICls K C/\PySem.W.kitOne K (.ref C) (.ref D)=↑b)/\(MV.all λa=>PySem.W.kitOne K (.type a) (.ref D) == ↑false)=true
 x2:∀W1 W2 cs,(W1,W2,cs)∈G.x2->∃(T1:ECls K mg W1) (T2:ECls K mg W2),∀c C,cs.lookup c=↑C->ca c=.ref C/\PySem.W.subIn K (.ref C) (.ref T1.C)=↑false/\PySem.W.subIn K (.ref C) (.ref T2.C)=↑true
 wd:∀x F,G.wd.lookup x=↑F->F.lv<=lv/\∃p,F.ps=[p]/\Nonempty (DefS P w K mg base F.lv x p<|Bs K ca F.g)
 ti:∀C∈G.ti,TiOk K C
 dn:∀x y,G.dn.lookup x=↑y->y.1.lv<=lv/\∃(D:DefX P w K mg base y.1.lv x y.1.ps<|Bs K ca y.1.g) (dvs:qA),DefsX K D.fd y.1.ps dvs/\∀H:Hp,Ai K H y.2 dvs
 rn:True
structure CxOk(J:Gm)(X:Cx)(E:L2.St->XK)(ca:Str->Value):Prop where
 N:X.N=J.N
 nd:J.N.Nodup
 nm:X.env.scope.names=J.nm
 kd:X.env.scope.kind=.function
 calm:X.calm=true
 room:Room J.lv X.A
 ce:∀x∈J.ce,X.fn x=true/\J.nm.lookup x=↑.cell
 bl:∀b∈J.bl,X.mg b=none
 ps:Ca X E
 po:J.ox.nr=false->PassesOwn (model X.prog X.w) X.A X.env X.xe
 md:J.ox.nr=false->WY X E
 mn:True
 fs:∀f F,J.fns.lookup f=↑F->F.lv<=J.lv/\Nonempty (DefX X.prog X.w X.K X.mg X.base F.lv f F.ps<|Bs X.K ca F.g)
 ex:∀c∈J.ex,∃T:ECls X.K X.mg c,ca c=.ref T.C/\Eb X.K T.C=↑none
 ms:∀f F,J.mus.lookup f=↑F->F.lv<=J.lv/\Nonempty (DefX X.prog X.w X.K X.mg X.base F.lv f F.ps<|G4 X.K ca F.g)
 gx:GxOk J.ox J.lv X.prog X.w X.K X.mg X.base ca
 tr:J.ox.df=true->X.stack=X.env::X.outer/\X.env.frame=↑X.env.locals
 fr:Iq X
def Hg(h:Dt N x=↑i):N[i]?=↑x:=by
 unfold Dt at h;let(a,b,_):=ĥ.mp h;rw[Á a];exact congrArg some<|eq_of_beq b
def Dp(h:DJ x=true):(x == "__debug__")=false/\(x == "__classdict__")=false/\x≠"__name__":=by
 unfold DJ at h;grind
def Wt(h:Pq sc.names x=true):EI sc x:=by
 unfold Pq at h;erw[ď,Ė]at h;rcases h with (h|h)|h;exact .inl h;exact .inr<|.inl h
 exact .inr<|.inr h
def Cu(h:EO e=true):starEach (e::es) env=(false,eval e env)::starEach es env:=by
 cases e<;>first|rfl|cases h
def G3:∀{es} {env} {pos},(∀e∈es,EO e=true)->(backTo pos<|starEach es env).any (·.1)=false
 |[],env,pos,ϊ=>rfl|e::es,env,pos,h=>by
  rw[Cu<|h e (Ë ..)];have b:=G3 (env:=env) (pos:=pos) λx a=>h x<|Ê _ a
  show(false || (backTo pos<|starEach es env).any (·.1))=false;grind
section
variable {J:Gm}{X:Cx}{E:L2.St->XK}{ca:Str->Value}
set_option tactic.hygienic true in
def CxOk.var(C:CxOk J X E ca){pos:Pos}(h:J.var x=↑i):X.N[i]?=↑x/\EI X.env.scope x/\(x == "__debug__")=false/\(x == "__classdict__")=false:=by
 unfold Gm.var at h;split at h;rename_i a;rw[Å]at a;let(b,c,d):=Dp a.1;exact{by rw[C.N];exact Hg h,Wt (by rw[C.nm];exact a.2),b,c}
 cases h
def CxOk.gl(C:CxOk J X E ca)(h:Cf J.nm x=true):Gl X x:=by
 show X.env.scope.names.lookup x=↑.globalImplicit;rw[C.nm];exact eq_of_beq h
def CxOk.loc(C:CxOk J X E ca)(h:J.loc x=true)(a:Dt J.N x=↑i):X.N[i]?=↑x/\GX X.env.scope x/\(X.fn x=true\/X.env.scope.names.lookup x=↑.local):=by
 unfold Gm.loc at h;erw[Å,ď,Ė]at h;refine{by rw[C.N];exact Hg a,?_};rcases h.2 with h|h;exact{.inl (by rw[C.nm];exact h),.inr (by rw[C.nm];exact h)};let(c1,c2):=C.ce x<|ô.mp h;exact{.inr (by rw[C.nm];exact c2),.inl c1}
def CxOk.nodup(C:CxOk J X E ca):X.N.Nodup:=by rw[C.N];exact C.nd
def dU(C:CxOk J X E ca)(b:J.loc x=true)(c:Dt J.N x=↑i):PG X (.Name x pos)<|Ek X.K<|AD i:=by
 let(g1,g2,a):=C.loc b c;exact g_nm C.nodup g1 g2 a
set_option tactic.hygienic true in
def kJ:∀{ys} {caps},LX N ys=↑caps->ys.length=caps.length/\∀(k j:Nat),caps[k]?=↑j->∃y,ys[k]?=↑y/\N[j]?=↑y
 |[],caps,h=>by cases h;exact{rfl,λk j e=>by simp at e}|y::r,caps,h=>by
  unfold LX at h;split at h;rename_i i c;split at h;rename_i l d;cases h;let(a,b):=kJ d;refine{by simp[a],λk j e=>?_}
  cases k with
  |zero=>simp at e;subst e;exact{y,rfl,Hg c}|succ k=>exact b k j<|by simpa using e
  cases h;cases h
def zgb(h:y∈Ey nm):(y,NameKind.free)∈nm:=by
 unfold Ey at h;grind
def kY(C:CxOk J X E ca)(h:L3 J scope (Ej tg++Ey scope.names)=true)(l:LX J.N (Ey scope.names)=↑caps):BlkOk X scope (Ej tg++Ey scope.names) (Ej tg).length caps:=by
 unfold L3 at h;erw[Å]at h;let((((f,g),i),n),o):=h;let(l1,l2):=kJ l
 have free:∀y∈scope.names,y.2=.free->scope.names.lookup y.1=↑.free/\(J.nm.lookup y.1=↑.cell\/J.nm.lookup y.1=↑.free)/\(y.1,NameKind.cell)∉scope.names:=λy a b=>by
  have q:=Ö.mp i y a;erw[b,î,Bool.not_true,Ŵ,Å,Ė,ď,ĺ]at q;refine{q.1.1,q.1.2,λz=>?_};have:=ô.mpr z;rw[this]at q;exact Bool.noConfusion q.2
 refine{eq_of_beq f,λy a m=>?_,by simp[l1],λk j e=>?_,λy a b=>?_};have q:=Ö.mp g y a;erw[m,î,Bool.not_true,Ŵ,Ė]at q;exact q;let(y,c,d):=l2 k j e;have fm:=zgb<|õ c;let(f1,_,f3):=free _ fm rfl;refine{y,by rw[C.N];exact d,?_,f1,f3}
 rw[Ħ<|by lia];simpa using c;let(f1,f2,_):=free y a b;refine{f1,?_};rw[C.nm];exact f2
def zhj(hk:env.scope.kind=.function):(relabel scope env).names=Ka scope.names env.scope.names:=by
 unfold relabel Ka;have e:(env.scope.kind == ScopeKind.function)=true:=by rw[hk];rfl
 erw[e,ŵ];rfl
theorem cS:True:=trivial
def k6(C:CxOk J X E ca){a:Scope}{c:ki}(h:L3 J a c=true)(cl)(A:Addr)(s₀:Shared)(H₀:Hp)(ex:List Addr)(xb)(g:Ca (Dw X a cl c A s₀ H₀ ex xb) E'):CxOk (J.blk a c) (Dw X a cl c A s₀ H₀ ex xb) E' ca:=by
 unfold L3 at h;erw[Å]at h;let((((d,j),k),e),f):=h;refine{rfl,ä e,?_,?_,C.calm,C.room,λx i=>?_,C.bl,g,λz=>(by cases z),λz=>(by cases z),cS,C.fs,C.ex,C.ms,{(C.gx.co),C.gx.cl,C.gx.mt,C.gx.nw,C.gx.sf,C.gx.xs,C.gx.sb,C.gx.sv,C.gx.ci,C.gx.x2,C.gx.wd,C.gx.ti,C.gx.dn,C.gx.rn},λz=>(by cases z),C.fr}
 show(relabel a X.env).names=Ka a.names J.nm;rw[zhj C.kd,C.nm];exact eq_of_beq d;have b:x∈(V4 a.names).filter λy=>a.names.lookup y == ↑.cell:=i;rw[Ľ]at b;refine{Ç<|eq_of_beq b.2,?_};exact eq_of_beq<|Ö.mp f x b.1
end
def Uj(h:Sb e=true)(x):foldedSetIterable e env x=pure x:=by
 cases e<;>first|rfl|cases h
theorem Mv(h:Gj k=false):KH k:=λo i=>by
 cases k<;>first|rfl|cases h
def DY{b:Bool}(h:(!b)=true):b=false:=by cases b<;>first|rfl|cases h
def gd{α:Type}:(b:Bool)->(b=true->Option α)->Option α
 |true,k=>k rfl|false,ϊ=>none
def oe{α β:Type}:(o:Option α)->((a:α)->o=↑a->β)->β->β
 |some a,k,ϊ=>k a rfl|none,ϊ,d=>d
abbrev ob{α β:Type}(o:Option α)(k:(a:α)->o=↑a->Option β):Option β:=oe o k none
structure ER(J:Gm)(e:Expr) where
 m:AI
 ok:∀{X:Cx} {E:L2.St->XK} {ca:Str->Value},CxOk J X E ca->PE X e (tM X.K E ca m)/\(GB e=true->PT X e (BG X.K E ca m))
structure AR(J:Gm)(es:kg) where
 m:BC
 ok:∀{X:Cx} {E:L2.St->XK} {ca:Str->Value},CxOk J X E ca->PA X es (CD X.K E ca m)
 st:∀e∈es,EO e=true
 nl:es=[]->m=AE
structure OR(J:Gm)(es:kg) where
 m:BC
 ok:∀{X:Cx} {E:L2.St->XK} {ca:Str->Value},CxOk J X E ca->PA X es (KZ X.K E ca m)
structure BR(J:Gm)(op:BoolOp)(es:kg) where
 m:AI
 ok:∀{X:Cx} {E:L2.St->XK} {ca:Str->Value} {pos:Pos},CxOk J X E ca->PE X (.BoolOp op es pos) (tM X.K E ca m)/\PW X (.BoolOp op es pos) (BG X.K E ca m)
structure PR(J:Gm)(o:Option Expr) where
 m:Option (AI)
 ok:∀{X:Cx} {E:L2.St->XK} {ca:Str->Value},CxOk J X E ca->PO X o (IA X.K m)
structure LR(J:Gm)(elt tg iter:Expr)(ifs:kg)(scope:Scope) where
 m:AI
 ok:∀{X:Cx} {E:L2.St->XK} {ca:Str->Value},CxOk J X E ca->∃caps mi b mt me,m=Az (Ej tg).length caps mi b mt me/\BlkOk X scope (Ej tg++Ey scope.names) (Ej tg).length caps/\PI X tg iter (tI X.K E ca mi) /\
   (∀E',AC X scope (Ej tg++Ey scope.names) E' λτ=>PG τ tg (Ek X.K b)/\Hu τ ifs (BG X.K E' ca mt)/\PE τ elt (tM X.K E' ca me))/\∀x,foldedSetIterable iter X.env x=pure x
structure IR(J:Gm)(tg e:Expr) where
 m:BC
 ok:∀{X:Cx} {E:L2.St->XK} {ca:Str->Value},CxOk J X E ca->PI X tg e (tI X.K E ca m)
 ns:Sb e=true
structure GR(J:Gm)(tg:Expr) where
 m:T->AM->Option AM
 ok:∀{X:Cx} {E:L2.St->XK} {ca:Str->Value},CxOk J X E ca->PG X tg (Ek X.K m)
structure GsR(J:Gm)(es:kg) where
 m:qB->AM->Option AM
 ok:∀{X:Cx} {E:L2.St->XK} {ca:Str->Value},CxOk J X E ca->EZ X es (IE X.K m)/\(assignEach es X.env).length=es.length/\(assignEach es X.env).findIdx? (·.1)=none
structure SR(J:Gm)(s:Stmt) where
 m:AG
 ok:∀{X:Cx} {E:L2.St->XK} {ca:Str->Value},CxOk J X E ca->PS X s (tS X.K E ca J.mu m)
structure QR(J:Gm)(ss:kh) where
 m:AG
 ok:∀{X:Cx} {E:L2.St->XK} {ca:Str->Value},CxOk J X E ca->B9 X ss (tS X.K E ca J.mu m)
structure Dc where
 e:(J:Gm)->(e:Expr)->Option (ER J e)
 a:(J:Gm)->(es:kg)->Option (AR J es)
 o:(J:Gm)->(es:kg)->Option (OR J es)
 b:(J:Gm)->(op:BoolOp)->(es:kg)->Option (BR J op es)
 s:(J:Gm)->(s:Stmt)->Option (SR J s)
 q:(J:Gm)->(ss:kh)->Option (QR J ss)
theorem ER.t(r:ER J e)(h:GB e=true)(C:CxOk J X E ca):PT X e<|BG X.K E ca r.m:=(r.ok C).2 h
def MX:Expr->Prop
 |.UnaryOp ..=>False|.BoolOp ..=>False|.IfExp ..=>False|.Compare ..=>False|ϊ=>True
def XB(h:MX e)(whole):isTrue e env whole=(do let v <- whole;standAt e.pos;holding [v] (truthy v)):=by
 cases e<;>first|rfl|exact False.elim h
def vl{J:Gm}{e:Expr}(m:AI)(h:∀{X:Cx} {E:L2.St->XK} {ca:Str->Value},CxOk J X E ca->PE X e (tM X.K E ca m))(t:MX e:=by trivial):Option<|ER J e:=↑{m,λC=>{h C,λϊ=>SK (h C)<|XB t}}
structure OG(op:Operator) where
 g:T->T->kr
 ok:∀{X:Cx},Aj X (binaryOp op)<|Bq X.K g
def opF:(op:Operator)->Option (OG op)
 |.Add=>↑{(BL),zlf}|.Sub=>↑{(EB),zl7}|.Mult=>↑{(Bl),zla}|.Mod=>↑{(BH),zlb}|.FloorDiv=>↑{(CK),zhy}|.Pow=>↑{(Eo),zl9}|.BitOr=>↑{(LZ),zle}|.BitAnd=>↑{(Ig),zhz}|.RShift=>↑{(IF),zl8}|ϊ=>none
structure CG(op:CmpOp) where
 g:T->T->kr
 ok:∀{J:Gm} {X:Cx} {E:L2.St->XK} {ca:Str->Value},CxOk J X E ca->Aj X (compareOp op) (Bq X.K g)
def kG:(op:CmpOp)->Option (CG op)
 |.Eq=>↑{Au,λC=>Yn C.room.units}|.NotEq=>↑{Cd,λC=>zp3 C.room.units}|.Lt=>↑{Br λi j=>decide (i<j),λϊ=>ND op_lt}|.LtE=>↑{Br λi j=>decide (i<=j),λϊ=>ND Ym}|.Gt=>↑{Br λi j=>decide (j<i),λϊ=>ND op_gt}|.GtE=>↑{Br λi j=>decide (j<=i),λϊ=>ND op_ge}|.Is=>↑{BD false,λϊ=>zp4}|.IsNot=>↑{BD true,λϊ=>zfg}|.In=>↑{De,λC=>zp5 C.room.units}|.NotIn=>↑{GC,λC=>zff C.room.units}
def kH:(op:CmpOp)->Option (CG op)
 |.LtE=>↑{GI,λϊ=>zlc}|op=>kG op
def eCst(J:Gm)(c:Const)(k:Nat)(pos:Pos):Option<|ER J<|.Constant c k pos:=match c with
 |.int i=>vl (mC<|.int i) λϊ=>Kb Τ λϊ ϊ=>.int i|.bool b=>vl (mC<|.bl b) λϊ=>Kb pe_bl λϊ ϊ=>.bl b|.none=>vl (mC .non) λϊ=>Kb Y9 λϊ ϊ=>.non|.str x=>vl (mC<|.str x) λϊ=>Kb Υ λϊ ϊ=>.str x|ϊ=>none
theorem CxOk.v(C:CxOk J X E ca)(h:J.var x=↑i):PE X (.Name x pos)<|tM X.K E ca<|AA i:=
 let ⟨h1,h2,h3,h4⟩:=C.var (pos:=pos) h
 YL h1 h2 h3 h4
def eNam(J:Gm)(x:Str)(pos:Pos):Option<|ER J<|.Name x pos:=oe (J.var x) (λi b=>vl (AA i) λC=>C.v b) (gd (DJ x && Cf J.nm x) λa=>ob (J.ox.co.lookup x) λt c=>vl (mC t) λC=>by
 rw[Å]at a;obtain⟨u,v,d,e,f⟩:=C.gx.co x t c;exact r_con (C.gl a.2) d e (Dp a.1).1 f)
def jU{J:Gm}{e:Expr}(t:MX e)(a:Option<|ER J e)(b:Option<|ER J e):Option<|ER J e:=a.bind λa=>match b with
 |some b=>vl (Cj a.m b.m) (λC=>SM (a.ok C).1 (b.ok C).1) t|none=>↑a
def VO{J:Gm}{o:Expr}{f:Str}{pos:Pos}(r:ER J o)(b:HM o=true):(L:List<|Str×Addr×ki)->(∀c∈L,c∈J.ox.cl)->Option (ER J<|.Attribute o f pos)
 |[],ϊ=>none|c::L,a=>oe (c.2.2.findIdx? (· == f)) (λj d=>jU trivial (vl (Ax c.2.1 c.2.2 j r.m) λC=>by
   obtain⟨e,g⟩:=C.gx.cl _<|a _ (Ë ..)
   have i:f∈c.2.2:=by
    obtain⟨k,l,_⟩:=ĥ.mp d;rw[<- eq_of_beq l];exact Ò k
   exact r_fld e (g f i) d (r.ok C).1 (OV b)) (VO r b L λc h=>a c<|Ê _ h))<|VO r b L λc h=>a c<|Ê _ h
def zlp(r:ER J o)(a:AR J es)(s:HM o=true)(p:(ap.endLine == pos.line)=true)(j:es.length<30)(m:(f,g)∈J.ox.mt)(l:g.2.1.contains f=false){X:Cx}   (C:CxOk J X E ca) :
  PE X (.Call (.Attribute o f ap) es [] pos) (tM X.K E ca<|Bm g.1 g.2.1 g.2.2.g r.m a.m):=by
 obtain⟨k,⟨D⟩⟩:=C.gx.mt _ m;have y:=(r.ok C).1;have w:=a.ok C;have i:=a.st;have d:=a.nl;generalize a.m=ms at w d
 clear a
 let(V,A):=zfk (f:=f) (ap:=ap) (pos:=pos) (es:=es) (env:=X.env) s (by
  have:=G3 (env:=X.env) (pos:=pos) i;rw[Ö];intro z U;rw[List.any_eq_false]at this
  simpa using this z U) j p
 cases es with
 |cons e es=>exact zny D l C.room C.ps y w k (Cu<|i e (Ë ..)) (G3 λx T=>i x<|Ê e T) A|nil=>
  refine PE.weak (pmx0 D C.room C.ps y k A) λO H Q h=>?_;let(F,Y,R,S,q):=XW l h;refine{F,Y,R,S,?_};cases m:r.m Y with
  |none=>rw[m]at q;exact q|some r=>
   rw[m]at q;cases r with
   |x c=>exact q|v t b=>intro G I x B L g1;let(a,K,n,M,N,P,u):=q G I x B L g1;refine{a,K,n,M,N,P,?_};rw[d rfl]at u;exact IB u
def VN{J:Gm}{o:Expr}{f:Str}{ap pos:Pos}{es:kg}(r:ER J o)(a:AR J es)(e:HM o=true)(d:(ap.endLine == pos.line)=true)(b:es.length<30):(L:List<|Str×Addr×ki×Fn)->(∀c∈L,c∈J.ox.mt)->Option (ER J<|.Call (.Attribute o f ap) es [] pos)
 |[],ϊ=>none|c::L,i=>if h:c.1=f/\c.2.2.1.contains f=false then jU trivial (vl (Bm c.2.1 c.2.2.1 c.2.2.2.g r.m a.m) λC=>zlp r a e d b (g:=c.2) (h.1▸i c (Ë ..)) h.2 C) (VN r a e d b L λc h=>i c<|Ê _ h) else VN r a e d b L λc h=>i c<|Ê _ h
def eAtt(D:Dc)(J:Gm)(o:Expr)(f:Str)(ap:Pos)(es:kg)(e:List Keyword)(c:Pos):Option<|ER J<|.Call (.Attribute o f ap) es e c:=match e with
 |[]=>gd (HM o && (ap.endLine == c.line) && decide (es.length<30)) λb=>(D.e J o).bind λr=>(D.a J es).bind λa=>
  have b:(HM o=true/\(ap.endLine == c.line)=true)/\es.length<30:=by
   rw[Å,Å,û]at b;exact b
  if d:f="index" then (match es,a with
   |[k],a=>(D.e J k).bind λmk=>vl (IT r.m mk.m) λC=>by
    subst d;exact zkf (r.ok C).1 (mk.ok C).1 (OV b.1.1) (Cu (es:=[])<|a.st k (Ë ..)) b.1.2
   |ϊ,ϋ=>none) else
  if d:f="join" then (match es,a with
   |[k],a=>(D.e J k).bind λmk=>vl (Ks r.m mk.m) λC=>by
    subst d;exact zo0 (r.ok C).1 (mk.ok C).1 (OV b.1.1) (Cu (es:=[])<|a.st k (Ë ..)) b.1.2
   |ϊ,ϋ=>none) else
  VN r a b.1.1 b.1.2 b.2 J.ox.mt λϊ h=>h
 |ϊ=>none
def cmpB(a:CmpOp)(b:Expr):Option<|CG a:=
 match a,b with
 |.Eq,.List [] ϊ=>↑{FW,λC=>zld C.room.units}|a,ϊ=>
 kG a
def eCmp(D:Dc)(J:Gm)(a:Expr)(j:List CmpOp)(bs:kg)(pos:Pos):Option<|ER J<|.Compare a j bs pos:=match j,bs with
 |[h],[b]=>gd (!(behindInMarks h b)) λd=>(cmpB h b).bind λg=>(D.e J a).bind λe=>(D.e J b).bind λf=>↑{B5 (g2 g.g)<|AB e.m<|AB f.m AE,λC=>
  have d:=DY d
  {r_cmp (g.ok C) (e.ok C).1 (f.ok C).1 d,λϊ=>znv (g.ok C) (e.ok C).1 (f.ok C).1 d}}
 |[h,i],[b,c]=>gd (!(lastMarks [h,i] [b,c])) λd=>(kH h).bind λg=>(kH i).bind λk=>(D.e J a).bind λe=>(D.e J b).bind λf=>(D.e J c).bind λl=>↑{Gd g.g k.g e.m f.m l.m,λC=>
  have d:=DY d
  {r_chn (g.ok C) (k.ok C) (e.ok C).1 (f.ok C).1 (l.ok C).1 d,λϊ=>znw (g.ok C) (k.ok C) (e.ok C).1 (f.ok C).1 (l.ok C).1 d}}
 |ϊ,ϋ=>none
def eUn(D:Dc)(J:Gm)(c:UnaryOp)(a:Expr)(pos:Pos):Option<|ER J<|.UnaryOp c a pos:=match c with
 |.USub=>(D.e J a).bind λr=>↑{B5 (g1 FK)<|AB r.m AE,λC=>
  have b:=r_un (pos:=pos) zjs (r.ok C).1
  {b,λϊ=>SK b λϊ=>rfl}}
 |.Not=>gd (GB a) λh=>(D.e J a).bind λr=>↑{BW r.m,λC=>{r_not (r.ok C).1,λϊ=>znu<|r.t h C}}|ϊ=>none
def dP(D:Dc)(J:Gm):(o:Option Expr)->Option (PR J o)
 |none=>↑{none,λϊ=>r_po0}|some e=>(D.e J e).bind λr=>↑{↑r.m,λC=>r_po1 (r.ok C).1}
def eIx(D:Dc)(J:Gm)(a k:Expr)(pos:Pos):Option<|ER J<|.Subscript a k pos:=gd (!(Gj k)) λc=>(D.e J a).bind λr=>(D.e J k).bind λb=>
 if fD a || gtN J a then vl (Ew r.m b.m) λC=>r_gt (by have:=C.room.units;lia) (r.ok C).1 (b.ok C).1 (Mv<|DY c) else
 vl (AJ r.m b.m) λC=>r_ix (r.ok C).1 (b.ok C).1 (Mv<|DY c)
def eSub(D:Dc)(J:Gm)(a k:Expr)(pos:Pos):Option<|ER J<|.Subscript a k pos:=match k with
 |.Slice d c st p=>(match st with
  |none=>(D.e J a).bind λr=>(dP D J d).bind λrl=>(dP D J c).bind λb=>if J.ox.tx then vl (Cj (FO r.m rl.m b.m)<|Fj r.m rl.m b.m) λC=>SM (YM (r.ok C).1 (rl.ok C) (b.ok C)) (zhl (r.ok C).1 (rl.ok C) (b.ok C)) else vl (FO r.m rl.m b.m) λC=>YM (r.ok C).1 (rl.ok C) (b.ok C)
  |ϊ=>none
  )
 |k=>eIx D J a k pos
def II(h:EO e=true):starEach [e] env=[(false,eval e env)]:=Cu h
section
variable {J:Gm}{f:Str}{p:Pos}{e:Expr}{es:kg}{pos:Pos}{X:Cx}{E:L2.St->XK}{ca:Str->Value}
theorem bF(a:AR J<|e::es)(b:DJ f=true)(h:Cf J.nm f=true)(c:J.bl.contains f=true)(C:CxOk J X E ca){id}(d:C4 X (.builtin id)<|Dl X.K g)(i:bootBuiltins f=↑(.builtin id)):PE X (.Call (.Name f p) (e::es) [] pos)<|tM X.K E ca<|B5 g a.m:=
 zo3 d (C.gl h) (C.bl f<|ô.mp c) i (a.ok C) (Dp b).2.2 (Dp b).1 (Cu<|a.st e (Ë ..)) (G3 λx j=>a.st x<|Ê e j)
theorem bTy(a:AR J<|e::es)(b:DJ f=true)(h:Cf J.nm f=true)(c:J.bl.contains f=true)(C:CxOk J X E ca){id}(d:C4 X (.type id)<|Dl X.K g)(i:bootBuiltins f=↑(.type id)):PE X (.Call (.Name f p) (e::es) [] pos)<|tM X.K E ca<|B5 g a.m:=
 YU d (C.gl h) (C.bl f<|ô.mp c) i (a.ok C) (Dp b).2.2 (Dp b).1 (Cu<|a.st e (Ë ..)) (G3 λx j=>a.st x<|Ê e j)
def OF(a:AR J<|e::es)(g:DJ f=true)(d:Cf J.nm f=true)(c:J.bl.contains f=true):Option<|ER J<|.Call (.Name f p) (e::es) [] pos:=
 if b:f="len" then vl (B5 (g1 BO) a.m) λC=>by subst b;exact bF a g d c C zh2 PySem.boot_len else
 if b:f="list" then vl (B5 (g1 DO) a.m) λC=>by subst b;exact bTy a g d c C kN ŋ else
 if b:f="abs" then vl (B5 (g1 O0) a.m) λC=>by subst b;exact bF a g d c C zh6 PyProof.Rows.boot_abs else
 if b:f="min" then vl (B5 (g2 Kp) a.m) λC=>by subst b;exact bF a g d c C (zh0 C.calm) PyProof.Rows.boot_min else
 if b:f="max" then vl (B5 Hl a.m) λC=>by subst b;exact bF a g d c C (zjm C.calm) PyProof.Rows.boot_max else
 if b:f="all" then vl (B5 (g1 GP) a.m) λC=>by subst b;exact bF a g d c C (zh5 C.calm) PyProof.Rows.boot_all else
 if b:f="any" then vl (B5 (g1 Ii) a.m) λC=>by subst b;exact bF a g d c C (zh4 C.calm) PyProof.Rows.boot_any else
 none
end
structure TyR(c:Str) where
 t:String
 ok:bootBuiltins c=↑(.type t)
def tyF(c:Str):Option<|TyR c:=
 if h:c="int" then ↑{"int",by subst h;exact PyProof.Rows.boot_int} else if h:c="bool" then ↑{"bool",by subst h;exact PyProof.Rows.boot_bool} else if h:c="str" then ↑{"str",by subst h;exact PyProof.Rows.boot_str} else
 if h:c="list" then ↑{"list",by subst h;exact ŋ} else if h:c="tuple" then ↑{"tuple",by subst h;exact PyProof.Rows.boot_tuple} else none
def eIs(D:Dc)(J:Gm)(p:Pos)(e:Expr)(es:kg)(pos:Pos)(d:Cf J.nm "isinstance"=true)(b:J.bl.contains "isinstance"=true):Option<|ER J<|.Call (.Name "isinstance" p) (e::es) [] pos:=match es with
 |[.Name c k]=>gd (Cf J.nm c && DJ c && EO e) λa=>(D.e J e).bind λr=>
  have a:(Cf J.nm c=true/\DJ c=true)/\EO e=true:=by
   rw[Å,Å]at a;exact a
  if g:J.bl.contains c=true then (tyF c).bind λt=>vl (B5 (g1<|DP t.t)<|AB r.m AE) λC=>
   r_isT t.ok (C.gl d) (C.bl _<|ô.mp b) (C.gl a.1.1) (C.bl _<|ô.mp g) (Dp a.1.2).2.2 (Dp a.1.2).1 (r.ok C).1 (Cu a.2)
  else ob (J.ox.ci.lookup c) λf h=>vl (B5 (g1<|LC f)<|AB r.m AE) λC=>by
   obtain⟨_,i,j⟩:=C.gx.ci c f h;exact r_isC j (C.gl d) (C.bl _<|ô.mp b) (C.gl a.1.1) i (Dp a.1.2).1 (r.ok C).1 (Cu a.2)
 |ϊ=>none
def eSet(D:Dc)(J:Gm)(p:Pos)(e:Expr)(pos:Pos)(d:Cf J.nm "len"=true)(c:J.bl.contains "len"=true):Option<|ER J<|.Call (.Name "len" p) [e] [] pos:=match e with
 |.Call (.Name x f) [a] [] g=>if h:x="set" then gd (Cf J.nm "set" && J.bl.contains "set" && EO a) λb=>(D.e J a).bind λr=>vl (B5 (g1 KU)<|AB r.m AE) λC=>by
   rw[Å,Å]at b;subst h;exact r_unq C.calm (C.gl d) (C.bl _<|ô.mp c) (C.gl b.1.1) (C.bl _<|ô.mp b.1.2) (r.ok C).1 (II b.2)
  else none
 |ϊ=>none
def eKys(D:Dc)(J:Gm)(p:Pos)(e:Expr)(pos:Pos)(f:DJ "list"=true)(d:Cf J.nm "list"=true)(g:J.bl.contains "list"=true):Option<|ER J<|.Call (.Name "list" p) [e] [] pos:=if h:fD e=true then (D.e J e).bind λr=>vl (Cj (B5 (g1 DO)<|AB r.m AE)<|Hb r.m) λC=>by
  have c:EO e=true:=by cases e<;>first|rfl|cases h
  have a:=λenv=>II (env:=env) c;have b:=ô.mp g;exact SM (YU kN (C.gl d) (C.bl _ b) ŋ (YT (r.ok C).1 YN (a _)) (Dp f).2.2 (Dp f).1 (a _) rfl)<|r_kys C.calm (C.gl d) (C.bl _ b) (r.ok C).1 (a _)
 else none
def jT(J:Gm)(f:Str)(p:Pos)(e:Expr)(es:kg)(pos:Pos)(a:AR J<|e::es)(g:DJ f=true)(c:Cf J.nm f=true):Option<|ER J<|.Call (.Name f p) (e::es) [] pos:=
 ob (J.fns.lookup f) λF b=>vl (AN F.g a.m) λC=>by
  obtain⟨d,⟨D⟩⟩:=C.fs f F b;exact zo2 D C.room C.ps (a.ok C) d (C.gl c) (Dp g).1 (Cu<|a.st e (Ë ..)) (G3 λx h=>a.st x<|Ê e h)
def eFn(J:Gm)(f:Str)(p:Pos)(e:Expr)(es:kg)(pos:Pos)(a:AR J<|e::es)(c:DJ f=true)(b:Cf J.nm f=true):Option<|ER J<|.Call (.Name f p) (e::es) [] pos:=
 oe (J.ox.nw.lookup f) (λF m=>ob (F.2.lookup (e::es).length) λd hd=>vl (IS F.1.g d a.m) λC=>by
   obtain⟨h,q,D,l⟩:=C.gx.nw f F.1 F.2 m;obtain⟨g,r,j,k,o⟩:=l _ _ hd;exact r_new D j k o C.room C.ps (a.ok C) h (C.gl b) (Dp c).1 (Cu<|a.st e (Ë ..)) (G3 λx i=>a.st x<|Ê e i)) <|
 oe (J.ox.dn.lookup f) (λy n=>if es.length+1+y.2.length=y.1.ps.length then vl (AN (gD y.2 y.1.g) a.m) λC=>by
   obtain⟨h,D,g,j,k⟩:=C.gx.dn f y n;exact zkh D j k C.room C.ps (a.ok C) h (C.gl b) (Dp c).1 (Cu<|a.st e (Ë ..)) (G3 λx i=>a.st x<|Ê e i)
  else jT J f p e es pos a c b) <|
 jT J f p e es pos a c b
def eCal(D:Dc)(J:Gm)(f:Str)(p:Pos)(es:kg)(g:List Keyword)(pos:Pos):Option<|ER J<|.Call (.Name f p) es g pos:=match es,g with
 |e::es,[]=>gd (DJ f && Cf J.nm f) λb=>
  have b:DJ f=true/\Cf J.nm f=true:=by
   rw[Å]at b;exact b
  if c:J.bl.contains f=true then
   (if d : f = "isinstance" then (match f, d, b, c with
    |_,rfl,b,c=>eIs D J p e es pos b.2 c) else
   match es with
   |[]=>
    (if d : f = "len" then (match f, d, b, c with
     |_,rfl,b,c=>(eSet D J p e pos b.2 c).orElse λϊ=>(D.a J [e]).bind λa=>OF a b.1 b.2 c) else
    if d:f="list" then (match f,d,b,c with
     |_,rfl,b,c=>
      (eKys D J p e pos b.1 b.2 c).orElse λϊ=>(D.a J [e]).bind λa=>OF a b.1 b.2 c) else
    (D.a J [e]).bind λa=>OF a b.1 b.2 c)
   |ϊ=>(D.a J _).bind λa=>OF a b.1 b.2 c)
  else (D.a J<|e::es).bind λa=>eFn J f p e es pos a b.1 b.2
 |ϊ,ϋ=>none
def j6(J:Gm):(es:kg)->Option (GsR J es)
 |[]=>↑{Ah,λϊ=>{(g_nil),rfl,rfl}}|e::es=>(match e with
  |.Name x p=>gd (J.loc x) λb=>ob (Dt J.N x) λi a=>(j6 J es).bind λr=>↑{AH (AD i) r.m,λ{X} {E} {ca} C=>by
   obtain⟨c,d,f⟩:=r.ok C;refine{zqd (dU C b a) c rfl,?_,?_};show(assignEach es X.env).length+1=es.length+1;rw[d];show List.findIdx? (·.1) ((false,assign (.Name x p) X.env)::assignEach es X.env)=none;rw[Ų,f]
   rfl}
  |ϊ=>none)
def dG(J:Gm):(tg:Expr)->Option (GR J tg)
 |.Name x ϊ=>gd (J.loc x) λc=>ob (Dt J.N x) λi b=>↑{AD i,λC=>dU C c b}|.Tuple a ϊ ϋ=>(j6 J a).bind λr=>↑{Ad a.length r.m,λC=>g_tup C.calm (r.ok C).1 (r.ok C).2.1 (r.ok C).2.2}|ϊ=>none
def iV(D:Dc)(J:Gm)(a e:Expr):Option<|IR J a e:=gd (Sb e) λh=>(D.e J e).bind λr=>if J.ox.tx then ↑{Aq r.m,λC=>zo1 (r.ok C).1,h} else ↑{Jd r.m,λC=>YQ (r.ok C).1,h}
def FQ(C:CxOk J X E ca)(h:(Cf J.nm f && J.bl.contains f)=true):Gl X f/\X.mg f=none:=by
 rw[Å]at h;exact{C.gl h.1,C.bl f<|ô.mp h.2}
def iRg(D:Dc)(J:Gm)(b a:Expr)(p c:Pos):Option<|IR J b<|.Call (.Name "range" p) [a] [] c:=gd (Cf J.nm "range" && J.bl.contains "range") λh=>(D.a J [a]).bind λr=>↑{C0 r.m,λC=>zhn (FQ C h).1 (FQ C h).2 (r.ok C) (Cu<|r.st a (Ë ..)),rfl}
def iEn(D:Dc)(J:Gm)(b a:Expr)(p c:Pos):Option<|IR J b<|.Call (.Name "enumerate" p) [a] [] c:=match b with
 |.Tuple ..=>gd (Cf J.nm "enumerate" && J.bl.contains "enumerate") λh=>(D.a J [a]).bind λr=>if J.ox.tx then ↑{fK r.m,λC=>r_enX (FQ C h).1 (FQ C h).2 (r.ok C) (Cu<|r.st a (Ë ..)),rfl} else
  ↑{EH r.m,λC=>YR (FQ C h).1 (FQ C h).2 (r.ok C) (Cu<|r.st a (Ë ..)),rfl}
 |ϊ=>none
def iRv(D:Dc)(J:Gm)(b a:Expr)(p c:Pos):Option<|IR J b<|.Call (.Name "reversed" p) [a] [] c:=gd (Cf J.nm "reversed" && J.bl.contains "reversed") λh=>(D.a J [a]).bind λr=>↑{Gq r.m,λC=>r_rvl (FQ C h).1 (FQ C h).2 (r.ok C) (Cu<|r.st a (Ë ..)),rfl}
def iR2(D:Dc)(J:Gm)(e a b:Expr)(p c:Pos):Option<|IR J e<|.Call (.Name "range" p) [a,b] [] c:=gd (Cf J.nm "range" && J.bl.contains "range") λh=>(D.a J [a,b]).bind λr=>↑{IZ r.m,λC=>
 have d:=λenv=>II (env:=env) (r.st b<|Ê _ (Ë ..))
 zhm (FQ C h).1 (FQ C h).2 (r.ok C) (by rw[Cu<|r.st a (Ë ..),d]) (d _),rfl}
def iZp(D:Dc)(J:Gm)(e a b:Expr)(p c:Pos):Option<|IR J e<|.Call (.Name "zip" p) [a,b] [] c:=match e with
 |.Tuple ..=>gd (Cf J.nm "zip" && J.bl.contains "zip") λh=>(D.a J [a,b]).bind λr=>↑{Gp r.m,λC=>
   have d:=λenv=>II (env:=env) (r.st b<|Ê _ (Ë ..))
   r_zip (FQ C h).1 (FQ C h).2 (r.ok C) (by rw[Cu<|r.st a (Ë ..),d]) (d _),rfl}
 |ϊ=>none
def dI(D:Dc)(J:Gm)(d e:Expr):Option<|IR J d e:=match e with
 |.Call (.Name f p) g i c=>(match g,i with
  |[a],[]=>if h:f="range" then (match f,h with|_,rfl=>iRg D J d a p c) else
   if h:f="enumerate" then (match f,h with|_,rfl=>iEn D J d a p c) else
   if h:f="reversed" then (match f,h with|_,rfl=>iRv D J d a p c) else
   iV D J d _
  |[a,b],[]=>
   if h:f="range" then (match f,h with|_,rfl=>iR2 D J d a b p c) else
   if h:f="zip" then (match f,h with|_,rfl=>iZp D J d a b p c) else
   iV D J d _
  |ϊ,ϋ=>iV D J d _)
 |e=>iV D J d e
def dC(D:Dc)(J:Gm)(k d e:Expr)(l:kg)(a:Scope):Option<|LR J k d e l a:=
 gd (L3 J a<|Ej d++Ey a.names) λm=>ob (LX J.N<|Ey a.names) λb p=>(dI D J d e).bind λf=>(dG (J.blk a<|Ej d++Ey a.names) d).bind λj=>(D.e (J.blk a<|Ej d++Ey a.names) k).bind λi=>match l with
  |[]=>↑{Az (Ej d).length b f.m j.m (mC<|.bl true) i.m,λ{X} {E} {ca} C=>{b,f.m,j.m,_,i.m,rfl,kY C m p,f.ok C,λh cl A s₀ H₀ ex o n=>
    have g:=k6 C m cl A s₀ H₀ ex o (E':=h) n
    {j.ok g,λr s O H Q I q=>zkm r s O H Q I<|QD (K:=X.K) (E:=h) (ca:=ca) q,(i.ok g).1},Uj f.ns}}
  |[c]=>gd (GB c) λhk=>(D.e (J.blk a<|Ej d++Ey a.names) c).bind λrt=>↑{Az (Ej d).length b f.m j.m rt.m i.m,λ{X} {E} {ca} C=>{b,f.m,j.m,rt.m,i.m,rfl,kY C m p,f.ok C,λh cl A s₀ H₀ ex o n=>
    have g:=k6 C m cl A s₀ H₀ ex o (E':=h) n
    {j.ok g,zkl<|rt.t hk g,(i.ok g).1},Uj f.ns}}
  |ϊ=>none
def eLC(D:Dc)(J:Gm)(d:Expr)(c:List Comprehension)(a:Scope)(pos:Pos):Option<|ER J<|.ListComp d c a pos:=match c with
 |[{l,e,f,0}]=>(dC D J d l e f a).bind λr=>vl r.m λC=>by
  obtain⟨g,m,b,mt,me,h,B,j,i,k⟩:=r.ok C;rw[h];exact r_lcV B (cq:=λX=>X.calm=true) (λϊ ϊ ϊ ϊ ϊ ϊ ϊ ϊ ϊ=>C.calm) (Y6 j) C.ps C.fr i k
 |ϊ=>none
def eIf(D:Dc)(J:Gm)(c a b:Expr)(pos:Pos):Option<|ER J<|.IfExp c a b pos:=gd (GB c) λh=>(D.e J c).bind λf=>(D.e J a).bind λd=>(D.e J b).bind λe=>↑{EG f.m d.m e.m,λC=>{r_ife (f.t h C) (d.ok C).1 (e.ok C).1,λz=>by cases z}}
def dEs(D:Dc)(J:Gm):(e:Expr)->Option (ER J e)
 |.Constant c k d=>eCst J c k d|.Name x d=>eNam J x d|.Attribute o f d=>gd (HM o) λh=>(D.e J o).bind λr=>VO r h J.ox.cl λϊ h=>h|.Call f j s c=>(match f with
  |.Attribute o f v=>eAtt D J o f v j s c|.Name f p=>eCal D J f p j s c|ϊ=>none)
 |.Compare a q bs d=>eCmp D J a q bs d|.BinOp a m b d=>(opF m).bind λg=>(D.e J a).bind λt=>(D.e J b).bind λu=>vl (B5 (g2 g.g)<|AB t.m<|AB u.m AE) λC=>r_bin g.ok (t.ok C).1 (u.ok C).1|.UnaryOp m a d=>eUn D J m a d|.BoolOp m w d=>(D.b J m w).bind λr=>↑{r.m,λC=>{(r.ok C).1,λϊ=>(r.ok C).2.pt}}|.IfExp c a b d=>eIf D J c a b d|.List j d=>(D.o J j).bind λr=>vl (BI r.m) λC=>r_lst (r.ok C)|.Tuple j k d=>(D.a J j).bind λr=>vl (BV r.m) λC=>r_tup (r.ok C)|.Subscript a k d=>eSub D J a k d|.ListComp n l i d=>eLC D J n l i d|.Dict [] [] d=>vl IU λϊ=>YS|ϊ=>none
def dAs(D:Dc)(J:Gm):(es:kg)->Option (AR J es)
 |[]=>↑{AE,λϊ=>YN,λϊ h=>(by cases h),λϊ=>rfl}|e::es=>gd (EO e) λh=>(D.e J e).bind λr=>(D.a J es).bind λa=>↑{AB r.m a.m,λC=>YT (r.ok C).1 (a.ok C) (Cu h),λx b=>(Ì.mp b).elim (λz=>z▸h) (a.st x),λz=>by cases z}
def dOs(D:Dc)(J:Gm):(es:kg)->Option (OR J es)
 |[]=>↑{AE,λϊ=>znx}|e::es=>gd (EO e) λh=>(D.e J e).bind λr=>(D.o J es).bind λa=>↑{BA r.m a.m,λC=>zkg (r.ok C).1 (a.ok C) (Cu h)}
def dBs(D:Dc)(J:Gm)(d:BoolOp):(es:kg)->Option (BR J d es)
 |[]=>none|[a]=>gd (GB a) λh=>(D.e J a).bind λr=>↑{r.m,λC=>{r_one (r.ok C).1,by
   cases d with
   |And=>exact zkd (r.t h C)|Or=>exact zkc<|r.t h C}}
 |a::b::es=>gd (GB a) λh=>(D.e J a).bind λr=>(D.b J d<|b::es).bind λc=>match d,c with
  |.And,c=>↑{Bg r.m c.m,λC=>{r_and (r.ok C).1 (c.ok C).1,znt (r.t h C) (c.ok C).2}}|.Or,c=>↑{B0 r.m c.m,λC=>{r_or (r.ok C).1 (c.ok C).1,r_wor (r.t h C) (c.ok C).2}}
def pkB:ki:=["len","isinstance","all","any","abs","min","max","int"]
def isLC:Expr->Bool
 |.ListComp ..=>true|ϊ=>false
def Bv:Nat->ki->Expr->ki
 |0,ϊ,ϋ=>[]|n+1,pk,e=>
  let g:=λ(x:Expr)=>match x with
   |.Name ϊ ϋ=>[]|x=>Bv n pk x
  match e with
  |.Name x ϊ=>[x]|.BinOp a ϊ b ϋ=>Bv n pk a++Bv n pk b|.UnaryOp ϊ a ϋ=>Bv n pk a|.BoolOp ϊ o ϋ=>o.flatMap (Bv n pk)|.Compare a ϊ bs ϋ=>g a++bs.flatMap g|.IfExp c a b ϊ=>Bv n pk c++Bv n pk a++Bv n pk b|.Call (.Name f ϊ) d [] ϋ=>if pkB.contains f || pk.contains f then d.flatMap g else d.flatMap (Bv n pk)
  |.Call (.Attribute ϊ ϋ ό) d [] ύ=>d.flatMap λa=>if isLC a then Bv n pk a else []
  |.Subscript a k ϊ=>(match k with
   |.Slice m l ϊ ϋ=>Bv n pk a++(match m with|some e=>Bv n pk e|none=>[])++(match l with|some e=>Bv n pk e|none=>[])
   |ϊ=>g a++Bv n pk k)
  |.List j ϊ=>j.flatMap (Bv n pk)|.Tuple j ϊ ϋ=>j.flatMap (Bv n pk)|.ListComp _ [{_,i,_,_}] h _=>Bv n pk i++Ey h.names|ϊ=>[]
def Ww(pk:ki):Stmt->ki
 |.Expr (.Call (.Attribute (.Name ϊ ϋ) ό ύ) [e] [] ώ) Ϗ=>Bv 40 pk e|.Expr e ϊ=>Bv 40 pk e|.Return (↑(.Name ϊ ϋ)) ό=>[]|.Return ↑e ϊ=>Bv 40 pk e|.Assign [.Subscript (.Subscript ϊ k ϋ) j ό] e ύ=>Bv 40 pk k++Bv 40 pk j++Bv 40 pk e|.Assign [.Subscript ϊ k ϋ] e ό=>Bv 40 pk k++Bv 40 pk e|.Assign [ϊ] e ϋ=>Bv 40 pk e|.If c ϊ ϋ ό=>Bv 40 pk c|.For ϊ it ϋ ό ύ=>Bv 40 pk it|.While c ϊ ϋ ό=>Bv 40 pk c|ϊ=>[]
def e9:Stmt->Bool
 |.If ..=>true|ϊ=>false
def isAsg:Stmt->Bool
 |.Assign [.Name ..] ..=>true|.Expr (.Call (.Attribute (.Name ..) f ϊ) [ϋ] [] ό) ύ=>f == "extend"|ϊ=>false
def mvN:Stmt->Option Str
 |.Assign [.Name ..] (.List [ϊ,ϋ,.Name y ό] ύ) ώ=>↑y|ϊ=>none
def frzs(J:Gm)(s:Stmt):kq:=((if e9 s then J.ox.gt++Ww J.pk s else Ww J.pk s).filter λx=>J.ow.contains x && !((isAsg s || e9 s) && (J.mv.contains x || (J.ox.fo.contains x && mvN s == ↑x)))).eraseDups.filterMap (Dt J.N)
def subN:Expr->ki
 |.Call ϊ a ϋ ό=>a.filterMap fun
  |.Subscript (.Name x ϊ) ϋ ό=>↑x|ϊ=>none
 |ϊ=>[]
def J6(J:Gm)(e:Expr):kq:=((Bv 40 J.pk e++subN e).filter λx=>J.ow.contains x && J.mv.contains x).eraseDups.filterMap (Dt J.N)
def He(l:kq)(m:AI):AI:=l.foldr Ds m
def Mr{X:Cx}{E:L2.St->XK}{ca:Str->Value}{m:AI}{e:Expr}(a:PE X e<|tM X.K E ca m):∀l,PE X e<|tM X.K E ca<|He l m
 |[]=>a|i::r=>znz<|Mr a r
def Xu{X:Cx}{E:L2.St->XK}{ca:Str->Value}{m:AI}{st:Stmt}{j:Nat}(a:PS X st<|HE (tM X.K E ca m)<|Gr j):∀l,PS X st<|HE (tM X.K E ca<|He l m)<|Gr j
 |[]=>a|i::r=>znk<|Xu a r
def YO{X:Cx}{E:L2.St->XK}{ca:Str->Value}{m:AI}{e:Expr}(a:PT X e<|BG X.K E ca m):∀l,PT X e<|BG X.K E ca<|He l m
 |[]=>a|i::r=>zke<|YO a r
def Ue(l:kq)(m:AG):AG:=l.foldr (λi m=>AF (Ff i) m) m
def M3(J:Gm)(x:Str)(px:Pos):Expr->Bool
 |.ListComp ϊ ϋ a p=>J.nm.lookup x == ↑.local && px.line == p.line && !(a.names.any λ(n,k)=>n == x && (k == .local || k == .cell))|ϊ=>false
def X5(J:Gm)(x:Str):Bool:=J.nm.lookup x == ↑.cell
def JN(J:Gm)(x:Str)(i:Nat)(m:AI):AG:=if J.ow.contains x then CU i m else AS m (AD i)
def Cw(c:Str)(ms:BC):AG:=λY=>match ms Y with
 |some (.v a ϊ)=>if a.length<=Bh then ↑(.xc c Y) else none
 |some (.x c)=>↑(.xc c Y)|none=>none
def Mz(J:Gm)(x y:Str)(px c:Pos)(a b:Expr):Bool:=
 J.nm.lookup x == ↑.local && J.nm.lookup y == ↑.local && px.line == c.line && !(x == y) && EO a && EO b && !(foldedForSure 8 a && foldedForSure 8 b) && !(constantsAlone 8 a && constantsAlone 8 b) && DJ x && DJ y
section
variable {X:Cx}{E:L2.St->XK}{ca:Str->Value}{J:Gm}{mu:Bool}
def Qp{rest}(h:B9 X rest<|tS X.K E ca mu w):∀l ,B9 X rest<|tS X.K E ca mu<|Ue l w
 |[]=>h|i::r=>s_frz<|Qp h r
def M4(h:Gk e=false):swapsWith e t l env=pure false:=by
 cases e<;>first|rfl|cases h
def kX{env:Env}(h:env.scope.kind=.function):env.blockKind=.function:=by
 unfold Env.blockKind;rw[h];rfl
def zhf(C:CxOk J X E ca){p px:Pos}{x:Str}{l:Nat}(h:M3 J x px (.ListComp elt gens scope p)=true):swapsWith (.ListComp elt gens scope p) (↑(.Name x px)) l X.env=pure true:=by
 have e:swapsWith (.ListComp elt gens scope p) (↑(.Name x px)) l X.env=pure (X.env.blockKind == .function && X.env.kindOf x == ↑.local && px.line == p.line && !(scope.names.any λ(n,k)=>n == x && (k == .local || k == .cell))):=rfl;rw[e];unfold M3 at h
 erw[Å]at h;have k:X.env.kindOf x=↑.local:=by
  show X.env.scope.names.lookup x=↑.local;rw[C.nm];exact eq_of_beq h.1.1
 rw[kX C.kd,k,h.1.2,h.2];rfl
def zjy(C:CxOk J X E ca){px}(h:X5 J x=true):swapsWith e (↑(.Name x px)) l X.env=pure false:=by
 have k:X.env.kindOf x=↑.cell:=by
  show X.env.scope.names.lookup x=↑.cell;rw[C.nm];exact eq_of_beq h
 have c:(↑NameKind.cell == ↑NameKind.local)=false:=rfl;cases e<;>first|rfl|(unfold swapsWith;erw[k,c,Bool.and_false,Ĭ])
def ze9(C:CxOk J X E ca){px py pt p2}(h:Mz J x y px py a b=true):swappedStores [.Tuple [.Name x px,.Name y py] kt pt] (.Tuple [a,b] k2 p2) X.env=pure (↑[x,y]):=by
 unfold Mz at h;erw[Å,ĺ,Ė]at h;let(((((((((e,f),g),c),i),j),k),l),_),_):=h
 have m:X.env.kindOf x=↑.local:=by
  show X.env.scope.names.lookup x=↑.local;rw[C.nm];exact e
 have n:X.env.kindOf y=↑.local:=by
  show X.env.scope.names.lookup y=↑.local;rw[C.nm];exact f
 have d:[x,y].eraseDups=[x,y]:=by
  have:(y == x)=false:=by
   rw[Δ]at c ⊢;exact Í c
  simp[List.eraseDups_cons,this,c]
 have f1:(if (X.env.kindOf x == ↑NameKind.local && px.line == px.line)=true then ↑x else none)=↑x:=by rw[m,î,î];rfl
 have f2:(if (X.env.kindOf y == ↑NameKind.local && py.line == px.line)=true then ↑y else none)=↑y:=by rw[n,î,<- g,î];rfl
 unfold swappedStores;dsimp only[List.length,List.any,List.all,List.filterMap,List.head?,Option.map,Option.getD,Expr.pos];erw[f1,f2,d];refine(if_neg ?_).trans ((if_neg ?_).trans ((if_neg ?_).trans ((if_neg ?_).trans (if_neg ?_))));rw[kX C.kd];decide
 .intro z;rw[Bool.or_false,ď]at z
  rcases z with z|z
  .cases a<;>first|(cases i;done)|(cases z;done)
  .cases b<;>first|(cases j;done)|(cases z;done)
 show ¬ ((2 != 2 || 2 != 2)=true);decide;rw[ŵ,k];exact ö;rw[ŵ,l];exact ö
def Mb(h:Gk e=false):swapsWithSole [t] e l env=pure false:=M4 h
def M5(h:Gj k=false)(v):assign (.Subscript o k pos) env v=(do
   let ov <- holding [v]<|eval o env;let iv <- holding [v,ov] (eval k env)
   standAt pos
   holding [v,ov,iv] (setItem ov iv v)
   release [v,ov,iv] []):=by
 cases k<;>first|rfl|cases h
def s_rse(C:CxOk J X E ca)(g:J.ox.nr=false)(i:G7 c=none)(s:c∈J.ex)(t:Cf J.nm c=true)(u:DJ c=true)(o:PA X (e::es)<|CD X.K E ca ms)(m:∀x∈e::es,EO x=true) :
  PS X (.Raise (↑(.Call (.Name c p) (e::es) [] cpos)) none pos) (tS X.K E ca mu<|Cw c ms):=by
 let(T,n,f):=C.ex c s;let(w,z,A):=Dp u;refine PS.weak (zhr T f C.calm (C.md g) o (C.gl t) w (Cu<|m e (Ë ..))<|G3 m) λD O H h=>?_
 let(F,Y,R,S,q):=h;refine{F,Y,R,S,?_};unfold Cw at q;cases l:ms Y with
 |none=>erw[l]at q<;>symm|some r=>
  erw[l]at q;cases r with
  |x c=>exact λa d e=>q a d O R e.stp0 (S.ext e)|v y b=>
   intro a d xs k rs;by_cases j:y.length<=Bh;erw[j,Ä]at q;refine{by rw[<- rs.1,<- GH];exact j,?_};have:=(q a d O R k.stp0<|S.ext k).plain i;rw[n]at this;exact this;erw[j,Ã]at q<;>symm
end
def lD{px pos}(f:J.loc x=true)(d:Dt J.N x=↑i)(C:CxOk J X E ca)(b:PE X e<|tM X.K E ca m)(c:∀l,swapsWith e (↑(.Name x px)) l X.env=pure false) :
  PS X (.Assign [.Name x px] e pos) (tS X.K E ca mu<|JN J x i m):=by
 let(g1,g2,a):=C.loc f d;unfold JN;split;exact znj C.nodup g1 g2 b (c _) a;exact Xo C.nodup g1 g2 b (c _) a
def aLC(D:Dc)(J:Gm)(x:Str)(i:Nat)(px pos:Pos)(t:Dt J.N x=↑i):(e:Expr)->Option (SR J<|.Assign [.Name x px] e pos)
 |.ListComp f j a p=>gd (M3 J x px<|.ListComp f j a p) λl=>(match j,l with
  |[{n,d,k,0}],l=>(dC D J f n d k a).bind λr=>↑{
   JN J x i (He (J6 J<|.ListComp f [{n,d,k,0}] a p) r.m)
   ,λ{X} {E} {ca} C=>by
   have v:X.env.scope.names.lookup x=↑.local:=by
    unfold M3 at l;erw[Å]at l;rw[C.nm];exact eq_of_beq l.1.1
   have q:X.N[i]?=↑x:=by rw[C.N];exact Hg t
   obtain⟨o,w,b,mt,me,h,B,m,s,u⟩:=r.ok C;rw[h];have c:=r_lcS (pos2:=pos) B C.calm m C.ps C.fr s u C.nodup q v<|zhf C l;have c:=Xu c<|J6 J<|.ListComp f [{n,d,k,0}] a p;unfold JN;split
   exact PS.weak c λD O H h=>XJ h
   exact PS.weak c λD O H h=>QA (g:=Gr i) (λϊ ϊ ϊ ϊ z=>fX z) h}
  |ϊ,ϋ=>none)
 |ϊ=>none
def aNm(D:Dc)(J:Gm)(x:Str)(px:Pos)(e:Expr)(pos:Pos):Option<|SR J<|.Assign [.Name x px] e pos:=gd (J.loc x) λb=>ob (Dt J.N x) λi a=>
 if c:Gk e=false then (D.e J e).bind λr=>↑{JN J x i<|He (J6 J e) r.m,λC=>lD b a C (Mr (r.ok C).1 _) λϊ=>M4 c}
 else if d:X5 J x=true then (D.e J e).bind λr=>↑{JN J x i<|He (J6 J e) r.m,λC=>lD b a C (Mr (r.ok C).1 _) λϊ=>zjy C d}
 else aLC D J x i px pos a e
def aPar(D:Dc)(J:Gm)(x y:Str)(px h:Pos)(n:Nat)(pt:Pos)(a b:Expr)(k2:Nat)(o pos:Pos):Option<|SR J<|.Assign [.Tuple [.Name x px,.Name y h] n pt] (.Tuple [a,b] k2 o) pos:=gd (Mz J x y px h a b) λg=>ob (Dt J.N x) λi l=>ob (Dt J.N y) λj m=>(D.a J [a,b]).bind λr=>↑{K5 i j r.m,λ{X} {E} {ca} C=>by
 have c:=g;unfold Mz at c;erw[Å,ĺ,Ė]at c;obtain⟨⟨⟨⟨⟨⟨⟨⟨⟨g1,g2⟩,p⟩,k⟩,_⟩,_⟩,_⟩,_⟩,_⟩,_⟩:=c;have f:X.N[i]?=↑x:=by rw[C.N];exact Hg l
 have d:X.N[j]?=↑y:=by rw[C.N];exact Hg m
 have e:i≠j:=λz=>by
  subst z;rw[f]at d;cases d;simp at k
 exact s_par C.calm C.nodup f d e (by rw[C.nm];exact g1) (by rw[C.nm];exact g2) (r.ok C) (ze9 C g) rfl}
def aTup(D:Dc)(J:Gm)(ts:kg)(b:Nat)(pt:Pos)(e:Expr)(pos:Pos):Option<|SR J<|.Assign [.Tuple ts b pt] e pos:=gd (!(zq6 e || Gk e)) λd=>(dG J<|.Tuple ts b pt).bind λc=>(D.e J e).bind λr=>↑{AS r.m c.m,λC=>by
 have a:=DY d;rw[Ċ]at a;refine zng (r.ok C).1 (c.ok C) (Mb a.2) ?_ rfl;have f:=a.1;cases e<;>first|rfl|cases f}
def aTp(D:Dc)(J:Gm)(ts:kg)(c:Nat)(pt:Pos)(e:Expr)(pos:Pos):Option<|SR J<|.Assign [.Tuple ts c pt] e pos:=
 match ts,e with
 |[.Name x px,.Name y g],.Tuple [a,b] d f=>aPar D J x y px g c pt a b d f pos|ts,e=>
 aTup D J ts c pt e pos
def soleX:swapsWithSole [.Subscript a k p] e l env=pure false:=by
 cases e<;>rfl
def aDps(D:Dc)(J:Gm)(x:Str)(a:Pos)(j:Expr)(f:Pos)(e:Expr)(pos:Pos):Option<|SR J<|.Assign [.Subscript (.Name x a) j f] e pos:=gd (!(Gj j)) λc=>ob (J.var x) λi d=>(D.e J j).bind λb=>(D.e J e).bind λr=>↑{JL i b.m r.m,λC=>by
 obtain⟨g,h,k,l⟩:=C.var (pos:=a) d;refine s_dps (by have:=C.room.units;lia) g h k l (r.ok C).1 (b.ok C).1 soleX ?_ (M5<|DY c)
 cases e<;>rfl}
def aSto(D:Dc)(J:Gm)(x:Str)(b:Pos)(j:Expr)(g:Pos)(e:Expr)(pos:Pos):Option<|SR J<|.Assign [.Subscript (.Name x b) j g] e pos:=gd (!(Gj j || Gk e)) λd=>ob (J.var x) λi f=>(D.e J j).bind λc=>(D.e J e).bind λr=>↑{IH i c.m r.m,λC=>by
 have a:=DY d;rw[Ċ]at a;obtain⟨h,k,l,m⟩:=C.var (pos:=b) f;refine s_sto h k l m (r.ok C).1 (c.ok C).1 (Mb a.2) ?_ (M5 a.1);cases e<;>rfl}
def aSt2(D:Dc)(J:Gm)(x:Str)(c:Pos)(b:Expr)(h:Pos)(j:Expr)(k:Pos)(e:Expr)(pos:Pos):Option<|SR J<|.Assign [.Subscript (.Subscript (.Name x c) b h) j k] e pos:=gd (!(Gj b || Gj j || Gk e)) λf=>ob (J.var x) λi g=>(D.e J b).bind λr0=>(D.e J j).bind λd=>(D.e J e).bind λr=>↑{JJ i r0.m d.m r.m,λC=>by
 have a:=DY f;rw[Ċ,Ċ]at a;obtain⟨l,m,n,o⟩:=C.var (pos:=c) g;refine znf l m n o (r.ok C).1 (r0.ok C).1 (d.ok C).1 (Mv a.1.1) (Mb a.2) ?_ (M5 a.1.2);cases e<;>rfl}
def UZ{fs:ki}(h:fs.findIdx? (· == f)=↑j):f∈fs/\fs[j]?=↑f:=by
 let(a,b,_):=ĥ.mp h;have e:fs[j]?=↑f:=by rw[Á a];exact congrArg some<|eq_of_beq b
 exact{õ e,e}
def aDpf(D:Dc)(J:Gm)(x f:Str)(d p:Pos)(j:Expr)(q:Pos)(e:Expr)(pos:Pos):Option<|SR J<|.Assign [.Subscript (.Attribute (.Name x d) f p) j q] e pos:=gd (!(Gj j || Gk e)) λh=>ob J.ox.sf λc l=>ob (J.var x) λi k=>ob (c.2.findIdx? (· == f)) λm b=>(D.e J j).bind λg=>(D.e J e).bind λr=>↑{JM c.1 c.2 m i g.m r.m,λC=>by
 have a:=DY h;rw[Ċ]at a;obtain⟨s,t,u,v⟩:=C.var (pos:=d) k;obtain⟨n,o⟩:=C.gx.sf c.1 c.2 l;refine s_dpf (by have:=C.room.units;lia) n (o f (UZ b).1) b s t u v (r.ok C).1 (g.ok C).1 (Mb a.2) ?_ (M5 a.1)
 cases e<;>rfl}
def jH(h:J.ox.sf=↑c)(g:J.var x=↑i)(hj:c.2.findIdx? (· == f)=↑jj)(b:(!((c.2.take jj).contains f || !(decide (jj<900))))=true)(C:CxOk J X E ca)(d:PE X e<|tM X.K E ca m) :
  PS X (.Assign [.Attribute (.Name x p1) f p2] e pos) (tS X.K E ca J.mu<|Cy c.1 c.2 jj i m):=by
 have a:=DY b;rw[Ċ,Bool.not_eq_false',û]at a;let(c1,c2):=a;let(l,n,o,p):=C.var (pos:=p1) g;let(j,k):=C.gx.sf c.1 c.2 h;exact znl j (k f (UZ hj).1) (UZ hj).2 c1 c2 l n o p d (by cases e<;>rfl)
def aFl(D:Dc)(J:Gm)(x f:Str)(j k:Pos)(e:Expr)(pos:Pos):Option<|SR J<|.Assign [.Attribute (.Name x j) f k] e pos:=ob J.ox.sf λc h=>ob (J.var x) λi d=>ob (c.2.findIdx? (· == f)) λb g=>gd (!((c.2.take b).contains f || !(decide (b<900)))) λa=>match e,a with
 |.Dict [] [] p,a=>↑{Cy c.1 c.2 b i IU,λC=>jH h d g a C YS}|e,a=>(D.e J e).bind λr=>↑{Cy c.1 c.2 b i r.m,λC=>jH h d g a C (r.ok C).1}
def aSub(D:Dc)(J:Gm)(a j:Expr)(c:Pos)(e:Expr)(pos:Pos):Option<|SR J<|.Assign [.Subscript a j c] e pos:=match a with
 |.Name x b=>
  if J.dc.contains x then aDps D J x b j c e pos else
  aSto D J x b j c e pos
 |.Subscript (.Name x b) g d=>aSt2 D J x b g d j c e pos|.Attribute (.Name x b) f d=>aDpf D J x f b d j c e pos|ϊ=>none
def dAsg(D:Dc)(J:Gm)(ts:kg)(e:Expr)(pos:Pos):Option<|SR J<|.Assign ts e pos:=match ts with
 |[t]=>(match t with
  |.Name x px=>aNm D J x px e pos|.Tuple ts b pt=>aTp D J ts b pt e pos|.Subscript a j g=>aSub D J a j g e pos|.Attribute o f d=>(match o with
   |.Name x c=>aFl D J x f c d e pos|ϊ=>none)
  |ϊ=>none)
 |ϊ=>none
def Wh(D:Dc)(J:Gm)(e:Expr)(pos:Pos):Option<|SR J<|.Expr e pos:=gd (!(Gk e)) λa=>(D.e J e).bind λr=>↑{IJ r.m,λC=>s_exp (r.ok C).1 (M4<|DY a)}
def xApp(D:Dc)(J:Gm)(x:Str)(p:Pos)(f:Str)(b:Pos)(a:Expr)(c pos:Pos):Option<|SR J<|.Expr (.Call (.Attribute (.Name x p) f b) [a] [] c) pos:=gd (EO a) λk=>gd (b.endLine == c.line) λl=>ob (J.var x) λi m=>(D.e J a).bind λr=>
 if d:f="append" then ↑{Cb i r.m,λC=>by
  subst d;obtain⟨e,g,h,j⟩:=C.var (pos:=p) m;exact s_app e g h j (r.ok C).1 (II k) l} else
 if d:f="extend" then ↑{JK i<|He (J6 J a) r.m,λC=>by
  subst d;obtain⟨e,g,h,j⟩:=C.var (pos:=p) m;exact s_ext e g h j (Mr (r.ok C).1 _) (II k) l} else
 Wh D J _ pos
def xDap(D:Dc)(J:Gm)(x:Str)(p:Pos)(k:Expr)(m:Pos)(f:Str)(b:Pos)(a:Expr)(c pos:Pos):Option<|SR J<|.Expr (.Call (.Attribute (.Subscript (.Name x p) k m) f b) [a] [] c) pos:=gd (EO a) λe=>gd (b.endLine == c.line) λg=>gd (!(Gj k)) λh=>ob (J.var x) λi l=>(D.e J k).bind λd=>(D.e J a).bind λr=>
 if j:f="append" then ↑{K6 i d.m r.m,λC=>by
  subst j;obtain⟨n,o,q,s⟩:=C.var (pos:=p) l;exact s_dap (by have:=C.room.units;lia) n o q s (d.ok C).1 (Mv<|DY h) (r.ok C).1 (II e) g} else none
def dX(D:Dc)(J:Gm)(e:Expr)(pos:Pos):Option<|SR J<|.Expr e pos:=
 match e with
 |.Call (.Attribute (.Name x p) f b) [a] [] c=>xApp D J x p f b a c pos|.Call (.Attribute (.Subscript (.Name x p) k d) f b) [a] [] c=>xDap D J x p k d f b a c pos|e=>Wh D J e pos
def xRet(D:Dc)(J:Gm)(o:Option Expr)(pos:Pos):Option<|SR J<|.Return o pos:=
 gd (!J.mu) λa=>match o with
 |none=>↑{Rw,λC=>by rw[DY a];exact znh}|some e=>(D.e J e).bind λr=>↑{AO r.m,λC=>by rw[DY a];exact Xq (r.ok C).1}
def xRse(D:Dc)(J:Gm)(a b:Option Expr)(pos:Pos):Option<|SR J<|.Raise a b pos:=match a,b with
 |some (.Call (.Name c p) (e::d) [] k),none=>gd (!(J.ox.nr)) λg=>gd ((G7 c).isNone) λf=>gd (J.ex.contains c) λh=>gd (Cf J.nm c) λi=>gd (DJ c) λj=>(D.a J<|e::d).bind λr=>↑{Cw c r.m,λC=>s_rse C (DY g) (Option.isNone_iff_eq_none.mp f) (ô.mp h) i j (r.ok C) r.st}|ϊ,ϋ=>none
def xFor(D:Dc)(J:Gm)(tg it:Expr)(body a:kh)(pos:Pos):Option<|SR J<|.For tg it body a pos:=
 match a with
 |[]=>gd (!(J.ox.nr)) λh=>(dI D J tg it).bind λb=>(dG J tg).bind λc=>(D.q J body).bind λr=>↑{BE b.m c.m r.m,λC=>s_for (C.po<|DY h) C.calm (b.ok C) (c.ok C) (r.ok C)<|Uj b.ns}|ϊ=>none
def xWh(D:Dc)(J:Gm)(c:Expr)(body a:kh)(pos:Pos):Option<|SR J<|.While c body a pos:=match a with
 |[]=>gd (!(J.ox.nr)) λh=>gd (GB c) λhk=>(D.e J c).bind λb=>(D.q J body).bind λr=>↑{El b.m r.m,λC=>s_wh (C.po<|DY h) (b.t hk C)<|r.ok C}|ϊ=>none
def xIf(D:Dc)(J:Gm)(c:Expr)(a b:kh)(pos:Pos):Option<|SR J<|.If c a b pos:=
 gd (GB c) λh=>(D.e J c).bind λf=>(D.q J a).bind λd=>(D.q J b).bind λe=>↑{A8 (He (J6 J c) f.m) d.m e.m,λC=>s_if (YO (f.t h C) _) (d.ok C)<|e.ok C}
structure CxS(J:Gm)(X:Cx)(ca:Str->Value):Prop where
 N:X.N=J.N
 nd:J.N.Nodup
 nm:X.env.scope.names=J.nm
 rm:Room J.lv (Yq X.A)
 bl:∀b∈J.bl,X.mg b=none
 gx:GxOk J.ox J.lv X.prog X.w X.K X.mg X.base ca
set_option tactic.hygienic true in
def CxS.var(C:CxS J X ca)(h:J.var x=↑i):X.N[i]?=↑x/\EI X.env.scope x/\(x == "__debug__")=false/\(x == "__classdict__")=false:=by
 unfold Gm.var at h;split at h;rename_i a;rw[Å]at a;let(b,c,d):=Dp a.1;exact{by rw[C.N];exact Hg h,Wt (by rw[C.nm];exact a.2),b,c}
 cases h
structure XR(J:Gm)(e:Expr) where
 m:AI
 ok:∀{X:Cx} {E:L2.St->XK} {ca:Str->Value},CxS J X ca->PE X e (tM X.K E ca m)/\(GB e=true->PT X e (BG X.K E ca m))
structure XQ(J:Gm)(ss:kh) where
 m:AG
 ok:∀{X:Cx} {E:L2.St->XK} {ca:Str->Value},CxS J X ca->B9 X ss (tS X.K E ca false m)
def xv{J:Gm}{e:Expr}(m:AI)(h:∀{X:Cx} {E:L2.St->XK} {ca:Str->Value},CxS J X ca->PE X e (tM X.K E ca m))(t:MX e:=by trivial):Option<|XR J e:=↑{m,λC=>{h C,λϊ=>SK (h C)<|XB t}}
def xE(J:Gm):Nat->(e:Expr)->Option (XR J e)
 |0,ϊ=>none|n+1,e=>match e with
  |.Name x p=>ob (J.var x) λi g=>xv (AA i) λC=>by
   obtain⟨a,b,d,f⟩:=C.var g;exact YL a b d f
  |.Constant c k p=>(match c with
   |.none=>xv (mC .non) λϊ=>Kb Y9 λϊ ϊ=>.non|ϊ=>none)
  |ϊ=>none
def xS(J:Gm):Nat->(ss:kh)->Option (XQ J ss)
 |0,ϊ=>none|n+1,ss=>match ss with
  |[]=>↑{A7,λϊ=>Xs}|s::r=>(match s with
   |.Return ↑e p=>(match r with
    |[]=>(xE J 50 e).bind λq=>↑{AO q.m,λC=>Q1<|Xq (q.ok C).1}|ϊ=>none)
   |.Assign [.Name x q] e p=>gd (J.loc x) λg=>gd (J.nm.lookup x == ↑.local) λc=>gd (!(Gk e)) λd=>ob (Dt J.N x) λi f=>(xE J 50 e).bind λb=>(xS J n r).bind λrs=>↑{AF (AS b.m<|AD i) rs.m,λ{X} {E} {ca} C=>by
    have a:X.env.scope.names.lookup x=↑.local:=by rw[C.nm];exact eq_of_beq c
    exact Qy (Xo (by rw[C.N];exact C.nd) (by rw[C.N];exact Hg f) (.inl a) (b.ok C).1 (M4<|DY d) (.inr a))<|rs.ok C}
   |ϊ=>none)
theorem zql{J:Gm}{X:Cx}(C:CxOk J X E ca)(a:Ca (FY X pz xe) E'):CxOk { J with ox:={ J.ox with nr:=true}} (FY X pz xe) E' ca:=
 {C.N,C.nd,C.nm,C.kd,C.calm,C.room,C.ce,C.bl,a,λz=>(by cases z),λz=>(by cases z),cS,C.fs,C.ex,C.ms,{(C.gx.co),C.gx.cl,C.gx.mt,C.gx.nw,C.gx.sf,C.gx.xs,C.gx.sb,C.gx.sv,C.gx.ci,C.gx.x2,C.gx.wd,C.gx.ti,C.gx.dn,C.gx.rn},C.tr,C.fr}
def xTr0(D:Dc)(J:Gm)(body:kh)(W:Str)(p:Pos)(f:Stmt)(b:kh)(c pos:Pos):Option<|SR J<|.Try body [.ExceptHandler (↑(.Name W p)) none (f::b) c] [] [] pos:=gd (J.ox.df && !(J.ox.nr) && !(J.mu) && Cf J.nm W && DJ W) λj=>ob (J.ox.xs.lookup W) λi m=>(D.q { J with ox:={ J.ox with nr:=true } } body).bind λu=>(xS J 50<|f::b).bind λh=>↑{HH i u.m h.m,λ{X} {E} {ca} C=>by
 erw[Å,ĺ]at j;obtain⟨⟨⟨⟨c1,c2⟩,c3⟩,k⟩,l⟩:=j;obtain⟨T,n⟩:=C.gx.xs W i m;obtain⟨q,r⟩:=C.tr c1;have g:∀(d:L2.St->XK) e xe,Ca (FY X e xe) d->B9 (FY X e xe) body (tS X.K d ca J.mu u.m):=λd e xe o=>u.ok<|zql C o
 generalize u.m=um at g ⊢;rw[c3]at g ⊢;exact zne T n q r g (λa=>h.ok {C.N,C.nd,C.nm,{(rfl),C.room.dp,C.room.un},C.bl,C.gx}) (C.gl k) (Dp l).1}
def xTry(D:Dc)(J:Gm)(body:kh)(d:List ExceptHandler)(b BK:kh)(pos:Pos):Option<|SR J<|.Try body d b BK pos:=match d,b,BK with
 |[.ExceptHandler (↑(.Name W f)) none (e::a) c],[],[]=>xTr0 D J body W f e a c pos|ϊ,ϋ,ό=>none
def xAug(D:Dc)(J:Gm)(t:Expr)(a:Operator)(e:Expr)(pos:Pos):Option<|SR J<|.AugAssign t a e pos:=match t,a with
 |.Name x px,.Add=>gd (J.loc x && !(J.ow.contains x)) λh=>ob (Dt J.N x) λi c=>(D.e J e).bind λr=>↑{K8 i r.m,λC=>by
   obtain⟨g1,g2,b⟩:=C.loc (Ķ.mp h).1 c;exact s_aug C.nodup g1 g2 (r.ok C).1 b}
 |ϊ,ϋ=>none
def dSt(D:Dc)(J:Gm):(s:Stmt)->Option (SR J s)
 |.Pass ϊ=>↑{A7,λϊ=>zni}|.Break ϊ=>↑{K7,λϊ=>zk9}|.Continue ϊ=>↑{Ml,λϊ=>zeb}|.Return o d=>xRet D J o d|.Expr e d=>dX D J e d|.Assign k e d=>dAsg D J k e d|.AugAssign t i e d=>xAug D J t i e d|.If c a b d=>xIf D J c a b d|.For j it f g d=>xFor D J j it f g d|.While c f g d=>xWh D J c f g d|.Raise a b d=>xRse D J a b d|.Try f h g BK d=>xTry D J f h g BK d|ϊ=>none
def dSq(D:Dc)(J:Gm):(ss:kh)->Option (QR J ss)
 |[]=>↑{A7,λϊ=>Xs}|[s]=>(match D.s J s with
  |some r=>↑{Ue (frzs J s) r.m,λC=>Qp (Q1<|r.ok C) _}|none=>if J.ox.no then ↑{Mj,λϊ=>Q1 Xr} else none)
 |s::a::r=>(D.q J<|a::r).bind λrs=>match D.s J s with
  |some q=>↑{Ue (frzs J s)<|AF q.m rs.m,λC=>Qp (Qy (q.ok C)<|rs.ok C) _}|none=>if J.ox.no then ↑{AF Mj rs.m,λC=>Qy Xr<|rs.ok C} else none
def Ie:Nat->Dc
 |0=>{λϊ ϊ=>none,λϊ ϊ=>none,λϊ ϊ=>none,λϊ ϊ ϊ=>none,λϊ ϊ=>none,λϊ ϊ=>none}|n+1=>{dEs<|Ie n,dAs<|Ie n,dOs<|Ie n,dBs<|Ie n,dSt<|Ie n,dSq<|Ie n}
def OJ(n:Nat)(J:Gm)(ss:kh):Option<|AG:=((Ie n).q J ss).map QR.m
structure GoodS(ca:Str->Value)(n:Nat):Prop where
 ss:∀{J:Gm} {X:Cx} {E:L2.St->XK} {st:kh} {m:AG},CxOk J X E ca->OJ n J st=↑m->B9 X st (tS X.K E ca J.mu m)
theorem fS(ca)(n):GoodS ca n:={λC h=>by
 let(r,_,rfl):=Ý.mp h;exact r.ok C}
end Pu
end
namespace Pu
open PySem PySem.Spec PyProof.Rows L2 Zw Zx
theorem cR:True:=trivial
def JO(n:Nat)(u:AG)(ts:qB):Option Ru:=match u (ts.map some++List.replicate (n - ts.length) none) with
 |some (.rt t)=>↑(.ok t)|some (.nx ϊ)=>↑(.ok .non)|some (.xc c ϊ)=>↑(.exc c)|ϊ=>none
def AW(k n:Nat)(u:AG)(ts:qB):Option Ru:=if ts.length=k then JO n u ts else none
theorem QG(c:∀i a,¬ R i a)(s:Stp F H (tot R) F' H' σ'):Ext F H F' H' σ' where
 hh:=λb u e=>s.kp b u (λ⟨i,z⟩=>c i b z) e
 ff:=s.ff
 fh:=s.fh
 nb:=λb z=>(s.nw b z).elim (λ⟨i,w⟩=>absurd w<|c i b) id
 nf:=λb u e=>(s.nf b u e).elim .inl λz=>z.elim (λ⟨i,w⟩=>absurd w<|c i b) .inr
def zhg{K}(fh:Aa F H)(r:Ai K F ts vs):StR K F H (start N vs) (ts.map some++List.replicate (N.length - ts.length) none)<|λϊ=>R0:=by
 have g:=r.1;refine{fh,by simp[L2.start,g],λi t e=>?_,λϊ ϊ z=>z.elim,λϊ ϊ ϊ ϊ z=>z.elim};unfold L2.start;by_cases f:i<ts.length;rw[ú (by simpa using f),È]at e;let(j,b,c):=Ý.mp e;cases c;have a:i<vs.length:=by lia
 refine{vs[i],?_,(r.2 i t vs[i] b<|Á a).any};rw[ú (by simpa using a),È,Á a];rfl;rw[Ħ (by simp;lia)]at e;let(h,d):=Î.mp e;simp at d
def zno{K}{N ps:ki}(h:Bs K ca (AW ps.length N.length u) vs H Q E):tS K (λϊ=>E) ca false u { nx:=λϊ H'=>Q .non H',rt:=Q} (start N vs) H:=by
 let(i,e,fh,r,q):=h;refine{i,_,_,zhg fh r,?_};unfold AW at q;by_cases f:e.length=ps.length;erw[f,Ä]at q;unfold JO at q;cases g:u (e.map some++List.replicate (N.length - e.length) none) with
 |none=>erw[g]at q<;>symm|some o=>
  erw[g]at q;cases o with
  |nx Y=>exact λa b j k d l=>q a b .non R0 ((QG (λϊ ϊ z=>z) d).mono λϊ z=>z.elim) .non|rt t=>exact λa b x B d r1=>q a b x B (QG (λϊ ϊ z=>z) d) r1|bk Y=>symm|ct Y=>symm|xc c Y=>exact λa b j k d l=>q a b<|(QG (λϊ ϊ z=>z) d).mono λϊ z=>z.elim
 erw[f,Ã]at q<;>symm
def gP{K}{st:Stmt}{f:Addr}{J:Gm}(F:FunD K x qual st f fd)(S:FnScope N ps<|Dg st)
  (d:J.N=N) (t:J.nm=(Dg st).names) (j:∀x∈J.ce,J.nm.lookup x=↑.cell) (a:J.lv=k) (i:∀b∈J.bl,mg b=none)
  (l:∀f F,J.fns.lookup f=↑F->F.lv<=k/\Nonempty (DefX P w K mg base F.lv f F.ps<|Bs K ca F.g)) (hex:∀c∈J.ex,∃T:ECls K mg c,ca c=.ref T.C/\Eb K T.C=↑none)
  (o:∀f F,J.mus.lookup f=↑F->F.lv<=k/\Nonempty (DefX P w K mg base F.lv f F.ps<|G4 K ca F.g)) (p:J.mu=false) (m:GxOk J.ox k P w K mg base ca) (B:OJ n J (Hn st)=↑u):FnOk P w K mg base (Dh P w) (k+1) f fd ps<|Bs K ca<|AW ps.length N.length u:=by
 refine Yp F S (λL H Q E h=>?_) λg A outer s H L Q E z h=>?_;let(M,I,_,r,q):=h;unfold AW at q;by_cases v:I.length=ps.length;rw[<- r.1,v];grind
 have C:CxOk J (GL (Dh P w) P w K mg base N qual (Dg st) f g A outer s H E) (λϊ=>E) ca:=by
  refine{d.symm,by rw[d];exact S.nd,t.symm,S.kind,rfl,by rw[a];exact z,λy D=>{rfl,j y D},i,Yg,λϊ=>PassesOwn.leaving,λϊ=>cZ,cR,λf F e=>by rw[a];exact l f F e,hex,λf F e=>by rw[a];exact o f F e,by rw[a];exact m,λϊ=>{(rfl),rfl},{_,_,rfl,rfl}}
 have G:=(fS ca n).ss C B;rw[p]at G;refine{_,G,?_};exact zno h
def zf6{K}(fh:Aa F H)(r0:Rp K F H t0 x0 A)(r:Ai K F ts vs):StR K F H (start N<|x0::vs) ((t0::ts).map some++List.replicate (N.length - (t0::ts).length) none) (λi=>if i=0 then A else R0):=by
 have o:=r.1;refine{fh,by simp[L2.start,o],λi t e=>?_,λi a z=>?_,λi j a c g h=>?_};unfold L2.start;by_cases b:i<(t0::ts).length;rw[ú (by simpa using b),È]at e;let(q,f,k):=Ý.mp e;cases k;cases i with
 |zero=>cases f;exact{x0,by simp,r0}|succ i=>
  have m:i<ts.length:=by simpa using b
  have d:i<vs.length:=by lia
  refine{vs[i],?_,(r.2 i t vs[i] (by simpa using f)<|Á d).any};rw[ú (by simpa using d),È,Ň,Á d];rfl
 rw[Ħ (by simp at b ⊢;lia)]at e;let(p,l):=Î.mp e;simp at l;by_cases b:i=0;subst b;exact{(t0),rfl};erw[b,Ã]at z;exact z.elim;by_cases b:i=0;have n:¬ j=0:=λz=>c<|b.trans z.symm
 erw[n,Ã]at h;exact h;erw[b,Ã]at g;exact g
def zjt:tot (λi=>if i=0 then A else R0)=A:=funext λa=>propext {λ⟨i,z⟩=>by
 by_cases b:i=0;grind
 erw[b]at z;exact z.elim,λz=>{0,by simpa using z}}
def BM{α:Type}{P:α->Prop}:∀x∈([]:List α),P x:=λϊ h=>by cases h
def Ap{α:Type}{P:α->Prop}{a:α}{l:List α}(h:P a)(r:∀x∈l,P x):∀x∈a::l,P x:=λx b=>by
 obtain rfl|b:=Ì.mp b
 exact h;exact r x b
def KS{P:kc->Prop}(h:P []):∀us:kc,us.length=0->P us:=λus e=>by
 cases us with
 |nil=>exact h|cons a r=>cases e
def Dz{P:kc->Prop}{k:Nat}(h:∀a us,us.length=k->P (a::us)):∀us:kc,us.length=k+1->P us:=λus e=>by
 cases us with
 |nil=>cases e|cons a r=>exact h a r<|ò e
def Bp{P:kc->Prop}(h:∀a,P [a]):∀us:kc,us.length=1->P us:=Dz λa=>KS<|h a
def Bn{P:kc->Prop}(h:∀a b,P [a,b]):∀us:kc,us.length=2->P us:=Dz λa=>Dz λb=>KS<|h a b
def Ei{P:kc->Prop}(h:∀a b c,P [a,b,c]):∀us:kc,us.length=3->P us:=Dz λa=>Dz λb=>Dz λc=>KS<|h a b c
def Fu{P:kc->Prop}(h:∀a b c d,P [a,b,c,d]):∀us:kc,us.length=4->P us:=Dz λa=>Dz λb=>Dz λc=>Dz λd=>KS<|h a b c d
def us6{P:kc->Prop}(h:∀a b c d e f,P [a,b,c,d,e,f]):∀us:kc,us.length=6->P us:=Dz λa=>Dz λb=>Dz λc=>Dz λd=>Dz λe=>Dz λf=>KS<|h a b c d e f
section
variable {P:Program}{w:World}{K:q9}{mg:Str->Option Value}{base:Heap}{ca:Str->Value}{k:Nat}
def A6:∀f F,([]:List<|Str×Fn).lookup f=↑F->F.lv<=k/\Nonempty (DefX P w K mg base F.lv f F.ps<|Bs K ca F.g):=λϊ ϊ h=>by cases h
def ziy{x:Str}{a:Fn}{l:List<|Str×Fn}(hk:a.lv<=k)(D:DefX P w K mg base a.lv x a.ps<|Bs K ca a.g)(r:∀f F,l.lookup f=↑F->F.lv<=k/\Nonempty (DefX P w K mg base F.lv f F.ps<|Bs K ca F.g)) :
  ∀f F,((x,a)::l).lookup f=↑F->F.lv<=k/\Nonempty (DefX P w K mg base F.lv f F.ps<|Bs K ca F.g):=λf F h=>by
 rw[ç]at h;cases b:f == x with
 |true=>rw[b]at h;cases h;rw[eq_of_beq b];exact{hk,{(D)}}|false=>rw[b]at h;exact r f F h
def So:∀f F,([]:List<|Str×Fn).lookup f=↑F->F.lv<=k/\Nonempty (DefX P w K mg base F.lv f F.ps<|G4 K ca F.g):=λϊ ϊ h=>by cases h
def Ma(K:q9):Sp:=λc H Q ϊ=>∃(a:Addr) (ns:kj),c=[.ref a]/\Gv K H a (ns.map V.int)/\ns.length<=63/\∀b,Q (.bl true) b
def Gv.of{K:q9}{H:Hp}{a:Addr}{xs:qA}(b:PF H)(h:Ab K H a xs):Gv K H a xs:=by
 rcases h with (h|h)|h;rcases b a with z|⟨o,c,z⟩<;>rw[h]at z<;>cases z;exact .inl h;exact .inr h
def Co(ns:kj):T:=.nd false .rl<|ns.map T.int
def YB{F:Hp}:∀ns:kj,Ai K F (ns.map T.int)<|ns.map V.int
 |[]=>.nil|n::r=>.cons (H:=F) (.int n)<|YB r
def zpt{R:qB->Option Ru}{f:Addr}{fd:FuncData}(F:FnOk P w K mg base (Dh P w) k f fd ["_law_script"]<|Bs K ca R)(h:∀ns:kj,ns.length<=63->R [Co ns]=↑(.ok<|.bl true)):FnOk P w K mg base MB k f fd ["_law_script"]<|Ma K:=by
 refine{λt H Q E d=>?_,λA outer s H b p t Q E n j l o d=>?_};let(a,ns,rfl,_):=d;rfl;let(a,ns,rfl,m,c,q):=d;refine ģ (F.run A outer s H b p _ Q E0 n j l o {H,[Co ns],.refl _,.cons (H:=H) (Ai.of_node (k:=.rl) m<|YB ns) .nil,?_}) λr x g=>?_;rw[h ns c];intro u i z C e r;rw[r.bl_inv];exact q i;cases r with
 |error v=>let(_,_,_,_,_,_,_,_,_,_,_,_,z):=g;exact z.elim
 |ok fl=>cases fl<;>exact g
end
def G5(C:Addr)(fs:ki)(k n:Nat)(u:AG)(p:Addr)(ts:qB):Option Ru:=if ts.length+1=k then (match u ((T.oob p C fs []::ts).map some++List.replicate (n - (ts.length+1)) none) with
 |some (.nx Y)=>(match G8 Y 0 C fs with
  |some (q,l)=>if q=p then ↑(.ok<|.obj (.ins C fs)<|BP l) else none
  |none=>none)
 |some (.xc c ϊ)=>↑(.exc c)|ϊ=>none) else none
open Classical in
def Em(C:Addr)(fs:ki)(k n:Nat)(u:AG)(ts:qB):Option Ru:=if h:∃r,∀p,G5 C fs k n u p ts=↑r then ↑h.choose else none
def SA{C:Addr}{fs:ki}{k n:Nat}{u:AG}{ts:qB}{r:Ru}(h:∀p,G5 C fs k n u p ts=↑r):Em C fs k n u ts=↑r:=by
 have a:∃r,∀p,G5 C fs k n u p ts=↑r:={(r),h};unfold Em;rw[dif_pos a];have e:=(a.choose_spec 0).symm.trans (h 0);exact e
set_option tactic.hygienic true in
def Xz{C:Addr}{fs:ki}{k n:Nat}{u:AG}{ts:qB}{r:Ru}(h:Em C fs k n u ts=↑r)(p:Addr):G5 C fs k n u p ts=↑r:=by
 unfold Em at h;split at h;rename_i a;cases h;exact a.choose_spec p;cases h
def zqg{P:Program}{w:World}{K:q9}{mg:Str->Option Value}{base:Heap}{ca:Str->Value}{x v:Str}{st:Stmt}{f:Addr}{fd:FuncData}{N ps:ki}{k n:Nat}{J:Gm}{u:AG}{C:Addr}{fs:ki}(F:FunD K x v st f fd)(S:FnScope N ps<|Dg st)
  (U:J.N=N) (hnm:J.nm=(Dg st).names) (hce:∀x∈J.ce,J.nm.lookup x=↑.cell) (g:J.lv=k) (hbl:∀b∈J.bl,mg b=none)
  (hfs:∀f F,J.fns.lookup f=↑F->F.lv<=k/\Nonempty (DefX P w K mg base F.lv f F.ps<|Bs K ca F.g)) (hex:∀c∈J.ex,∃T:ECls K mg c,ca c=.ref T.C/\Eb K T.C=↑none)
  (hms:∀f F,J.mus.lookup f=↑F->F.lv<=k/\Nonempty (DefX P w K mg base F.lv f F.ps<|G4 K ca F.g)) (hmu:J.mu=false) (hgx:GxOk J.ox k P w K mg base ca) (hu:OJ n J (Hn st)=↑u):FnOk P w K mg base (Dh P w) (k+1) f fd ps<|K4 K ca C<|Em C fs ps.length N.length u:=by
 refine Yp F S (λvs H Q E h=>?_) λZ A outer s H vs Q E hr h=>?_;let(X,p,dx,m,vs',_,rfl,_,_,r,q):=h;cases I:Em C fs ps.length N.length u m with
 |none=>rw[I]at q;symm|some rr=>
  have d:=Xz I 0;unfold G5 at d;by_cases R:m.length+1=ps.length;rw[ì,<- r.1,R];rw[if_neg R]at d;cases d
 have CC:CxOk J (GL (Dh P w) P w K mg base N v (Dg st) f Z A outer s H E) (λϊ=>E) ca:=by
  refine{U.symm,by rw[U];exact S.nd,hnm.symm,S.kind,rfl,by rw[g];exact hr,λy hy=>{rfl,hce y hy},hbl,Yg,λϊ=>PassesOwn.leaving,λϊ=>cZ,cR,λf F e=>by rw[g];exact hfs f F e,hex,λf F e=>by rw[g];exact hms f F e,by rw[g];exact hgx,λϊ=>{(rfl),rfl},{_,_,rfl,rfl}}
 have G:=(fS ca n).ss CC hu;rw[hmu]at G;refine{_,G,?_};let(X,p,dx,m,vs',fh,rfl,fp,hp,r,q):=h;have r0:Rp K X H (.oob p C fs []) (.ref p) (λa=>a=p\/∃j:Nat,R0 a):=.oob (xs:=[]) (λϊ=>R0) fp (by rw[List.zip_nil_right];exact hp) rfl (λi t x h=>by simp at h) (λϊ ϊ ϊ ϊ z=>z.elim) (λϊ z=>z)<|λϊ ϊ z=>z.elim
 have hA:(λa=>a=p\/∃j:Nat,R0 a)=λa=>a=p:=funext λa=>propext {λz=>z.elim id λ⟨_,w⟩=>w.elim,λz=>.inl z};refine{X,_,_,zf6 fh r0 r,?_};unfold pS;rw[zjt,hA];cases I:Em C fs ps.length N.length u m with
 |none=>rw[I]at q;symm|some rr=>
  rw[I]at q;have d:=Xz I p;unfold G5 at d
  by_cases R:m.length+1=ps.length;rw[if_pos R]at d;have el:(T.oob p C fs []::m).length=m.length+1:=rfl;rw[el];cases ho:u ((T.oob p C fs []::m).map some++List.replicate (N.length - (m.length+1)) none) with
  |none=>rw[ho]at d;cases d|some o=>
   rw[ho]at d;cases o with
   |nx Y=>
    simp only at d;intro V D O1 W L M;cases B:G8 Y 0 C fs with
    |none=>rw[B]at d;cases d|some ql=>
     let(q0,l):=ql;rw[B]at d;simp only at d;by_cases hq:q0=p;rw[if_pos hq]at d;subst hq;cases d;have O:=SU B;have S2:=M.frz O;let(y,ey,ry):=M.rep 0 _ O;let(dx2,xs2,Rr,rfl,hA2,fp2,hp2,ro,dp):=ry.oob_inv;have n1:∀a,W 0 a->V a=none:=λa z=>(M.dom z).1
     have r2:=ry.share (H':=D) (FV (H:=D) n1) λa u z q=>by rw[Ec z];exact q
     simp only at q;refine q (frz V D<|W 0) D {L.ff.trans<|FV n1,Jh M.fh,L.kp,λb z=>z.elim,λb u e=>?_} r2;by_cases hb:W 0 b;exact(L.nw b {0,hb}).elim (λz=>.inr<|.inl z) λz=>.inr<|.inr z
     rw[FU hb]at e;exact L.nf b u e;rw[if_neg hq]at d;cases d
   |rt t=>cases d|bk Y=>cases d|ct Y=>cases d|xc c Y=>cases d;simp only at q;exact λV D O1 W L M=>q V D<|L.mono λϊ z=>z.elim
  rw[if_neg R]at d;cases d
def DZ{κ α:Type} [BEq κ]{P:κ->α->Prop}:∀y b,([]:List<|κ×α).lookup y=↑b->P y b:=λϊ ϊ h=>by cases h
def ET{κ α:Type} [BEq κ] [LawfulBEq κ]{P:κ->α->Prop}{x:κ}{a:α}{l:List<|κ×α}(h:P x a)(r:∀y b,l.lookup y=↑b->P y b):∀y b,((x,a)::l).lookup y=↑b->P y b:=λy b e=>by
 rw[ç]at e;cases c:y == x with
 |true=>rw[c]at e;cases e;rw[eq_of_beq c];exact h|false=>rw[c]at e;exact r y b e
def SD{K:q9}{F:Hp}:∀ys:ki,Ai K F (ys.map T.str)<|ys.map V.str
 |[]=>.nil|y::r=>.cons (H:=F) (.str y)<|SD r
def S7{P:Str->Fn->List (Nat×qB)->Prop}:∀x F ds,([]:List<|Str×Fn×List (Nat×qB)).lookup x=↑(F,ds)->P x F ds:=λϊ ϊ ϊ h=>by cases h
def S8{P:Str->Fn->List (Nat×qB)->Prop}{l:List<|Str×Fn×List (Nat×qB)}{b:Str}{c:Fn}{d:List<|Nat×qB}(h:P b c d)(r:∀x F ds,l.lookup x=↑(F,ds)->P x F ds):∀x F ds,((b,c,d)::l).lookup x=↑(F,ds)->P x F ds:=λx F ds e=>by
 rw[ç]at e;cases a:x == b with
 |true=>rw[a]at e;cases e;rw[eq_of_beq a];exact h|false=>rw[a]at e;exact r x F ds e
def jS(K:q9)(C:Addr):=(LU K C,W.subIn K (.ref C)<|.ref C,(W.clsIn K C).isSome,W.typeIn K<|.ref C,W.findIn K (.ref C) "__getattribute__",W.findIn K (.ref C) "__getattr__",W.findIn K (.ref C) "__class__",W.mroIn K C<|.type "object",W.mroIn K C<|.type "BaseException")
def VM{K:q9}{mg:Str->Option Value}{x:Str}(g:W.specialIn K (.builtin "object.__class__") "__get__"=↑(↑(.builtin "getset_descriptor.__get__"))/\W.takesIn K (.builtin "object.__class__")=↑true)(C:Addr)(m:mg x=↑(.ref C))(h:jS K C=(true,↑true,true,↑(.type "type"),↑(↑(.builtin "BaseException.__getattribute__")),↑none,↑(↑(.builtin "object.__class__")),↑true,↑true)):ECls K mg x:={C,m,by
 unfold jS at h;erw[Prod.mk.injEq,Ş]at h;obtain⟨a,b,c,d,e,f,i,j,k⟩:=h;exact{(a),b,c,d,e,f,i,j,k,g.1,g.2}}
def xs_of{K:q9}{mg:Str->Option Value}{W:Str}{ca:Str->Value}{cs:List<|Str×Addr}(T:ECls K mg W)(h:(cs.all λe=>(match ca e.1 with|.ref a=>a == e.2|ϊ=>false) && PySem.W.subIn K (.ref e.2) (.ref T.C) == ↑true)=true):∃T:ECls K mg W,∀c C,cs.lookup c=↑C->ca c=.ref C/\PySem.W.subIn K (.ref C) (.ref T.C)=↑true:={T,λc C b=>by
 have h:=Ö.mp h _<|ċ b;rw[Å]at h;refine{?_,eq_of_beq h.2};have h:=h.1;cases e:ca c with
 |ref a=>erw[e]at h;rw[eq_of_beq h]|_=>erw[e]at h;cases h}
theorem A5{G:Gx}{lv:Nat}{P:Program}{w:World}{K:q9}{mg:Str->Option Value}{base:Heap}{ca:Str->Value}
  (co:∀x t,G.co.lookup x=↑t->∃u v,mg x=↑u/\Ac v u/\∀F:Hp,Rp K F F t v R0:=by exact DZ)
  (cl:∀c∈G.cl,Cls K c.2.1/\∀f∈c.2.2,CB K c.2.1 f:=by exact BM)
  (mt:∀c∈G.mt,c.2.2.2.lv<=lv/\Nonempty (MetX P w K mg base c.2.1 c.1 c.2.2.2.lv c.2.2.2.ps<|Bs K ca c.2.2.2.g):=by exact BM)
  (nw:∀x F ds,G.nw.lookup x=↑(F,ds)->F.lv+1<=lv/\∃(C:Addr) (D:NewX P w K mg base x C F.lv F.ps<|K4 K ca C F.g),∀k dts,ds.lookup k=↑dts->∃dvs us,DF K D.fd F.ps us/\Ag dvs us/\∀H:Hp,Ai K H dts dvs:=by exact S7)
  (sf:∀C fs,G.sf=↑(C,fs)->Cls K C/\∀f∈fs,CB K C f:=by exact(λϊ ϊ h=>by cases h))
  (xs:∀W cs,G.xs.lookup W=↑cs->∃T:ECls K mg W,∀c C,cs.lookup c=↑C->ca c=.ref C/\PySem.W.subIn K (.ref C) (.ref T.C)=↑true:=by exact DZ)
  (sb:∀D tb,G.sb.lookup D=↑tb->∃A:Addr,mg D=↑(.ref A)/\∀C b,tb.lookup C=↑b->ExcK K C/\PySem.W.kitOne K (.ref C) (.ref A)=↑b:=by exact DZ)
  (sv:∀D tb,G.sv.lookup D=↑tb->mg D=none/\∃t,bootBuiltins D=↑(.type t)/\∀C b,tb.lookup C=↑b->ExcK K C/\PySem.W.kitOne K (.ref C) (.type t)=↑b:=by exact DZ)
  (ci:∀x tb,G.ci.lookup x=↑tb->∃D:Addr,mg x=↑(.ref D)/\(∀C b,tb.lookup C=↑b->ICls K C/\PySem.W.kitOne K (.ref C) (.ref D)=↑b)/\(MV.all λa=>PySem.W.kitOne K (.type a) (.ref D) == ↑false)=true:=by exact DZ)
  (x2:∀W1 W2 cs,(W1,W2,cs)∈G.x2->∃(T1:ECls K mg W1) (T2:ECls K mg W2),∀c C,cs.lookup c=↑C->ca c=.ref C/\PySem.W.subIn K (.ref C) (.ref T1.C)=↑false/\PySem.W.subIn K (.ref C) (.ref T2.C)=↑true:=by exact(λϊ ϊ ϊ h=>by cases h))
  (wd:∀x F,G.wd.lookup x=↑F->F.lv<=lv/\∃p,F.ps=[p]/\Nonempty (DefS P w K mg base F.lv x p<|Bs K ca F.g):=by exact DZ)
  (ti:∀C∈G.ti,TiOk K C:=by exact BM)
  (dn:∀x y,G.dn.lookup x=↑y->y.1.lv<=lv/\∃(D:DefX P w K mg base y.1.lv x y.1.ps<|Bs K ca y.1.g) (dvs:qA),DefsX K D.fd y.1.ps dvs/\∀H:Hp,Ai K H y.2 dvs:=by exact DZ)
  (rn:True:=trivial)
  : GxOk G lv P w K mg base ca:={(co),cl,mt,nw,sf,xs,sb,sv,ci,x2,wd,ti,dn,rn}
theorem scM{N ps:ki}{sc:Scope}(h:(sc.kind=.function/\sc.isCoroutine=false/\sc.isGenerator=false)/\N.Nodup/\N.take ps.length=ps/\(∀x∈ps,sc.names.lookup x=↑.local\/sc.names.lookup x=↑.cell)/\∀y∈sc.names,y.2≠.free):FnScope N ps sc:={(h.1.1),h.1.2.1,h.1.2.2,h.2.1,h.2.2.1,h.2.2.2.1,h.2.2.2.2}
class Qx (P:outParam Program) (w:outParam World) (K:outParam q9) (mg:outParam<|Str->Option Value) (base:outParam Heap) (ca:outParam<|Str->Value):Prop where
  c:∀(x:Str) (u:Value),W.nsIn K mainGlobals x=↑↑u->mg x=↑u
  n:∀x:Str,W.nsIn K mainGlobals x=↑none->mg x=none
structure Ck(J:Gm)(f:Fn)(st:Stmt)(u:AG):Prop where
 s:FnScope J.N f.ps<|Dg st:=by exact scM (by decide +kernel)
 k:OJ 200 J (Hn st)=↑u:=by ext
 n:J.nm=(Dg st).names:=by rfl
def AQ{P:Program}{w:World}{K:q9}{mg:Str->Option Value}{base:Heap}{ca:Str->Value}{k:Nat}{x:Str}{a:Fn}{l:List<|Str×Fn}(D:DefX P w K mg base a.lv x a.ps<|Bs K ca a.g)(r:∀f F,l.lookup f=↑F->F.lv<=k/\Nonempty (DefX P w K mg base F.lv f F.ps<|Bs K ca F.g))(hk:a.lv<=k:=by decide) :
  ∀f F,((x,a)::l).lookup f=↑F->F.lv<=k/\Nonempty (DefX P w K mg base F.lv f F.ps<|Bs K ca F.g):=ziy hk D r
abbrev gF(x a:Str)(s:Stmt)(d:Value)(m:Str)(t c:Nat)(y:Value):FuncData:=W.fnOf x a (OI s) (Hn s) (Dg s) d .none .none (.str m t) none (.ref c) y
def fO(a b:Str)(s:Stmt)(d:Value)(m:Str)(t c:Nat)(y:Value):Obj:={(.type "function"),none,(.func<|gF a b s d m t c y),Array.mk []}
def gO(a:Str)(s:Stmt)(m:Str)(t c:Nat):Obj:=fO a a s .none m t c .none
def bV(K:q9)(b:Str):Bool:=match W.nsIn K mainGlobals b with
 |some none=>true|ϊ=>false
def HL(K:q9)(x:Str)(a:Addr):Bool:=match W.nsIn K mainGlobals x with
 |some (↑(.ref b))=>b == a|ϊ=>false
def Jl(K:q9)(b:Str)(a c:Nat)(J:Gm)(f:Fn):Bool:=W.codeIn K (.ref c) b && W.keepIn K (.ref a) && J.bl.all (bV K) && J.ce.all (λx=>J.nm.lookup x == ↑.cell) && !J.mu && (J.lv+1 == f.lv)
structure Chk(K:q9)(mg:Str->Option Value)(qual:Str)(a c:Nat)(J:Gm)(f:Fn):Prop where
 c:W.codeIn K (.ref c) qual=true
 k:W.keepIn K (.ref a)=true
 b:∀b∈J.bl,mg b=none
 e:∀x∈J.ce,J.nm.lookup x=↑.cell
 m:J.mu=false
 l:J.lv+1=f.lv
def zqr{P:Program}{w:World}{K:q9}{mg:Str->Option Value}{base:Heap}{ca:Str->Value} [q:Qx P w K mg base ca]{d:Str}{a c:Nat}{J:Gm}{f:Fn}(h:Jl K d a c J f=true):Chk K mg d a c J f:=by
 unfold Jl at h;erw[Å,Ö]at h;let(((((e,g),i),j),k),l):=h;refine{e,g,λb m=>q.n b ?_,λx n=>eq_of_beq<|j x n,DY k,eq_of_beq l}
 have:=i b m;unfold bV at this;split at this;assumption;cases this
set_option tactic.hygienic true in
def YF{P:Program}{w:World}{K:q9}{mg:Str->Option Value}{base:Heap}{ca:Str->Value} [q:Qx P w K mg base ca]{x:Str}{a:Addr}(h:HL K x a=true):mg x=↑(.ref a):=by
 unfold HL at h;split at h;rename_i b e;rw[<- eq_of_beq h];exact q.c _ _ e;cases h
structure AY(P:Program)(w:World)(K:q9)(mg:Str->Option Value)(base:Heap)(ca:Str->Value)(x qual:Str)(st:Stmt)(d:Value)(mo:Str)(t c:Nat)(y:Value)(J:Gm)(f:Fn)(V:Params->Obj)(a:Addr):Prop where
 fs:∀g F,J.fns.lookup g=↑F->F.lv<=J.lv/\Nonempty (DefX P w K mg base F.lv g F.ps<|Bs K ca F.g)
 gx:GxOk J.ox J.lv P w K mg base ca
 ex:∀c∈J.ex,∃T:ECls K mg c,ca c=.ref T.C/\Eb K T.C=↑none
 ms:∀g F,J.mus.lookup g=↑F->F.lv<=J.lv/\Nonempty (DefX P w K mg base F.lv g F.ps<|G4 K ca F.g)
 h:Chk K mg qual a c J f
 F:FunD K x qual st a<|gF x qual st d mo t c y
section
variable {P:Program}{w:World}{K:q9}{mg:Str->Option Value}{base:Heap}{ca:Str->Value} [q:Qx P w K mg base ca]{x mo qual:Str}{st:Stmt}{t c:Nat}{d y:Value}{J:Gm}{f:Fn}{u:AG}{V:Params->Obj}{a C:Addr}{fs:ki}
theorem WE(b:∀g F,J.fns.lookup g=↑F->F.lv<=J.lv/\Nonempty (DefX P w K mg base F.lv g F.ps<|Bs K ca F.g))(e:GxOk J.ox J.lv P w K mg base ca)(hex:∀c∈J.ex,∃T:ECls K mg c,ca c=.ref T.C/\Eb K T.C=↑none)(i:∀g F,J.mus.lookup g=↑F->F.lv<=J.lv/\Nonempty (DefX P w K mg base F.lv g F.ps<|G4 K ca F.g))
  (j:V w.params=fO x qual st d mo t c y) (l:K.lookup a=↑(V w.params)) (h:Jl K qual a c J f=true):AY P w K mg base ca x qual st d mo t c y J f V a:=
 have h:=zqr h
 {b,e,hex,i,h,zmb (l.trans<|congrArg some j) h.c h.k}
def Af(e:∀g F,J.fns.lookup g=↑F->F.lv<=J.lv/\Nonempty (DefX P w K mg base F.lv g F.ps<|Bs K ca F.g))(i:GxOk J.ox J.lv P w K mg base ca)(hex:∀c∈J.ex,∃T:ECls K mg c,ca c=.ref T.C/\Eb K T.C=↑none:=by exact BM)(j:∀g F,J.mus.lookup g=↑F->F.lv<=J.lv/\Nonempty (DefX P w K mg base F.lv g F.ps<|G4 K ca F.g):=by exact So)
  (n:V w.params=fO x x st d mo t c y:=by exact rfl) (l:K.lookup a=↑(V w.params):=by ext) (h:Jl K x a c J f=true:=by ext) (m:HL K x a=true:=by ext) (k:f.g=AW f.ps.length J.N.length u:=by rfl)
  (b:DF K (gF x x st d mo t c y) f.ps []):AY P w K mg base ca x x st d mo t c y J f V a/\HL K x a=true/\f.g=AW f.ps.length J.N.length u/\DF K (gF x x st d mo t c y) f.ps []:={WE e i hex j n l h,m,k,b}
def FZ(e:∀g F,J.fns.lookup g=↑F->F.lv<=J.lv/\Nonempty (DefX P w K mg base F.lv g F.ps<|Bs K ca F.g))(i:GxOk J.ox J.lv P w K mg base ca)(hex:∀c∈J.ex,∃T:ECls K mg c,ca c=.ref T.C/\Eb K T.C=↑none:=by exact BM)(j:∀g F,J.mus.lookup g=↑F->F.lv<=J.lv/\Nonempty (DefX P w K mg base F.lv g F.ps<|G4 K ca F.g):=by exact So)
  (m:V w.params=fO x qual st d mo t c y:=by exact rfl) (l:K.lookup a=↑(V w.params):=by ext) (h:Jl K qual a c J f=true:=by ext) (me:Meth K C x a:=by exact{by ext,by ext,by ext}) (k:f.g=AW f.ps.length J.N.length u:=by rfl)
  (b:DF K (gF x qual st d mo t c y) f.ps []):AY P w K mg base ca x qual st d mo t c y J f V a/\Meth K C x a/\f.g=AW f.ps.length J.N.length u/\DF K (gF x qual st d mo t c y) f.ps []:={WE e i hex j m l h,me,k,b}
def WD{z:Str}(b:∀g F,J.fns.lookup g=↑F->F.lv<=J.lv/\Nonempty (DefX P w K mg base F.lv g F.ps<|Bs K ca F.g))(e:GxOk J.ox J.lv P w K mg base ca)(hex:∀c∈J.ex,∃T:ECls K mg c,ca c=.ref T.C/\Eb K T.C=↑none:=by exact BM)(i:∀g F,J.mus.lookup g=↑F->F.lv<=J.lv/\Nonempty (DefX P w K mg base F.lv g F.ps<|G4 K ca F.g):=by exact So)
  (k:V w.params=fO x qual st d mo t c y:=by exact rfl) (l:K.lookup a=↑(V w.params):=by ext) (h:Jl K qual a c J f=true:=by ext) (m:HL K z C=true:=by ext) (ma:Mk K C a:=by exact{by ext,by ext,by ext,by ext}) (j:f.g=Em C fs f.ps.length J.N.length u:=by rfl):AY P w K mg base ca x qual st d mo t c y J f V a/\HL K z C=true/\Mk K C a/\f.g=Em C fs f.ps.length J.N.length u:={WE b e hex i k l h,m,ma,j}
def Ae(V:Params->Obj)(a:Addr)(S:Ck J f st u)(A:AY P w K mg base ca x x st d mo t c y J f V a/\HL K x a=true/\f.g=AW f.ps.length J.N.length u/\DF K (gF x x st d mo t c y) f.ps []):DefX P w K mg base f.lv x f.ps<|Bs K ca f.g:=
 {a,_,by rw[A.2.2.1,<- A.1.h.l];exact gP A.1.F S.s rfl S.n A.1.h.e rfl A.1.h.b A.1.fs A.1.ex A.1.ms A.1.h.m A.1.gx S.k,YF A.2.1,A.1.h.k,A.2.2.2}
def FX(V:Params->Obj)(a:Addr)(S:Ck J f st u)(cl:Cls K C)(A:AY P w K mg base ca x qual st d mo t c y J f V a/\Meth K C x a/\f.g=AW f.ps.length J.N.length u/\DF K (gF x qual st d mo t c y) f.ps []):MetX P w K mg base C x f.lv f.ps<|Bs K ca f.g:=
 {a,_,cl,A.2.1,by rw[A.2.2.1,<- A.1.h.l];exact gP A.1.F S.s rfl S.n A.1.h.e rfl A.1.h.b A.1.fs A.1.ex A.1.ms A.1.h.m A.1.gx S.k,A.2.2.2}
def VQ(z:Str)(C:Addr)(fs:ki)(V:Params->Obj)(a:Addr)(S:Ck J f st u)(A:AY P w K mg base ca x qual st d mo t c y J f V a/\HL K z C=true/\Mk K C a/\f.g=Em C fs f.ps.length J.N.length u):NewX P w K mg base z C f.lv f.ps<|K4 K ca C f.g:=
 {a,gF x qual st d mo t c y,YF A.2.1,A.2.2.1,by rw[A.2.2.2,<- A.1.h.l];exact zqg A.1.F S.s rfl S.n A.1.h.e rfl A.1.h.b A.1.fs A.1.ex A.1.ms A.1.h.m A.1.gx S.k}
end
def Gu:AZ (x::l) 0=↑x:=by
 have:AZ (x::l) 0=↑x:=DC rfl;exact this
def F6:AZ (x::y::l) 1=↑y:=by
 have:AZ (x::y::l) 1=↑y:=DC rfl;exact this
def L6:AZ (x::y::z::l) 2=↑z:=by
 have:AZ (x::y::z::l) 2=↑z:=DC rfl;exact this
abbrev fr(a b:Int):T:=.tup [.int a,.int b]
section
variable {b:T->AM->Option AM}{body:AG}{mc:AI}
def Du(I:Nat->AM->Prop)(j:I 0 Y)(p:∀i t Y,ts[i]?=↑t->I i Y->∃τ1,b t Y=↑τ1/\∃τ2,body τ1=↑(.nx τ2)/\I (i+1) τ2):∃Y',Ar b body ts Y=↑(.nx Y')/\I ts.length Y':=by
 have e:∀(l:qB) (k:Nat) (Y:AM),ts.drop k=l->k<=ts.length->I k Y->∃Y',Ar b body l Y=↑(.nx Y')/\I ts.length Y':=by
  intro l
  induction l with
  |nil=>
   intro k Y hd hk c
   have:k=ts.length:=by
    have:=congrArg List.length hd;simp at this;lia
   subst this;exact{(Y),rfl,c}
  |cons t l q=>
   intro k Y hd hk c
   have a:k<ts.length:=by
    have:=congrArg List.length hd;simp at this;lia
   rw[ĵ a]at hd;injection hd with m n;let(τ1,f,τ2,g,d):=p k t Y (by rw[Á a,m]) c;let(Y',h,o):=q (k+1) τ2 n a d;exact{Y',by unfold Ar;erw[f,g];exact h,o}
 exact e ts 0 Y rfl (é _) j
def zgc(I:Nat->AM->Prop)(d:T->Prop)(n:I 0 Y)(r:∀i t Y,ts[i]?=↑t->I i Y->∃τ1,b t Y=↑τ1/\((∃τ2,(body τ1=↑(.nx τ2)\/body τ1=↑(.ct τ2))/\I (i+1) τ2)\/∃v,body τ1=↑(.rt v)/\d v)) :
  (∃Y',Ar b body ts Y=↑(.nx Y')/\I ts.length Y')\/∃v,Ar b body ts Y=↑(.rt v)/\d v:=by
 have m:∀(l:qB) (k:Nat) (Y:AM),ts.drop k=l->k<=ts.length->I k Y->(∃Y',Ar b body l Y=↑(.nx Y')/\I ts.length Y')\/∃v,Ar b body l Y=↑(.rt v)/\d v:=by
  intro l
  induction l with
  |nil=>
   intro k Y hd hk h
   have:k=ts.length:=by
    have:=congrArg List.length hd;simp at this;lia
   subst this;exact .inl {(Y),rfl,h}
  |cons t l u=>
   intro k Y hd hk h
   have c:k<ts.length:=by
    have:=congrArg List.length hd;simp at this;lia
   rw[ĵ c]at hd;injection hd with o p;let(τ1,e,q):=r k t Y (by rw[Á c,o]) h;rcases q with ⟨τ2,a,j⟩|⟨v,a,s⟩;rcases u (k+1) τ2 p c j with ⟨Y',f,g⟩|⟨v,f,g⟩;refine .inl {Y',?_,g};unfold Ar;rcases a with a|a<;>erw[e,a]<;>exact f;refine .inr {v,?_,g};unfold Ar;rcases a with a|a<;>erw[e,a]<;>exact f;exact .inr {v,by unfold Ar;erw[e,a],s}
 exact m ts 0 Y rfl (é _) n
def zka(I:AM->Prop)(μ:AM->Nat)(i:I Y)(k:∀Y,I Y->(∃bb,mc Y=↑(.v (.bl true) bb)/\∃τ2,body Y=↑(.nx τ2)/\I τ2/\μ τ2<μ Y)\/∃bb,mc Y=↑(.v (.bl false) bb)) :
  ∃Y',El mc body Y=↑(.nx Y')/\I Y'/\∃bb,mc Y'=↑(.v (.bl false) bb):=by
 have c:∀(n:Nat) (Y:AM),μ Y<n->I Y->∃Y',DH mc body n Y=↑(.nx Y')/\I Y'/\∃bb,mc Y'=↑(.v (.bl false) bb):=by
  intro n
  induction n with
  |zero=>intro Y h;exact absurd h (Nat.not_lt_zero _)|succ n l=>
   intro Y o d;rcases k Y d with ⟨bb,a,τ2,f,b,m⟩|⟨bb,a⟩;let(Y',g,j):=l τ2 (by lia) b;exact{Y',by unfold DH;erw[a,f];exact g,j};exact{Y,by unfold DH;erw[a],d,bb,a}
 let(Y',e,h):=c (μ Y+1) Y (Ĝ _) i;exact{Y',Xy e,h}
def J8(I:Nat->AM->Prop)(f )(j:I 0 Y)(o:∀i t Y,ts[i]?=↑t->I i Y->∃τ1,b t Y=↑τ1/\me τ1=↑(.v (f i) false)/\I (i+1) τ1) :
  CJ b (mC<|.bl true) me ts Y=↑((List.range ts.length).map f):=by
 have d:∀(l ) (k ) (Y ),ts.drop k=l->k<=ts.length->I k Y->CJ b (mC<|.bl true) me l Y=↑((List.range' k l.length).map f):=by
  intro l
  induction l with
  |nil=>intro k Y _ _ _;rfl|cons t l p=>
   intro k Y hd hk n
   have a:k<ts.length:=by
    grind
   rw[ĵ a]at hd;injection hd with q m;let(τ1,e,g,c):=o k t Y (by grind) n;have h:=p (k+1) τ1 m a c;unfold CJ;erw[e,mC,g,h];rfl
 have:=d ts 0 Y rfl (é _) j;rw[this,<- List.range_eq_range']
end
def E9{i j:Int}(h:E4 j=true):CH i j=true:=by unfold CH;grind
def JV{i j:Int}(h:E4 i=true):CH i j=true:=by unfold CH;grind
def zlm(a:Bu i=true)(b:Bu j=true):CH i j=true:=by unfold CH;grind
def EC(a:-(2 ^ 64)<i)(b:i<2 ^ 64):E4 i=true:=@decide_eq_true _ (Classical.propDecidable _) {(a),b}
def C6(a:-(10 ^ 70)<i)(b:i<10 ^ 70):Bu i=true:=@decide_eq_true _ (Classical.propDecidable _) {(a),b}
def fm{i j:Int}(h:0<j):i.fmod j=i % j:=Int.fmod_eq_emod_of_nonneg i<|by lia
def fd{i j:Int}(h:0<j):i.fdiv j=i / j:=Ŝ i<|by lia
def DQ{i j:Int}:Au (.int i) (.int j)=↑(.bl<|i == j):=by
 rfl
def Ga{i j:Int}:Cd (.int i) (.int j)=↑(.bl<|!(i == j)):=by
 rfl
mutual
noncomputable def EF:PyData->Bool
 |.bool ϊ=>false|.dict ϊ=>false|.list xs=>HX xs|.tuple xs=>HX xs|ϊ=>true
noncomputable def HX:List PyData->Bool
 |[]=>true|x::xs=>EF x && HX xs
end
mutual
theorem jO:∀d d':PyData,EF d=true->EF d'=true->(PyData.eqv d d'=true ↔ d=d')
 |.none,d',ϊ,a=>by cases d'<;>simp[PyData.eqv,EF]at a ⊢|.int i,d',ϊ,a=>by cases d'<;>simp[PyData.eqv,EF]at a ⊢|.str x,d',ϊ,a=>by cases d'<;>simp[PyData.eqv,EF]at a ⊢|.bool ϊ,ϋ,h,ό=>by simp[EF]at h|.dict ϊ,ϋ,h,ό=>by simp[EF]at h|.list xs,d',h,a=>by
  cases d' with
  |list b=>
   have:=VH xs b (by simpa[EF] using h)<|by simpa[EF] using a
   erw[PyData.eqv];rw[this];simp
  |_=>simp[PyData.eqv,EF]at a ⊢
 |.tuple xs,d',h,a=>by
  cases d' with
  |tuple b=>
   have:=VH xs b (by simpa[EF] using h)<|by simpa[EF] using a
   erw[PyData.eqv];rw[this];simp
  |_=>simp[PyData.eqv,EF]at a ⊢
theorem VH:∀xs ys:List PyData,HX xs=true->HX ys=true->(PyData.eqvAll xs ys=true ↔ xs=ys)
 |[],[],ϊ,ϋ=>by simp[PyData.eqvAll]|[],ϊ::ϋ,ό,ύ=>by simp[PyData.eqvAll]|ϊ::ϋ,[],ό,ύ=>by simp[PyData.eqvAll]|x::xs,y::ys,a,b=>by
  erw[HX,Å]at a b;have c:=jO x y a.1 b.1;have d:=VH xs ys a.2 b.2;erw[PyData.eqvAll,Å,c,d,List.cons.injEq]
end
structure Fit(t:T)(n:Nat):Prop where
 fit:EW t=true
 nb:EF t.data=true
 dep:t.data.depth<=n
theorem Fit.int(i)(n):Fit (.int i) n:={rfl,rfl,by simp[T.data,PyData.depth]}
def jI:∀{l} {n},(∀t∈l,Fit t n)->(Ep l=true/\PyData.canLayAll0 (B8 l)=true)/\HX (B8 l)=true/\PyData.depthAll (B8 l)<=n
 |[],n,ϊ=>{{(rfl),rfl},rfl,é _}|t::r,n,h=>by
  let(a,c,f):=h t (Ë ..);let((b,g1),g2,e):=jI λx d=>h x<|Ê _ d
  unfold EW at a;rw[Å]at a;refine{{by rw[Ep,a.1,b];rfl,by rw[B8,PyData.canLayAll0,a.2,g1];rfl},by rw[B8,HX,c,g2];rfl,?_};rw[B8,PyData.depthAll];lia
def Fit.nd(h:∀t∈l,Fit t n):Fit (.nd o k l)<|n+1:=by
 let(g1,g2,a):=jI h;cases k<;>exact{by simpa[EW,T.data,T.pln,PyData.canLay0] using g1,by simpa[T.data,EF] using g2,by simpa[T.data,PyData.depth] using a}
theorem Fit.tup{l:qB}{n:Nat}(h:∀t∈l,Fit t n):Fit (.tup l)<|n+1:=Fit.nd h
open Classical in
def jP{t u:T}{n m:Nat}(h:Fit t n)(a:Fit u m)(b:n<=60):Au t u=↑(.bl<|decide (t.data=u.data))/\Cd t u=↑(.bl<|!decide (t.data=u.data)):=by
 have ok:Hm t u=true:=by
  unfold Hm;rw[h.fit,a.fit,Ç (by have:=h.dep;lia)];rfl
 have e:Jk t u=decide (t.data=u.data):=by
  unfold Jk;rw[Bool.eq_iff_iff,jO _ _ h.nb a.nb];simp
 unfold Au Cd;rw[if_pos ok,if_pos ok,e];exact{(rfl),rfl}
def IG:∀ns:kj,BP (ns.map T.int)=ns.map T.int
 |[]=>rfl|n::r=>by rw[Ù,BP,IG r];rfl
def JH:∀ns:kj,A3 (ns.map T.int)=true
 |[]=>rfl|n::r=>by rw[Ù,A3,JH r];rfl
def zc7(ns):(Co ns).share=Co ns:=by unfold Co;rw[T.share,IG]
def zf9(ns):(Co ns).sh=true:=by unfold Co;rw[T.sh,JH];rfl
def L5{x:α}(a:0<=k)(h:l[k.toNat]?=↑x):AZ l k=↑x:=by
 have:AZ l ((k.toNat:Nat):Int)=↑x:=DC h;rwa[Int.toNat_of_nonneg a]at this
def VS(f:α->β)(l)(lo hi):Bi (l.map f) lo hi=(Bi l lo hi).map f:=by
 unfold Bi;simp
def zmk(l:List α)(lo hi):(Bi l lo hi).length<=l.length:=by
 unfold Bi;rw[ù,List.length_drop];exact Ú (Nat.min_le_right ..) (Nat.sub_le ..)
def zhw(l:kj):BP (l.map T.int)=l.map T.int:=IG l
end Pu
namespace Zm
end Zm
namespace Db
open PySem
def Sh(a b):((a &&& b) % 2=1) ↔ (a % 2=1/\b % 2=1):=Nat.and_mod_two_eq_one
def Kh(a:Nat):(a:Int) % 2=1 ↔ a % 2=1:=by lia
def Kg(a:Nat):(Int.negSucc a) % 2=1 ↔ ¬ a % 2=1:=by lia
def Yt(a c:Nat):((a:Int) - c) % 2=1 ↔ ¬ (a % 2=1 ↔ c % 2=1):=by lia
def zjo(x y):Builtin.bitAnd x y % 2=1 ↔ (x % 2=1/\y % 2=1):=by
 have d:∀a:Nat,Builtin.bitNot (Int.negSucc a)=(a:Int):=λa=>by
  unfold Builtin.bitNot;lia
 cases x with
 |ofNat a=>
  cases y with
  |ofNat b=>show((a &&& b:Nat):Int) % 2=1 ↔ ((a:Int) % 2=1/\(b:Int) % 2=1);rw[Kh,Kh,Kh,Sh]|negSucc b=>show((a:Int) - ((a &&& (Builtin.bitNot<|Int.negSucc b).toNat:Nat):Int)) % 2=1 ↔ ((a:Int) % 2=1/\(Int.negSucc b) % 2=1);rw[d,ï,Yt,Kh,Kg,Sh];exact{λh=>{Classical.byContradiction λz=>h {λq=>absurd q z,λq=>q.1},λz=>h {λq=>{(q),z},λq=>q.1}},λh z=>h.2 (z.mp h.1).2}
 |negSucc a=>
  cases y with
  |ofNat b=>show((b:Int) - ((b &&& (Builtin.bitNot<|Int.negSucc a).toNat:Nat):Int)) % 2=1 ↔ ((Int.negSucc a) % 2=1/\(b:Int) % 2=1);rw[d,ï,Yt,Kh,Kg,Sh];exact{λh=>{λz=>h {λq=>{(q),z},λq=>q.1},Classical.byContradiction λz=>h {λq=>absurd q z,λq=>q.1}},λh z=>h.1 (z.mp h.2).2}|negSucc b=>
   show(Builtin.bitNot (((Builtin.bitNot<|Int.negSucc a).toNat ||| (Builtin.bitNot<|Int.negSucc b).toNat:Nat):Int)) % 2=1 ↔ _
   have nb:∀c:Nat,Builtin.bitNot (c:Int)=Int.negSucc c:=λc=>by
    unfold Builtin.bitNot;lia
   rw[d,d,ï,ï,nb,Kg,Kg,Kg,Nat.or_mod_two_eq_one];exact not_or
def band_one(x):Builtin.bitAnd x 1=x % 2:=by
 cases x with
 |ofNat a=>
  show((a &&& 1:Nat):Int)=(a:Int) % 2;rw[Nat.and_one_is_mod];rfl
 |negSucc a=>
  show((1:Nat):Int) - (((1:Nat) &&& (Builtin.bitNot<|Int.negSucc a).toNat:Nat):Int)=_;rw[show Builtin.bitNot (Int.negSucc a)=a by unfold Builtin.bitNot;lia,ï,Nat.and_comm,Nat.and_one_is_mod];lia
def bor_one(x y):Builtin.bitAnd (Builtin.bitOr x y) 1=max (x % 2) (y % 2):=by
 rw[band_one];have h:=zjo (Builtin.bitNot x)<|Builtin.bitNot y;unfold Builtin.bitOr;change Builtin.bitAnd (Builtin.bitNot x) (Builtin.bitNot y)=c
 have nb:∀z:Int,Builtin.bitNot z % 2=1 - z % 2:=λz=>by
  unfold Builtin.bitNot;lia
 rw[nb,nb]at h;rw[nb];rcases Ŀ x with e|e<;>rcases Ŀ y with f|f<;>rw[e,f]at h ⊢<;>rcases Ŀ c with g|g<;>rw[g]at h ⊢<;>revert h<;>decide
def bs(a b:Int):Int:=2 * (a / 2+b / 2)+min (a % 2) (b % 2)
def bs_eq(a b:Int):a+b - max (a % 2) (b % 2)=bs a b:=by unfold bs;lia
def zqs(a:Int):bs a 1=a:=by unfold bs;lia
def zp6(a:Int):bs 1 a=a:=by unfold bs;lia
def zmp(a b:Int):bs a b=bs b a:=by unfold bs;lia
def cU(a b:Int):min (a % 2) (b % 2)=0\/min (a % 2) (b % 2)=1:=by
 rcases Ŀ a with e|e<;>rcases Ŀ b with f|f<;>rw[e,f]<;>decide
def kU(a b:Int):bs a b / 2=a / 2+b / 2:=by
 have h:=cU a b;unfold bs;change a / 2+b / 2=k;change min (a % 2) (b % 2)=m;lia
def kT(a b:Int):bs a b % 2=min (a % 2) (b % 2):=by
 have h:=cU a b;unfold bs;change a / 2+b / 2=k;change min (a % 2) (b % 2)=m;lia
def zjn(a b c):bs (bs a b) c=bs a (bs b c):=by
 show 2 * (bs a b / 2+c / 2)+min (bs a b % 2) (c % 2)=2 * (a / 2+bs b c / 2)+min (a % 2) (bs b c % 2);rw[kU,kU,kT,kT,Int.add_assoc,Int.min_assoc]
def zmo(h:a<=a')(c:b<=b'):bs a b<=bs a' b':=by unfold bs;lia
abbrev B:=ke
def le:B->B->Prop
 |ϊ,none=>True|none,↑ϊ=>False|some a,↑b=>a<=b
def add:B->B->B
 |some a,↑b=>↑(bs a b)|ϊ,ϋ=>none
def mn:B->B->B
 |none,b=>b|some a,none=>↑a|some a,↑b=>↑(min a b)
def le_refl(a:B):le a a:=by cases a<;>simp[le]
def le_trans(h:le a b)(d:le b c):le a c:=by
 cases a<;>cases b<;>cases c<;>simp_all [le];lia
def Nb(h:le a b)(c:le b a):a=b:=by
 cases a<;>cases b<;>simp_all [le];lia
def add_mono(h:le a b)(e:le c d):le (add a c)<|add b d:=by
 cases a<;>cases b<;>cases c<;>cases d<;>simp_all [le,add];exact zmo h e
def add_comm(a b:B):add a b=add b a:=by
 cases a<;>cases b<;>simp[add,zmp]
def add_assoc(a b c):add (add a b) c=add a (add b c):=by
 cases a<;>cases b<;>cases c<;>simp[add,zjn]
def WI(a:B):add a ↑1=a:=by cases a<;>simp[add,zqs]
def NH(a:B):add ↑1 a=a:=by cases a<;>simp[add,zp6]
def FL(a b:B):le (mn a b) a:=by
 cases a<;>cases b<;>simp[le,mn];lia
def Gc(a b:B):le (mn a b) b:=by
 cases a<;>cases b<;>simp[le,mn];lia
def Kv(h:le a b)(d:le a c):le a<|mn b c:=by
 cases a<;>cases b<;>cases c<;>simp_all [le,mn];lia
def mn_of_le{a b:B}(h:le a b):mn a b=a:=Nb (FL a b)<|Kv (le_refl a) h
def Ko(a b):mn a b=a\/mn a b=b:=by
 cases a<;>cases b<;>simp[mn];lia
def le_total(a b:B):le a b\/le b a:=by
 cases a<;>cases b<;>simp[le];lia
abbrev Z:=Nat->Nat->B
def free(i j:Nat):B:=if i=0\/i=j then ↑1 else none
def z0(f:Z):Z:=λi j=>mn (f i j)<|free i j
def stp(f:Z)(k:Nat):Z:=λi j=>mn (f i j)<|add (f i k)<|f k j
def fw(f:Z):Nat->Z
 |0=>z0 f|k+1=>stp (fw f k) k
def Brk(n:Nat)(f:Z):Prop:=∃i,i<n/\¬ le ↑1 (f i i)
def Sound(n:Nat)(f:Z):Prop:=∀k,k<n->¬ Brk n (fw f k)
def diag_le(f)(i):∀k,le (fw f k i i) ↑1
 |0=>by
  have h:=Gc (f i i)<|free i i;have e:free i i=↑1:=if_pos<|.inr rfl;rw[e]at h;show le (mn (f i i)<|free i i) _
  grind
 |k+1=>le_trans (FL _ _)<|diag_le f i k
def f6(f)(i j):∀k,le (fw f k i j)<|f i j
 |0=>FL _ _|k+1=>le_trans (FL _ _)<|f6 f i j k
def fZ(f)(i j):∀k,le (fw f k i j)<|z0 f i j
 |0=>le_refl _|k+1=>le_trans (FL _ _)<|fZ f i j k
def VP(h:¬ Brk n (fw f k))(b:i<n):fw f k i i=↑1:=by
 refine Nb (diag_le f i k) ?_;cases Classical.em (le ↑1<|fw f k i i) with
 |inl a=>exact a|inr a=>exact(h {(i),b,a}).elim
def tri(h:Sound n f):∀k,k<=n->∀i j l,l<k->i<n->j<n->le (fw f k i j) (add (fw f k i l)<|fw f k l j)
 |0,ϊ,ϋ,ό,l,s,ύ,ώ=>by lia|k+1,hk,i,j,l,s,p,q=>by
  have o:=VP (h k<|by lia)<|show k<n by lia
  have inv:=tri h k<|by lia
  show le (stp (fw f k) k i j)<|add (stp (fw f k) k i l)<|stp (fw f k) k l j;generalize t:fw f k=g at *
  by_cases e:l=k;subst e;have c:stp g l i l=g i l:=by unfold stp;rw[o,WI];exact mn_of_le<|le_refl _
  have d:stp g l l j=g l j:=by unfold stp;rw[o,NH];exact mn_of_le<|le_refl _
  rw[c,d];exact Gc _ _;have lk:l<k:=by lia
  have r:le (stp g k i j)<|g i j:=FL _ _;have m:le (stp g k i j)<|add (g i k)<|g k j:=Gc _ _
  rcases Ko (g i l) (add (g i k)<|g k l) with c|c<;>rcases Ko (g l j) (add (g l k)<|g k j) with d|d;have:stp g k i l=g i l:=c;have a:stp g k l j=g l j:=d;rw[this,a];exact le_trans r<|inv i j l lk p q
  have b:stp g k i l=g i l:=c;have a:stp g k l j=add (g l k) (g k j):=d;rw[b,a,<- add_assoc];exact le_trans m<|add_mono (inv i k l lk p<|by lia)<|le_refl _
  have b:stp g k i l=add (g i k) (g k l):=c;have a:stp g k l j=g l j:=d;rw[b,a,add_assoc];exact le_trans m<|add_mono (le_refl _)<|inv k j l lk (by lia) q
  have b:stp g k i l=add (g i k) (g k l):=c;have a:stp g k l j=add (g l k) (g k j):=d;rw[b,a,add_assoc,<- add_assoc<|g k l];refine le_trans m<|add_mono (le_refl _) ?_;have:=add_mono (inv k k l lk (by lia)<|by lia)<|le_refl<|g k j
  rw[o,NH]at this;exact this
structure Nar(n:Nat)(f:Z):Prop where
 diag:∀i,i<n->f i i=↑1
 row:∀j,j<n->le (f 0 j) ↑1
 tri:∀i j l,i<n->j<n->l<n->le (f i j) (add (f i l)<|f l j)
def nar(h:Sound n f):Nar n<|fw f n:=by
 have t:=tri h n<|Æ n;refine{λi a=>?_,λj b=>?_,λi j l a b d=>t i j l d a b}
 refine Nb (diag_le f i n) ?_;cases n with
 |zero=>lia|succ m=>
  have c:=VP (h m<|by lia)<|show m<m+1 by lia
  have g:=VP (h m<|by lia) a;refine Kv (by rw[g];exact le_refl _) ?_;by_cases e:i=m;subst e;rw[c];exact le_refl _;have:=Db.tri h m (by lia) m m i (by lia) (by lia)<|by lia
  rw[c,add_comm]at this;exact this
 refine le_trans (fZ f 0 j n) ?_;have:=Gc (f 0 j)<|free 0 j;exact this
def Sg(h:Nar n f):∀k,k<=n->∀i j,i<n->j<n->fw f k i j=f i j
 |0,ϊ,i,j,a,b=>by
  refine mn_of_le ?_;unfold free;by_cases e:i=0\/i=j;rw[if_pos e];rcases e with rfl|rfl;exact h.row j b;rw[h.diag i a];exact le_refl _;rw[if_neg e];cases f i j<;>simp[le]
 |k+1,hk,i,j,a,b=>by
  have c:=Sg h k<|by lia
  show mn (fw f k i j) (add (fw f k i k)<|fw f k k j)=_;rw[c i j a b,c i k a (by lia),c k j (by lia) b];exact mn_of_le<|h.tri i j k a b<|by lia
def sat(D:Int):B->Int->Prop
 |none,ϊ=>True|some c,d=>d<=c / 2 * D - 1+c % 2
set_option tactic.hygienic true in
def zk7(h:sat D a d)(g:sat D b e):sat D (add a b)<|d+e:=by
 cases a<;>cases b<;>erw[sat,add]at *;rename_i a b;have c:bs a b / 2=a / 2+b / 2:=by unfold bs;lia
 have f:bs a b % 2=min (a % 2) (b % 2):=by unfold bs;lia
 rw[c,f,Int.add_mul];lia
set_option tactic.hygienic true in
def sat_le(c:0<D)(h:sat D a d)(e:le a b):sat D b d:=by
 cases a<;>cases b<;>erw[sat,le]at *;rename_i a b;rcases Ł (a / 2) (b / 2) with q|q;have:(a / 2+1) * D<=b / 2 * D:=ś (by lia)<|by lia
 grind;grind
def QP(h:sat D a d)(c:sat D b d):sat D (mn a b) d:=by
 rcases Ko a b with e|e<;>rw[e]<;>assumption
def Lie(n:Nat)(D:Int)(X:Nat->Int)(f:Z):Prop:=∀i j,i<n->j<n->sat D (f i j) (X i - X j)
def lie_fw(d:X 0=0)(e:∀i,i<n->0<=X i)(h:Lie n D X f):∀k,k<=n->Lie n D X (fw f k)
 |0,ϊ,i,j,a,b=>by
  refine QP (h i j a b) ?_;unfold free;split;erw[sat];grind;trivial
 |k+1,hk,i,j,a,b=>by
  have c:=lie_fw d e h k<|by lia
  refine QP (c i j a b) ?_;have:=zk7 (c i k a<|by lia)<|c k j (by lia) b
  grind
def lie_sound(m:0<D)(b:X 0=0)(d:∀i,i<n->0<=X i)(h:Lie n D X f):Sound n f:=by
 intro k hk ⟨i,a,g⟩;have q:=lie_fw b d h k (by lia) i i a a
 refine g ?_;cases e:fw f k i i with
 |none=>trivial|some c=>
  rw[e]at q;erw[sat,le]at *;rcases Ł (c / 2) 0 with j|j;have:c / 2 * D<=-1 * D:=ś (by lia)<|by lia
  lia;rcases Ł 0 (c / 2) with l|l;lia;grind
def satB(D:Int)(c:B)(d:Int):Bool:=match c with
 |none=>true|some c=>decide (d<=c / 2 * D - 1+c % 2)
def satB_iff:satB D c d=true ↔ sat D c d:=by
 cases c<;>simp[satB,sat]
theorem cQ(h:le a b)(e:le c d):le (mn a c)<|mn b d:=Kv (le_trans (FL a c) h)<|le_trans (Gc a c) e
def Ud(h:∀i j,i<n->j<n->le (f i j) (g i j)):∀k,k<=n->∀i j,i<n->j<n->le (fw f k i j) (fw g k i j)
 |0,ϊ,i,j,a,b=>cQ (h i j a b) (le_refl _)|k+1,hk,i,j,a,b=>by
  have c:=Ud h k<|by lia
  exact cQ (c i j a b)<|add_mono (c i k a<|by lia)<|c k j (by lia) b
def zpj(h:Nar n f)(c:∀i j,i<n->j<n->le (f i j) (g i j)):∀i j,i<n->j<n->le (f i j) (fw g n i j):=λi j a b=>by
 have:=Ud c n (Æ n) i j a b;rwa[Sg h n (Æ n) i j a b]at this
theorem lie_mono(c:0<D)(h:Lie n D X f)(d:∀i j,i<n->j<n->le (f i j) (g i j)):Lie n D X g:=λi j a b=>sat_le c (h i j a b)<|d i j a b
def zm(M:Nat->B):Nat->B
 |0=>↑0|i+1=>M i
def fldB(c:B)(d b:B):B:=match c with
 |none=>none|some c=>match d with
  |some m=>if m<c / 2 then none else (match b with
   |some a=>if c / 2 < -a then ↑(2 * -a) else ↑c
   |none=>↑c)
  |none=>(match b with
   |some a=>if c / 2 < -a then ↑(2 * -a) else ↑c
   |none=>↑c)
def fld(f:Z)(M:Nat->B):Z:=λi j=>if i=j then f i j else fldB (f i j) (M i) (M j)
def zmc(c mi mj):le c<|fldB c mi mj:=by
 unfold fldB;cases c with
 |none=>trivial|some c=>
  cases mi<;>cases mj<;>simp only;exact le_refl _;split;erw[le];lia;exact le_refl _;split;trivial;exact le_refl _;split;trivial;split;erw[le];lia;exact le_refl _
def fld_le(f)(M)(i j):le (f i j)<|fld f M i j:=by
 unfold fld;split;exact le_refl _;exact zmc _ _ _
end Db
namespace Db
end Db
namespace Dv
open Db
def ins(f:Z)(a b:Nat)(e:B):Z:=λi j=>mn (f i j)<|add (f i a)<|add e<|f b j
def ins_nar{n:Nat}{f:Z}(h:Nar n f){a b:Nat}{e:B}(m:a<n)(o:b<n)(r:le ↑1<|add (f b a) e):Nar n<|ins f a b e:=by
 have one:∀x y z:B,le ↑1 z->le (add x y) (add (add x z) y):=λx y z s=>by
  have:=add_mono (add_mono (le_refl x) s)<|le_refl y
  rwa[WI]at this
 refine{λi c=>?_,λj d=>le_trans (FL _ _)<|h.row j d,λi j l c d g=>?_};show mn (f i i) _=_;rw[h.diag i c];refine mn_of_le ?_;have t:=h.tri b a i o m c;refine le_trans r ?_;have k:=add_mono t<|le_refl e;refine le_trans k ?_;rw[add_comm e,<- add_assoc,add_comm<|f b i];exact le_refl _
 have m1:le (ins f a b e i j)<|f i j:=FL _ _;have m2:le (ins f a b e i j)<|add (f i a)<|add e<|f b j:=Gc _ _;have u:ins f a b e i l=f i l\/ins f a b e i l=add (f i a) (add e<|f b l):=Ko _ _;have v:ins f a b e l j=f l j\/ins f a b e l j=add (f l a) (add e<|f b j):=Ko _ _
 rcases u with p|p<;>rcases v with q|q<;>rw[p,q];exact le_trans m1<|h.tri i j l c d g
 refine le_trans m2 ?_;rw[<- add_assoc<|f i l];exact add_mono (h.tri i a l c m g)<|le_refl _
 refine le_trans m2 ?_;rw[add_assoc,add_assoc];exact add_mono (le_refl _)<|add_mono (le_refl _)<|h.tri b j l o d g
 refine le_trans m2 ?_;rw[add_assoc,add_assoc];refine add_mono (le_refl _) ?_;have t:=h.tri b a l o m g;have w:le ↑1<|add (add (f b l)<|f l a) e:=le_trans r<|add_mono t<|le_refl e;have k:=add_mono (le_refl e)<|add_mono w<|le_refl<|f b j;rw[NH]at k;refine le_trans k ?_;rw[add_assoc,add_assoc];exact le_refl _
def Pr(f:Z)(p:Nat->Int)(i j:Nat):Prop:=∃c,f i j=↑c/\c % 2=0/\p i - p j=c / 2
open Classical in
def Fz(n:Nat)(f:Z)(p:Nat->Int)(j:Nat):Nat:=(List.range n).countP λi=>decide (Pr f p i j)
def Ly(n:Nat)(f:Z)(p:Nat->Int):Prop:=∀i j c,i<n->j<n->f i j=↑c->p i - p j<=c / 2
def XD{n:Nat}{f:Z}(h:Nar n f){p:Nat->Int}(m:Ly n f p){i k j:Nat}(b:i<n)(hk:k<n)(hj:j<n){c d:Int}(e:f i k=↑c)(l:f k j=↑d)(r:p i - p k=c / 2)(s:p k - p j=d / 2) :
  ∃g,f i j=↑g/\p i - p j=g / 2/\g % 2<=c % 2/\g % 2<=d % 2:=by
 have t:=h.tri i j k b hj hk;rw[e,l]at t;cases a:f i j with
 |none=>rw[a]at t;exact t.elim|some g=>rw[a]at t;have q:=m i j g b hj a;have o:g<=bs c d:=t;unfold bs at o;exact{g,rfl,by lia,by lia,by lia}
def kC{α:Type}{l:List α}{p q:α->Bool}(h:∀x∈l,p x=true->q x=true):l.countP p<=l.countP q:=List.countP_mono_left h
def VV{α:Type}:∀{l:List α} {p q:α->Bool} {a:α},a∈l->(∀x∈l,p x=true->q x=true)->p a=false->q a=true->l.countP p<l.countP q
 |[],ϊ,ϋ,ό,h,ύ,ώ,Ϗ=>by cases h|x::l,p,q,a,h,b,d,e=>by
  rw[List.countP_cons,List.countP_cons];have i:=kC (l:=l) (p:=p) (q:=q) λy c=>b y<|Ê _ c;rcases Ì.mp h with rfl|f
  erw[d,e];simp;lia;have:=VV f (λy c=>b y<|Ê _ c) d e;cases g:p x with
  |false=>cases q x<;>simp<;>lia|true=>rw[b x (Ë ..) g];simp;lia
def SJ{n:Nat}{f:Z}(h:Nar n f){p:Nat->Int}{j:Nat}(hj:j<n):Fz n f p j<n:=by
 have:=VV (l:=List.range n) (a:=j) (p:=λi=>@decide (Pr f p i j) (Classical.propDecidable _)) (q:=λϊ=>true) (â.mpr hj) (λϊ ϊ ϊ=>rfl) ?_ rfl;rw[List.countP_eq_length.mpr<|λϊ ϊ=>rfl,ź]at this;exact this;refine @decide_eq_false _ (Classical.propDecidable _) ?_;rintro⟨c,e,b,d⟩;rw[h.diag j hj]at e;cases e;lia
def zkb{n:Nat}{f:Z}(h:Nar n f){p:Nat->Int}(q:Ly n f p){i j:Nat}(o:i<n)(hj:j<n){c:Int}(e:f i j=↑c)(t:p i - p j=c / 2):Fz n f p i<=Fz n f p j:=by
 refine kC λk hk hd=>?_;have a:=@of_decide_eq_true _ (Classical.propDecidable _) hd;refine @decide_eq_true _ (Classical.propDecidable _) ?_;let(d,b,s,m):=a;let(g,l,r,g1,g2):=XD h q (â.mp hk) o hj b e m t;exact{g,l,by lia,r}
def zhk{n:Nat}{f:Z}(h:Nar n f){p:Nat->Int}(u:Ly n f p){i j:Nat}(m:i<n)(hj:j<n){c:Int}(e:f i j=↑c)(o:c % 2=0)(t:p i - p j=c / 2):Fz n f p i<Fz n f p j:=by
 refine VV (a:=i) (â.mpr m) (λk hk hd=>?_) ?_ ?_;have l:=@of_decide_eq_true _ (Classical.propDecidable _) hd;refine @decide_eq_true _ (Classical.propDecidable _) ?_;let(d,b,s,q):=l;let(g,r,v,g1,g2):=XD h u (â.mp hk) m hj b e q t;exact{g,r,by lia,v}
 refine @decide_eq_false _ (Classical.propDecidable _) ?_;rintro⟨d,b,s,q⟩;rw[h.diag i m]at b;cases b;lia;exact @decide_eq_true _ (Classical.propDecidable _) {(c),e,o,t}
def vals_of{n:Nat}{f:Z}(h:Nar n f){p:Nat->Int}(d:Ly n f p){u:Int}(k:(n:Int)<=u):∃q:Nat->Int,(∀i,i<n->0<=q i/\q i<n)/\Lie n u (λi=>p i * u+q i) f:=by
 refine{λi=>(Fz n f p i:Nat),λi a=>{Ű _,Int.ofNat_lt.mpr<|SJ h (p:=p) a},λi j a b=>?_};cases e:f i j with
 |none=>trivial|some c=>
  erw[sat];have l:=SJ h (p:=p) a;have m:=SJ h (p:=p) b;have q:=d i j c a b e
  have g:p i * u+(Fz n f p i:Int) - (p j * u+(Fz n f p j:Int))=(p i - p j) * u+((Fz n f p i:Int) - Fz n f p j):=by
   rw[ē];lia
  rw[g];by_cases t:p i - p j=c / 2;rw[t];have r1:=zkb h d a b e t
  by_cases o:c % 2=0;have r:=zhk h d a b e o t;lia;lia;have:(p i - p j+1) * u<=c / 2 * u:=ś (by lia)<|by lia
  rw[Int.add_mul,Int.one_mul]at this;lia
def low(f:Z)(j:Nat):Int:=match f 0 j with
 |some c=>-(c / 2)|none=>0
def low_feas{n:Nat}{f:Z}(h:Nar n f)(m:0<n):Ly n f (low f)/\low f 0=0:=by
 refine{λi j c k l e=>?_,?_};have t:=h.tri 0 j i m l k;have r1:=h.row i k;have o:=h.row j l;unfold low;cases d:f 0 i with
 |none=>rw[d]at r1;exact r1.elim|some a=>
  cases g:f 0 j with
  |none=>rw[g]at o;exact o.elim|some b=>
   rw[d,g,e]at t;have p:b<=bs a c:=t;unfold bs at p;simp only
   lia
 unfold low;rw[h.diag 0 m];rfl
abbrev Lim:=Nat×Nat×Int
def In(n:Nat)(L:List Lim):Prop:=∀x∈L,x.1<n/\x.2.1<n
section
end
end Dv
namespace Dm
open Db
def wtd(f:Z):Z:=λi j=>if 0<i/\j=0 then none else f i j
def pbk(f:Z)(s:Nat->Nat):Z:=λi j=>f (s i)<|s j
def d9(a:B):le a none:=by cases a<;>trivial
def wtd_le(f:Z)(i j:Nat):le (f i j)<|wtd f i j:=by
 unfold wtd;split;exact d9 _;exact le_refl _
def zjp(a:B):add a none=none:=by cases a<;>rfl
def zi2(a:B):add none a=none:=rfl
def wtd_nar{n:Nat}{f:Z}(h:Nar n f):Nar n<|wtd f:=by
 refine{λi a=>?_,λj b=>?_,λi j l a b c=>?_};rw[wtd,if_neg<|by lia];exact h.diag i a;rw[wtd,if_neg<|by lia];exact h.row j b;by_cases e:0<i/\j=0
 have:add (wtd f i l) (wtd f l j)=none:=by
  by_cases d:l=0;rw[show wtd f i l=none by rw[wtd,if_pos {(e.1),d}],zi2];rw[show wtd f l j=none by rw[wtd,if_pos {by lia,e.2}],zjp]
 rw[this];exact d9 _;rw[show wtd f i j=f i j by rw[wtd,if_neg e]];exact le_trans (h.tri i j l a b c)<|add_mono (wtd_le f i l)<|wtd_le f l j
theorem pbk_nar{n:Nat}{f:Z}(h:Nar n f){s:Nat->Nat}(a:∀i,i<n->s i<n)(d:s 0=0):Nar n<|pbk f s:=
 {λi b=>h.diag _<|a i b,λj c=>by rw[pbk,d];exact h.row _<|a j c,λi j l b c e=>h.tri _ _ _ (a i b) (a j c)<|a l e}
def znd{D:Int}{c:B}{d e:Int}(h:sat D c d)(a:e<=d):sat D c e:=by
 cases c with
 |none=>trivial|some c=>exact Int.le_trans a h
set_option tactic.hygienic true in
theorem wtd_lie{n:Nat}{D d:Int}(hd:0<=d){X:Nat->Int}{f:Z}(h:Lie n D X f)(τ:Nat->Int)(e:τ 0=X 0)(a:∀i,0<i->i<n->τ i=X i+d):Lie n D τ<|wtd f:=λi j c b=>by
 unfold wtd;split;trivial;rename_i q;refine znd (h i j c b) ?_;by_cases g:i=0;subst g;by_cases k:j=0;subst k;lia;rw[e,a j (by lia) b];lia;rw[a i (by lia) c,a j (by lia) b];lia
theorem pbk_lie{n:Nat}{D:Int}{X:Nat->Int}{f:Z}(h:Lie n D X f){s:Nat->Nat}(d:∀i,i<n->s i<n)(τ:Nat->Int)(a:∀i,i<n->τ i=X (s i)):Lie n D τ<|pbk f s:=λi j b c=>by
 rw[a i b,a j c];exact h _ _ (d i b)<|d j c
end Dm
namespace Df
open Db Dv
theorem sound_of{n:Nat}{f g:Z}(h:Nar n f)(a:∀i j,i<n->j<n->le (f i j) (g i j)):Sound n g:=λk hk ⟨i,hi,hb⟩=>by
 have:=Ud a k (by lia) i i hi hi;rw[Sg h k (by lia) i i hi hi,h.diag i hi]at this;exact hb this
structure St(n:Nat)(f:Z)(u l:Nat->B):Prop where
 nar:Nar n f
 c1:∀i,0<i->i<n->le ↑1 (add (f 0 i)<|u i)
 c2:∀i,0<i->i<n->le ↑1 (add (l i)<|f i 0)
 c3:∀i j,0<i->0<j->i<n->j<n->le ↑1 (add (l i)<|add (f i j)<|u j)
end Df
namespace Dk
open Db Dv
def put(f:Z)(a b:Nat)(c:Int):Z:=λi j=>if i=a/\j=b then mn (f a b) ↑c else f i j
def puts:List Lim->Z->Z
 |[],f=>f|x::L,f=>puts L<|put f x.1 x.2.1 x.2.2
def leB(a b:B):Bool:=match a,b with
 |ϊ,none=>true|none,↑ϊ=>false|some a,↑b=>decide (a<=b)
def leB_iff{a b:B}:leB a b=true ↔ le a b:=by
 cases a<;>cases b<;>simp[leB,le]
def met:List Lim->Z->Option Z
 |[],f=>↑f|x::L,f=>if leB ↑1 (add (f x.2.1 x.1) ↑x.2.2) then met L (ins f x.1 x.2.1 ↑x.2.2) else none
def met_app:∀(L K:List Lim) (f:Z),met (L++K) f=(met L f).bind (met K)
 |[],ϊ,ϋ=>rfl|x::L,K,f=>by
  show(if _ then met (L++K) _ else none)=(if _ then met L _ else none).bind (met K);split;exact met_app L K _;rfl
def Und(n:Nat)(z f:Z):Prop:=∀i j,i<n->j<n->le (z i j) (f i j)
def KI(z:Z)(L:List Lim):Prop:=∀x∈L,le (z x.1 x.2.1) ↑x.2.2
set_option tactic.hygienic true in
def MU{n:Nat}{z:Z}:∀(L:List Lim) (f:Z),In n L->(Und n z (puts L f) ↔ Und n z f/\KI z L)
 |[],f,ϊ=>{λh=>{h,λx g=>by cases g},λh=>h.1}|x::L,f,k=>by
  have g:=k x (Ë ..);show Und n z (puts L<|put f x.1 x.2.1 x.2.2) ↔ _;rw[MU L _ λy d=>k y<|Ê _ d]
  constructor;rintro⟨a,e⟩
  have l:∀i j,i<n->j<n->le (put f x.1 x.2.1 x.2.2 i j) (f i j):=λi j ϊ ϊ=>by
   unfold put;split;rename_i q;rw[q.1,q.2];exact FL _ _;exact le_refl _
  refine{λi j b c=>le_trans (a i j b c)<|l i j b c,λy d=>?_};rcases Ì.mp d with rfl|m;have:=a y.1 y.2.1 g.1 g.2;unfold put at this;rw[if_pos {(rfl),rfl}]at this;exact le_trans this<|Gc _ _
  exact e y m;rintro⟨a,e⟩;refine{λi j b c=>?_,λy d=>e y<|Ê _ d};unfold put;split;rename_i q;let(rfl,rfl):=q;exact Kv (a _ _ b c)<|e x (Ë ..)
  exact a i j b c
theorem Wx{n:Nat}{z f:Z}(l:Nar n z)(h:Und n z f){a b:Nat}{c:Int}(e:a<n)(k:b<n)(m:le (z a b) ↑c):Und n z<|ins f a b ↑c:=λi j g d=>by
 refine Kv (h i j g d) ?_;refine le_trans (l.tri i j a g d e)<|add_mono (h i a g e) ?_;exact le_trans (l.tri a j b e d k)<|add_mono m<|h b j k d
def met_ok{n:Nat}:∀(L:List Lim) (f:Z),Nar n f->In n L->(∀h,met L f=↑h->Nar n h/\Und n h f/\KI h L/\∀z,Nar n z->Und n z f->KI z L->Und n z h)/\(met L f=none->∀z,Nar n z->Und n z f->KI z L->False)
 |[],f,g,ϊ=>{λh e=>by
   cases e;exact{g,λϊ ϊ ϊ ϊ=>le_refl _,λx c=>(by cases c),λz ϊ h ϊ=>h},λe=>by cases e}
 |x::L,f,g,s=>by
  have c:=s x (Ë ..);unfold met;cases q:leB ↑1 (add (f x.2.1 x.1) ↑x.2.2) with
  |false=>
   refine{λh e=>(by cases e),λϊ z d m o=>?_};have p:=d.tri x.2.1 x.2.1 x.1 c.2 c.2 c.1;rw[d.diag _ c.2]at p;have r:=le_trans p<|add_mono (m x.2.1 x.1 c.2 c.1)<|o x (Ë ..);rw[<- leB_iff,q]at r;cases r
  |true=>
   erw[Ä];have N:=ins_nar g c.1 c.2<|leB_iff.mp q;have U:Und n (ins f x.1 x.2.1 ↑x.2.2) f:=λi j ϊ ϊ=>FL _ _
   have C:le (ins f x.1 x.2.1 ↑x.2.2 x.1 x.2.1) ↑x.2.2:=by
    refine le_trans (Gc _ _) ?_;rw[g.diag _ c.1,g.diag _ c.2,NH,WI];exact le_refl _
   let(m,o):=met_ok L _ N λy l=>s y<|Ê _ l
   have K:∀z,KI z (x::L)->le (z x.1 x.2.1) ↑x.2.2/\KI z L:=λz k=>{k x (Ë ..),λy l=>k y<|Ê _ l};refine{λh e=>?_,λe z d a b=>o e z d (Wx d a c.1 c.2 (K z b).1) (K z b).2};let(w,v,A,B):=m h e;refine{w,λi j t u=>le_trans (v i j t u)<|U i j t u,λy l=>?_,λz d a b=>B z d (Wx d a c.1 c.2 (K z b).1) (K z b).2};rcases Ì.mp l with rfl|D;exact le_trans (v _ _ c.1 c.2) C;exact A y D
def met_fw{n:Nat}{L:List Lim}{f:Z}(m:Nar n f)(a:In n L):(∀h,met L f=↑h->Sound n (puts L f)/\∀i j,i<n->j<n->fw (puts L f) n i j=h i j)/\(met L f=none->¬ Sound n (puts L f)):=by
 let(g,l):=met_ok L f m a;have D:Und n (fw (puts L f) n)<|puts L f:=λi j ϊ ϊ=>f6 _ i j n
 refine{λh e=>?_,λe s=>?_};let(d,o,p,q):=g h e;have u:=(MU L f a).mpr {(o),p};have s:=Df.sound_of d u;refine{s,λi j b c=>Nb ?_<|zpj d u i j b c}
 have k:=(MU L f a).mp D;exact q _ (nar s) k.1 k.2 i j b c;have k:=(MU L f a).mp D;exact l e _ (nar s) k.1 k.2
set_option tactic.hygienic true in
def lie_puts{n:Nat}{D:Int}(e:0<D){X:Nat->Int}:∀(L:List Lim) (f:Z),In n L->(Lie n D X (puts L f) ↔ Lie n D X f/\∀x∈L,sat D ↑x.2.2<|X x.1 - X x.2.1)
 |[],f,ϊ=>{λh=>{h,λx d=>by cases d},λh=>h.1}|x::L,f,g=>by
  have d:=g x (Ë ..);show Lie n D X (puts L<|put f x.1 x.2.1 x.2.2) ↔ _;rw[lie_puts e L _ λy b=>g y<|Ê _ b]
  constructor;rintro⟨a,c⟩;refine{lie_mono e a λi j ϊ ϊ=>?_,λy b=>?_};unfold put;split;rename_i q;rw[q.1,q.2];exact FL _ _;exact le_refl _;rcases Ì.mp b with rfl|m;have:=a y.1 y.2.1 d.1 d.2;unfold put at this;rw[if_pos {(rfl),rfl}]at this;exact sat_le e this<|Gc _ _
  exact c y m;rintro⟨a,c⟩;refine{λi j k l=>?_,λy b=>c y<|Ê _ b};unfold put;split;rename_i q;let(rfl,rfl):=q;exact QP (a _ _ k l)<|c x (Ë ..)
  exact a i j k l
end Dk
namespace Pu
open PySem PySem.Spec PyProof.Rows L2 Zw Zx
def mT(n:Nat)(g:Nat->T):qB:=(List.range n).map g
def nl0:((0:Nat):Int)=0:=rfl
def nl1:((1:Nat):Int)=1:=rfl
def nl2:((2:Nat):Int)=2:=rfl
def nl3:((3:Nat):Int)=3:=rfl
def nl4:((4:Nat):Int)=4:=rfl
def nl5:((5:Nat):Int)=5:=rfl
def nl6:((6:Nat):Int)=6:=rfl
def nl7:((7:Nat):Int)=7:=rfl
def nl8:((8:Nat):Int)=8:=rfl
def nl9:((9:Nat):Int)=9:=rfl
def zpq{k:Nat}(h:k<=100000):(k<=Bh)=True:=eq_true (by unfold Bh;lia)
def zpp{k:Nat}(h:k<100000):(k<Bh)=True:=eq_true (by unfold Bh;lia)
section
variable {n:Nat}{g h:Nat->T}
def CI:(mT n g).length=n:=by simp[mT]
def FN{i:Nat}(a:i<n):(mT n g)[i]?=↑(g i):=by simp[mT,a]
def Ha(e:(mT n g)[i]?=↑t):i<n/\t=g i:=by
 have a:i<n:=by
  rcases Nat.lt_or_ge i n with q|q;exact q;rw[ý (by rw[CI];exact q)]at e;cases e
 rw[FN a]at e;exact{a,by injection e with e;exact e.symm}
def ES(a:l.length=n)(h:∀i,i<n->l[i]?=↑(g i)):l=mT n g:=by
 refine Ź λi=>?_;rcases Nat.lt_or_ge i n with q|q;rw[h i q,FN q];rw[ý (by lia),ý (by rw[CI];exact q)]
def DM(e:∀i,i<n->g i=h i):mT n g=mT n h:=ES CI λi a=>by rw[FN a,e i a]
def Bf{k:Nat}(a:k<n):AZ (mT n g) (k:Int)=↑(g k):=DC<|FN a
def dE(b:t∈mT n g):∃i,i<n/\t=g i:=by
 let(i,a,e):=Ð.mp b;exact{i,â.mp a,e.symm}
def Fw:BP (mT n g)=mT n λi=>(g i).share:=by
 rw[EL];unfold mT;rw[è];rfl
def Fe(e:∀i,(g i).sh=true):A3 (mT n g)=true:=by
 rw[DI,Ö];intro t a;obtain⟨i,-,rfl⟩:=dE a;exact e i
def JI(xs:Nat->Int):A3 (mT n λi=>.int<|xs i)=true:=Fe λϊ=>rfl
def J3:mT n g++[g n]=mT (n+1) g:=by
 unfold mT;rw[List.range_succ,á];rfl
def dD{α:Type}(t:α->T)(xs:Nat->α)(r):mT n (λj=>t<|xs j)++[t r]=mT (n+1) λj=>t (if j=n then r else xs j):=by
 rw[<- J3,if_pos rfl,DM (g:=λj=>t (if j=n then r else xs j)) (h:=λj=>t<|xs j) λj a=>by rw[if_neg<|by lia]]
def VJ:∀(l) (k i:Nat) (t),l[i]?=↑t->(Ez k l)[i]?=↑(.tup [.int (k+i:Nat),t])
 |[],ϊ,ϋ,ό,e=>by simp at e|x::r,k,0,t,e=>by
  simp at e;subst e;rfl
 |x::r,k,i+1,t,e=>by
  rw[Ez,Ň];have:=VJ r (k+1) i t<|by simpa using e
  rw[this,show k+1+i=k+(i+1) by lia]
def OE:∀(l) (k),(Ez k l).length=l.length
 |[],ϊ=>rfl|x::r,k=>by rw[Ez,ì,ì,OE r]
def VI:Ez 0 (mT n g)=mT n λi=>.tup [.int i,g i]:=by
 refine ES (by rw[OE,CI]) λi a=>?_;rw[VJ _ _ _ _<|FN a,Nat.zero_add]
def KL:Hw (mT n g) (mT n h)=mT n λi=>.tup [g i,h i]:=by
 refine ES (by simp[Hw,CI]) λi a=>?_;unfold Hw;rw[List.getElem?_zipWith,FN a,FN a]
theorem YI(a:Int):Cc a n=mT n λi=>.int<|a+(i:Int):=rfl
def Cz:Cc 0 n=mT n λi=>.int (i:Int):=by
 rw[YI];simp
def consT(x:T)(g:Nat->T):Nat->T
 |0=>x|i+1=>g i
def kE(x):x::mT n g=mT (n+1) (consT x g):=by
 refine ES (by rw[ì,CI]) λi a=>?_;cases i with
 |zero=>rfl|succ i=>rw[Ň,FN<|by lia];rfl
theorem mT_of(l)(d):l=mT l.length λi=>l.getD i d:=ES rfl λi a=>by
 rw[Ó,Á a];rfl
theorem N9:(mT n g).set i v=mT n λj=>if j=i then v else g j:=ES (by simp[CI]) λj a=>by
 rw[List.getElem?_set,CI];by_cases e:i=j;subst e;simp[a];erw[e,Ã];rw[FN a,if_neg<|λq=>e q.symm]
variable {b:T->AM->Option AM}{body:AG}{me:AI}{Y:AM}
def LM(I:Nat->AM->Prop)(a:I 0 Y)(f:∀i Y,i<n->I i Y->∃τ1,b (g i) Y=↑τ1/\∃τ2,body τ1=↑(.nx τ2)/\I (i+1) τ2):∃Y',Ar b body (mT n g) Y=↑(.nx Y')/\I n Y':=by
 have:=Du I a λi t Y e c=>by
  let(d,rfl):=Ha e;exact f i Y d c
 rwa[CI]at this
def Nt(p:Nat->Prop)(v )(I:Nat->AM->Prop)(o:I 0 Y)
  (s:∀i Y,i<n->(∀j,j<i->p j)->I i Y->∃τ1,b (g i) Y=↑τ1/\((p i/\∃τ2,(body τ1=↑(.nx τ2)\/body τ1=↑(.ct τ2))/\I (i+1) τ2)\/(¬ p i/\body τ1=↑(.rt v)))) :
  ((∀i,i<n->p i)/\∃Y',Ar b body (mT n g) Y=↑(.nx Y')/\I n Y')\/((∃i,i<n/\¬ p i)/\Ar b body (mT n g) Y=↑(.rt v)):=by
 have:=zgc (b:=b) (body:=body) (ts:=mT n g) (Y:=Y) (λi Y=>(∀j,j<i->p j)/\I i Y) (λw=>w=v/\∃i,i<n/\¬ p i) {λj k=>by lia,o} λi t Y e d=>by
  let(h,rfl):=Ha e;let(τ1,m,q):=s i Y h d.1 d.2;refine{τ1,m,?_}
  rcases q with ⟨f,τ2,a,l⟩|⟨f,a⟩;refine .inl {τ2,a,λj k=>?_,l};rcases Nat.lt_succ_iff_lt_or_eq.mp k with q|rfl;exact d.1 j q;exact f;exact .inr {(v),a,rfl,i,h,f}
 rw[CI]at this;rcases this with ⟨Y',e,r,c⟩|⟨w,e,rfl,c⟩;exact .inl {(r),Y',e,c};exact .inr {(c),e}
def Cq{cs:AM}(d:∀i,i<n->me (↑(g i)::cs)=↑(.v (f i) false)):CJ (AD 0) (mC<|.bl true) me (mT n g) (x::cs)=↑(mT n f):=by
 have:=J8 (b:=AD 0) (ts:=mT n g) (λϊ Y=>∃y,Y=y::cs) f {(x),rfl} λi t Y e a=>by
  let(c,rfl):=Ha e;let(y,rfl):=a;exact{↑(g i)::cs,by simp[AD],d i c,_,rfl}
 rw[this,CI];rfl
def Fm{u w f:Nat->T}  {cs:AM}(d:∀i,i<n->me (↑(u i)::↑(w i)::cs)=↑(.v (f i) false)):CJ (Ad 2<|AH (AD 0)<|AH (AD 1) Ah) (mC<|.bl true) me (mT n λi=>.tup [u i,w i]) (x::y::cs)=↑(mT n f):=by
 have:=J8 (b:=Ad 2<|AH (AD 0)<|AH (AD 1) Ah) (ts:=mT n λi=>.tup [u i,w i]) (λϊ Y=>∃x y,Y=x::y::cs) f {(x),y,rfl} λi t Y e a=>by
  let(c,rfl):=Ha e;let(x,y,rfl):=a;exact{↑(u i)::↑(w i)::cs,by rfl,d i c,_,_,rfl}
 rw[this,CI];rfl
end
def bT:Db.B->T
 |none=>.non|some i=>.int i
def lC:bT none=.non:=rfl
def WC(i:Int):bT ↑i=.int i:=rfl
abbrev rT(n:Nat)(f:Nat->Db.B):T:=.lst<|mT n λj=>bT<|f j
abbrev zT(n:Nat)(f:Db.Z):T:=.lst<|mT n λi=>rT n<|f i
def L4(b:Db.B):(bT b).sh=true:=by cases b<;>rfl
def Jn(b:Db.B):(bT b).share=bT b:=by cases b<;>rfl
def zha(h:∀i j,i<n->j<n->f i j=g i j):zT n f=zT n g:=by
 unfold zT;rw[DM λi a=>?_];unfold rT;rw[DM λj b=>?_];rw[h i j a b]
def Jm(p):Gs (mT n λi=>.bl<|p i)=↑((List.range n).map p):=by
 unfold mT;generalize List.range n=l
 induction l with
 |nil=>rfl|cons x r a=>erw[Ù,Gs,a]
def Ms(n)(f):(rT n f).share=rT n f:=by
 unfold T.share;rw[Fw];erw[Jn]
def SN(n)(f):(rT n f).sh=true:=by
 unfold T.sh;rw[Fe λi=>L4 _];rfl
def zh9(n)(f):(zT n f).share=zT n f:=by
 unfold T.share;rw[Fw];erw[Ms]
def Dy(n)(f):(zT n f).sh=true:=by
 unfold T.sh;rw[Fe λi=>SN n _];rfl
def Et{n:Nat}(h:n<=100000):CF n=true:=@decide_eq_true _ (Classical.propDecidable _) {by lia,by lia}
def JG:∀ys ,EJ (ys.map T.str)=↑ys
 |[]=>rfl|y::r=>by
  show(match EJ (r.map T.str) with|some l=>↑(y::l)|none=>none)=_;rw[JG r]
def AX:∀ys:ki,BP (ys.map T.str)=ys.map T.str
 |[]=>rfl|y::r=>by
  show T.str y::BP (r.map T.str)=_;rw[AX r];rfl
def AV:∀ys:ki,A3 (ys.map T.str)=true
 |[]=>rfl|y::r=>by
  show(true && A3 (r.map T.str))=true;rw[AV r];rfl
def CA(ys:ki):Prop:=∀y∈ys,PyData.strOk y=true
def Y4:∀ys:ki,Ep (ys.map T.str)=true
 |[]=>rfl|y::r=>by
  show(true && Ep (r.map T.str))=true;rw[Y4 r];rfl
def eB:∀{ys},CA ys->PyData.canLayAll0 (B8<|ys.map T.str)=true/\PyData.depthAll (B8<|ys.map T.str)=0
 |[],ϊ=>{(rfl),rfl}|y::r,h=>by
  let(a,b):=eB λx d=>h x<|Ê _ d
  have c:=h y (Ë ..);rw[Ù,B8,PyData.canLayAll0,PyData.depthAll,a,b,T.data,PyData.canLay0,c,PyData.depth];simp
def GK(a:PyData.strOk x=true)(b:PyData.strOk y=true):Au (.str x) (.str y)=↑(.bl<|decide (x=y)):=by
 have e:(x == y)=decide (x=y):=by rfl
 unfold Au Hm EW Jk;erw[T.data,T.pln,PyData.canLay0,PyData.depth,PyData.eqv,a,b,e];simp
theorem Fit.str(h:PyData.strOk x=true)(n):Fit (.str x) n:={by unfold EW;rw[T.data,PyData.canLay0,h];rfl,rfl,by simp[T.data,PyData.depth]}
def lG(x):∀ys:ki,((B8<|ys.map T.str).any λy=>PyData.eqv y<|.str x)=decide (x∈ys)
 |[]=>by rfl|y::r=>by
  have e:(y == x)=decide (x=y):=by grind
  rw[Ù,B8,Į,lG x r,T.data,PyData.eqv,e,Bool.eq_iff_iff,ď,û,û,û,Ì]
def Jc(h:CA ys)(c:PyData.strOk x=true):De (.str x) (.nd o k<|ys.map T.str)=↑(.bl<|decide (x∈ys)):=by
 have ok:Hh (.str x) (ys.map T.str)=true:=by
  let(a,b):=eB h;unfold Hh EW;rw[Y4,a,b,T.data,PyData.canLay0,c];rfl
 unfold De;simp only;rw[if_pos ok];unfold Je;rw[T.data,lG]
end Pu
namespace Tx
open PySem PySem.NumText
section
end
end Tx
namespace Hd
open PySem PySem.W PySem.Calls PyProof.Rows
def LJ(st:SharedT->Thread->Option (SharedT×Thread))(ok:Thread->Bool):Nat->SharedT->Thread->Option SharedT
 |0=>λϊ ϊ=>none|n+1=>λs t=>bif through t then ↑s else bif ok t then (st s t).elim none λx=>LJ st ok n x.1 x.2 else none
def zm8(n):∀(s) (t) (r),
  LJ (stepT (denote tb) p w) (stepOk m ann) n s t=↑r->topRun tb p w m ann n s.abs t=↑r.abs:=by
 induction n with
 |zero=>intro s t r h;exact nomatch h
 |succ n d=>
  intro s t r h;rw[LJ]at h;dsimp only at h;rw[topRun];cases a:through t with
  |true=>rw[a]at h;cases h;rfl|false=>
   rw[a]at h;cases b:stepOk m ann t with
   |false=>rw[b]at h;exact nomatch h
   |true=>
    rw[b]at h;cases c:stepT (denote tb) p w s t with
    |none=>rw[c]at h;exact nomatch h
    |some x=>rw[c]at h;rw[stepT_spec (s':=x.1) (t':=x.2) c];exact d _ _ _ h
def Mf(p q:Program)(loose:ki)(Xt:Shared->Bool){α:Type}(Yf:Shared->α)(h:Heap)(s:Shared):=
 ((staticsOk (importedModules p.main.body) h s.heap && namesBound p s.heap && gensDone s && laidKept h s.heap),openSeen q loose (importedModules p.main.body) Xt true s,Yf s)
theorem zlx{Ya:World->α}{N M m:Nat}{bt:Params->BT}{l:Params->Life}{st:World->SharedT->Thread->Option (SharedT×Thread)}(d:∀w,stepT (denote treeTable) p w=st w)(hok:stepOk m ann=ok)
  (e:opening p=plainProg p.main.scope.names) (o:Nat.ble 600 N=true) (f:∀s,fenceModules? p s=↑s) (n:Nat.ble M N=true)
  (u:∀P,absHeap (bt P) m (l P)=boot_heap P) (v:∀P,(boot_heap P).isNs mainGlobals=true) (x:∀P,(boot_heap P).objs.size=m) (t:∀P,(boot_heap P).nsMap mainGlobals "__annotations__"=ann)
  (h:∀(w ) (os ),(LJ (st w) ok M {bt w.params,m,l w.params,Array.mk [],boot_drawn,boot_toks,os}<|topStub p).map (λs=>Mf p q loose Xt Yf (boot_heap w.params) s.abs)=↑(true,openGood q loose,Ya w)) :
  LeftO p q loose Xt Yf Ya N true:=λw=>by
 let((A,z,y,B,os),c,i):=Ý.mp<|boot_open e o f w;erw[Prod.mk.injEq]at i;let(rfl,rfl,rfl,rfl):=i;let(T,g,j):=Ý.mp<|h w os;rw[<- d,<- hok]at g;have r:=topRun_mono (N - M) _ _ _ _<|zm8 _ _ _ _ g;rw[Nat.add_sub_cancel'<|Nat.le_of_ble_eq_true n]at r;have a:=congrArg Prod.fst j;have b:=congrArg Prod.snd j;erw[Mf]at a b;erw[SharedT.abs,u]at r a b
 have k:topFrom treeTable p w N {boot_heap w.params,Array.mk [],boot_drawn,boot_toks,os}=↑T.abs:=by
  erw[topFrom,v,x,t,r];erw[Ď];rw[a];rfl
 show((fencedOpening treeTable p w N).bind (topFrom treeTable p w N)).map _=_;rw[c];show(topFrom treeTable p w N _).map _=_;rw[k];exact congrArg some b
def en(P:Params)(x:String)(k:Nat)(v:Value):DictEntry:={PyData.keyHash P<|Str.ofString x,.str (Str.ofString x) k,v}
def bt(P:Params):BT:=((boot_heap P).objs.toList.foldl (λ(x:BT×Nat) o=>(x.1.ins x.2 o,x.2+1)) (BT.nil,0)).1
def bt_ok(P:Params):absHeap (bt P) 11 (boot_heap P).life=boot_heap P:=by ext
def zqw(P):(boot_heap P).nsMap mainGlobals "__annotations__"=↑(.ref 6):=by ext
def ns_ok(P:Params):(boot_heap P).isNs mainGlobals=true:=by ext
def sz_ok(P:Params):(boot_heap P).objs.size=11:=by ext
abbrev go(p:Program)(M:Nat)(w:World)(os:OsState):Option SharedT:=
 LJ (Fast.tw10156331382660048174 (Fast.tw11892475500146522536 Fast.tw14364793385576792824) p w) (Fast.tw6613529449190102663 11<|↑(.ref 6)) M {bt w.params,11,(boot_heap w.params).life,Array.mk [],boot_drawn,boot_toks,os} (topStub p)
abbrev xt(r:RowW)(q:Program)(s:Shared):Bool:=xlAt q [] s && recOk r.records s
theorem zly{Ya:World->α}(N M:Nat)
  (e:opening p=plainProg p.main.scope.names) (b:Nat.ble 600 N=true) (f:∀s,fenceModules? p s=↑s) (a:Nat.ble M N=true)
  (h:∀(w ) (os ),(go p M w os).map (λs=>Mf p q loose (xt r q) Yf (boot_heap w.params) s.abs)=↑(true,openGood q loose,Ya w)):LeftO p q loose (xt r q) Yf Ya N true:=
 zlx
  (λw=>by rw[Fast.te10156331382660048174,Fast.te11892475500146522536,Fast.te14364793385576792824]) (by rw[Fast.te6613529449190102663]) e b f a bt_ok ns_ok sz_ok zqw h
end Hd
set_option maxHeartbeats 4200000
namespace Zl
open PySem L2 Zw Zx Pu
noncomputable section
local macro_rules
  |`(tactic| simp![$as,*])=>do let y<-"AW JO LQ FW AF AS CU Ff A8 AO Rw IJ A7 K7 Ml BE Cb JK IH JJ K5 Cw Es NB AA mC AE AB BA B5 m1 m2 AN EG BW Bg B0 AJ FO Fk BI BV Az BK g1 g2 AD Ah AH Ad blk OK Jd C0 IZ EH gD Gp OZ OY Ih OX Jb BL EB Bl BH CK Eo LZ Ig IF Br FK BD T.isN T.isB BO DO O0 Kp NN Hl IY ă GP Ii DP MW XA JC M6 T.share BP T.sh A3 T.flat Gu F6 L6 Ù Đ ì č List.replicate Þ Ĺ ō List.getElem?_cons_zero Ň List.getElem?_nil List.set_cons_zero List.set_cons_succ Ī nl0 nl1 nl2 nl3 nl4 nl5 nl6 nl7 nl8 nl9 Int.reduceBEq Nat.reduceBEq Nat.reduceAdd Nat.reduceSub Nat.reduceLT Nat.reduceLeDiff if_true if_false ite_true ite_false reduceIte Bool.not_true Bool.not_false ŵ Ŷ Bool.and_false Ĭ Bool.or_true Bool.true_or Bool.or_false Ŵ Bool.false_xor Bool.true_xor ę ţ decide_true decide_false Ì Č or_false or_true true_or and_true true_and and_self String.reduceEq String.reduceBEq beq_self_eq_true ne_eq not_false_eq_true not_true_eq_false zpq zpp L4 Jn CI Fw Int.reduceLT Int.reduceAdd ï JI Fe implies_true forall_const lC WC Int.reduceEq Int.reduceNe U3 BQ Ax Bm Cj IS Cy G8 JM GA IU Gd GI Aq IT Kt HH Mj JL K6 HP".splitOn.mapM (λx=>do`(Lean.Parser.Tactic.simpLemma|$(Lean.mkCIdent (<-Lean.Macro.resolveGlobalName x.toName).head!.1):ident));`(tactic| simp only[$(⟨(Lean.Syntax.SepArray.ofElems (sep:=",") (y.toArray.map (·.raw)++as.elemsAndSeps.getSepElems)).elemsAndSeps⟩),*])
def top(i:Nat):Stmt:=PySem.Challenge.pw_zonewalk_k45_whole_runs_are_covered.main.body.getD i<|.Pass {0,0,0,0}
def zqo(s:Stmt)(j:Nat):Stmt:=match s with
 |.ClassDef ϊ ϋ ό a ύ ώ Ϗ ϐ ϑ ϒ ϓ=>a.getD j (.Pass {0,0,0,0})|ϊ=>.Pass {0,0,0,0}
def By(i j:Nat):Stmt:=zqo (top i) j
abbrev BU:Addr:=210
def B7:ki:=["start","end","guard","noughts","sign"]
abbrev Al:Addr:=264
def An:ki:=["watch_names","stays","door_list"]
abbrev Ak:Addr:=484
def Am:ki:=["marks","mosts","first_room","stays","ways","free_place"]
def Ja:T:=(.nd false .rt [(.str "<"),(.str "<="),(.str ">"),(.str ">="),(.str "=")])
def Nc:T:=(.nd false .rt [(.str "<"),(.str "<=")])
def Nf:T:=(.int 7)
def Ng:T:=(.int 64)
def Nh:T:=(.int 200)
def VR:List<|Addr×Bool:=[(210,true),(264,false),(484,false)]
def PX:List<|Str×Addr:=[("TooMany",49)]
abbrev Ro:Stmt:=top 71
def UG:AG:=
 (AF (A8 (m2 (Br λi j=>decide (i<j)) (AA 1)<|m1 BO<|AA 0) (AO<|AJ (AA 0)<|AA 1) A7)
 (AO<|mC<|.int 0))
def HB:qB->Option Ru:=AW 2 2 UG
abbrev cB(s:Stmt):ki:=((Dg s).names.filter λx=>x.2 == .local || x.2 == .cell).map (·.1)
abbrev fA(k n:Nat)(s:Stmt)(R:qB->Option Ru):Fn:={k,(cB s).take n,R}
abbrev jD:=fA 1 2 Ro HB
abbrev gA(s:Stmt)(k:Nat)(fs:List<|Str×Fn)(bl:ki)(ow:ki:=[])(ex:ki:=[])(ox:Gx:=Bz)(mu:=false)(mc:List<|Str×Fn:=[])(mv:ki:=[])(dc:ki:=[])(N:=cB s):Gm:={N,(Dg s).names,N.filter λx=>(Dg s).names.lookup x == ↑.cell,k,fs,bl,ex,ow,["is_covered","_law_holds"],mu,mc,mv,dc,ox}
abbrev zdq:Gm:=gA Ro 0 [] ["len"]
theorem ze6:Ck zdq jD Ro UG:={}
def V5(ns:kj){k:Int}(c:0<=k):HB [Co ns,.int k]=↑(.ok<|.int<|ns.getD k.toNat 0):=by
 unfold HB UG;by_cases h:k<ns.length;have b:AZ (ns.map T.int) k=↑(.int<|ns.getD k.toNat 0):=L5 c<|by simp_all
 have a:decide (k<(ns.map T.int).length)=true:=by simpa using h
 simp![Co,IG,JH,a,b]
 have a:decide (k<(ns.map T.int).length)=false:=by simpa using h
 have e:ns.getD k.toNat 0=0:=by
  simp_all
 simp![Co,IG,JH,a,e]
abbrev RE:Stmt:=top 34
def Tg:AG:=
 (AO<|m2 Au (m1 KU<|AA 0)<|m1 BO<|AA 0)
def Jx:qB->Option Ru:=AW 1 1 Tg
abbrev Nz:=fA 1 1 RE Jx
abbrev zbx:Gm:=gA RE 0 [] ["len","set"]
theorem zc3:Ck zbx Nz RE Tg:={}
def cV{val:Nat->L2.Key}{n:Nat}(h:∀i j,i<n->j<n->val i=val j->i=j):∀k,k<=n->(met val k).length=k/\∀x∈met val k,∃i,i<k/\x=val i
 |0,ϊ=>{rfl,λx a=>by cases a}|k+1,hk=>by
  let(d,b):=cV h k<|by lia
  have f:val k∉met val k:=λz=>by
   let(i,c,e):=b _ z;have:=h k i (by lia) (by lia) e
   lia
  have e:met val (k+1)=met val k++[val k]:=by
   conv=>lhs;unfold met
   lia
  rw[e];refine{by simp_all,λx a=>?_};rcases ß.mp a with q|q;let(i,c,e):=b x q;exact{i,by lia,e};exact{k,by lia,Ï.mp q}
def zmy{ys:ki}(h:ys.Nodup):Pw ys=ys.length:=by
 refine(cV (λi j b c e=>?_) ys.length<|Æ _).1;have a:=Sum.inr.inj e;rw[Ó,Ó,Á b,Á c]at a;exact(Ą h).mp a
def Px{ys:ki}(h:ys.Nodup)(a:ys.length<1000):Jx [.lst<|ys.map T.str]=↑(.ok<|.bl true):=by
 have e:(ys.length == ys.length)=true:=î _;unfold Jx Tg
 simp![KU,AX,JG,a,zmy h,DQ,e,À]
abbrev Qe:Stmt:=top 25
def TQ:AG:=
 (AO<|Gd GI GI (mC<|.str "a") (AA 0)<|mC<|.str "z")
def Le:qB->Option Ru:=AW 1 1 TQ
abbrev Uq:=fA 1 1 Qe Le
abbrev za8:Gm:=gA Qe 0 [] []
theorem zab:Ck za8 Uq Qe TQ:={}
def Xe{c:Nat}(f:97<=c)(g:c<=122):Le [.str {#[c]}]=↑(.ok<|.bl true):=by
 have a:((Str.ofString "a").cps.toList)=[97]:=by rfl
 have b:((Str.ofString "z").cps.toList)=[122]:=by rfl
 have d:@decide (#[c].toList<(Str.ofString "a").cps.toList) (Classical.propDecidable _)=false:=@decide_eq_false _ (Classical.propDecidable _) (by
  rw[a];rw[List.cons_lt_cons_iff]
  simp_all)
 have e:@decide ((Str.ofString "z").cps.toList < #[c].toList) (Classical.propDecidable _)=false:=@decide_eq_false _ (Classical.propDecidable _) (by
  rw[b];rw[List.cons_lt_cons_iff]
  simp_all)
 unfold Le TQ
 simp![d,e]
abbrev Qj:Stmt:=top 26
def Vi:AI:=
 (AN Le<|AB (AA 0) AE)
def TV:AG:=
 (AO<|Bg (Gd GI GI (mC<|.int 1) (m1 BO<|AA 0)<|mC<|.int 8)<|m1 GP<|Az 1 [] (Aq<|AA 0) (AD 0) (mC<|.bl true) Vi)
def Lg:qB->Option Ru:=AW 1 1 TV
abbrev Ur:=fA 2 1 Qj Lg
abbrev zek:Gm:=gA Qj 1 [("is_small_letter",Uq)] ["len","all"]
theorem zew:Ck zek Ur Qj TV:={}
def F8(x:Str):Prop:=∀i,i<x.cps.size->97<=x.cps.getD i 0/\x.cps.getD i 0<=122
def Xi(x:Str):HF x=mT x.cps.size λi=>.str {#[x.cps.getD i 0]}:=by
 refine ES (by simp[HF]) λi a=>?_;unfold HF;simp_all
def bZ{x:Str}(h:F8 x)(k:1<=x.cps.size)(l:x.cps.size<=8):Lg [.str x]=↑(.ok<|.bl true):=by
 have l1:x.cps.size<=100000:=by lia
 have e:=Cq (n:=x.cps.size) (me:=Vi) (x:=none) (cs:=[]) (g:=λi=>.str {#[x.cps.getD i 0]}) (f:=λϊ=>.bl true) λi a=>by
  unfold Vi
  simp![Xe (h i a).1 (h i a).2]
 have c:decide (1<=(x.length:Int))=true:=Ç (by show 1<=(x.cps.size:Int);lia);have d:decide ((x.length:Int)<=8)=true:=Ç (by show(x.cps.size:Int)<=8;lia)
 have j:x.length<=Bh:=by
  lia
 have b:((List.range x.cps.size).map λϊ=>true).all id=true:=by simp
 unfold Lg TV
 simp![Xi,e,l1,c,d,j,Jm,b]
abbrev Qd:Stmt:=top 27
def TN:AG:=
 (AO<|Bg (m1 (DP "str")<|AA 0)<|B0 (m2 Au (AA 0)<|mC<|.str "/")<|AN Lg<|AB (AA 0) AE)
def Ld:qB->Option Ru:=AW 1 1 TN
abbrev Up:=fA 3 1 Qd Ld
abbrev zam:Gm:=gA Qd 2 [("is_name",Ur)] ["isinstance","str"]
theorem zar:Ck zam Up Qd TN:={}
def Md{x:Str}(h:F8 x):PyData.strOk x=true:=by
 unfold PyData.strOk;rw[Array.all_eq_true];intro i a;have:=(h i a).2;rw[Array.getD_eq_getD_getElem?,ň a]at this;rw[û]
 lia
def Jp(x:Str):Prop:=x=Str.ofString "/"\/(F8 x/\1<=x.cps.size/\x.cps.size<=8)
def QM:PyData.strOk (Str.ofString "/")=true:=by decide +kernel
def MC{x:Str}(h:Jp x):PyData.strOk x=true:=by
 rcases h with rfl|h;exact QM;exact Md h.1
def Wk{x:Str}(h:Jp x):Ld [.str x]=↑(.ok<|.bl true):=by
 have e:=GK (MC h) QM;unfold Ld TN;by_cases q:x=Str.ofString "/";rw[Ç q]at e
 simp![e]
 rw[Õ q]at e;have en:=bZ (h.resolve_left q).1 (h.resolve_left q).2.1 (h.resolve_left q).2.2
 simp![e,en]
abbrev Qz:Stmt:=top 33
def Vn:AI:=
 (AN Ld<|AB (AA 0) AE)
def Ta:AG:=
 (AF (A8 (B0 (BW<|m1 (DP "list")<|AA 0)<|m2 (Br λi j=>decide (j<i)) (m1 BO<|AA 0)<|mC Nf) (Cw "BadMachine"<|AB (mC<|.str "a machine's watches are a list of at most seven") AE) A7)
 (A8 (B0 (BW<|m1 GP<|Az 1 [] (Aq<|AA 0) (AD 0) (mC<|.bl true) Vn)<|BW<|AN Jx<|AB (AA 0) AE) (Cw "BadMachine"<|AB (mC<|.str "a machine's watches are unlike names") AE) A7))
def Om:qB->Option Ru:=AW 1 1 Ta
abbrev iK:=fA 4 1 Qz Om
abbrev zai:Gx:={ Bz with co:=[("MOST_WATCHES",Nf)] }
abbrev zan:Gm:=gA Qz 3 [("is_watch_name",Up),("are_unlike",Nz)] ["isinstance","list","len","all"] (ex:=["BadMachine"]) (ox:=zai)
theorem zas:Ck zan iK Qz Ta:={}
theorem M7(ws:ki):ws.map T.str=mT ws.length λi=>.str<|ws.getD i Str.empty:=ES (by simp_all) λi a=>by
 simp_all
def cw_ok{ws:ki}(h:∀x∈ws,Jp x)(hd:ws.Nodup)(j:ws.length<=7):Om [.lst<|ws.map T.str]=↑(.ok .non):=by
 have a:=Cq (n:=ws.length) (me:=Vn) (x:=none) (cs:=[]) (g:=λi=>.str<|ws.getD i Str.empty) (f:=λϊ=>.bl true) λi e=>by
  have d:ws.getD i Str.empty∈ws:=by
   simp_all
  unfold Vn
  simp![Wk<|h _ d]
 rw[<- M7]at a;have l1:ws.length<=100000:=by lia
 have c:decide (7<(ws.length:Int))=false:=Õ<|by lia
 have b:((List.range ws.length).map λϊ=>true).all id=true:=by simp
 have un:=Px hd<|by lia
 unfold Om Ta Nf
 simp![AX,AV,À,a,l1,c,Jm,b,un]
abbrev Qg:Stmt:=top 28
def Vh:AI:=
 (B0 (m2 Au (AA 0)<|mC<|.str "/")<|AN Le<|AB (AA 0) AE)
def TR:AG:=
 (AF (A8 (B0 (BW<|m1 (DP "str")<|AA 0)<|BW<|Gd GI GI (mC<|.int 1) (m1 BO<|AA 0)<|mC<|.int 60) (AO<|mC<|.bl false) A7)
 (AO<|m1 GP<|Az 1 [] (Aq<|AA 0) (AD 0) (mC<|.bl true) Vh))
def Od:qB->Option Ru:=AW 1 1 TR
abbrev hJ:=fA 2 1 Qg Od
abbrev zb2:Gm:=gA Qg 1 [("is_small_letter",Uq)] ["isinstance","str","len","all"]
theorem zb9:Ck zb2 hJ Qg TR:={}
def rn_ok{x:Str}(h:F8 x)(s:1<=x.cps.size)(t:x.cps.size<=60):Od [.str x]=↑(.ok<|.bl true):=by
 have l1:x.cps.size<=100000:=by lia
 have o:=Cq (n:=x.cps.size) (me:=Vh) (x:=none) (cs:=[]) (g:=λi=>.str {#[x.cps.getD i 0]}) (f:=λϊ=>.bl true) λi a=>by
  have r:PyData.strOk (Str.mk #[x.cps.getD i 0])=true:=Md λj l=>by
   have m:j<1:=l;have e:j=0:=by lia
   subst e;exact h i a
  have e:=GK r QM
  have n:¬ (Str.mk #[x.cps.getD i 0]=Str.ofString "/"):=λq=>by
   have b:(Str.ofString "/").cps=#[47]:=by decide +kernel
   have c:#[x.cps.getD i 0]=(Str.ofString "/").cps:=congrArg Str.cps q;rw[b]at c;have:=(h i a).1;have u:x.cps.getD i 0=47:=by simpa using c
   lia
  rw[Õ n]at e;unfold Vh
  simp![e,Xe (h i a).1 (h i a).2]
 have b:decide ((1:Int)<=(x.length:Int))=true:=Ç (by show(1:Int)<=((x.cps.size:Nat):Int);lia);have k:decide ((x.length:Int)<=60)=true:=Ç (by show((x.cps.size:Nat):Int)<=60;lia);have p:x.length<=100000:=l1;have d:((List.range x.cps.size).map λϊ=>true).all id=true:=by simp
 unfold Od TR
 simp![Xi,o,l1,b,k,p,Jm,d]
abbrev Qc:Stmt:=top 6
def c7:AG:=
 (AO<|Bg (m1 (DP "int")<|AA 0)<|BW<|m1 (DP "bool")<|AA 0)
def lN:qB->Option Ru:=AW 1 1 c7
abbrev gZ:=fA 1 1 Qc lN
abbrev zdk:Gm:=gA Qc 0 [] ["isinstance","int","bool"]
theorem ze0:Ck zdk gZ Qc c7:={}
abbrev Qi:Stmt:=top 18
def c8:AG:=
 (AO<|Bg (AN lN<|AB (AA 0) AE)<|m2 (Br λi j=>decide (j<=i)) (AA 0)<|mC<|.int 0)
def WR:qB->Option Ru:=AW 1 1 c8
abbrev iA:=fA 2 1 Qi WR
abbrev zck:Gm:=gA Qi 1 [("is_whole",gZ)] []
theorem zcw:Ck zck iA Qi c8:={}
def zli(i:Int):WR [.int i]=↑(.ok<|.bl<|decide (0<=i)):=by
 rfl
abbrev Qk:Stmt:=top 17
def TX:AG:=
 (AF (A8 (B0 (BW<|m1 (DP "tuple")<|AA 0)<|m2 Cd (m1 BO<|AA 0)<|mC<|.int 3) (AO<|mC<|.bl false) A7)
 (AO<|Bg (m2 De (AJ (AA 0)<|mC<|.int 0)<|AA 1)<|Bg (m2 De (AJ (AA 0)<|mC<|.int 1)<|AA 2)<|AN WR<|AB (AJ (AA 0)<|mC<|.int 2) AE))
def Oe:qB->Option Ru:=AW 3 3 TX
abbrev iB:=fA 3 3 Qk Oe
abbrev zel:Gm:=gA Qk 2 [("is_number",iA)] ["isinstance","tuple","len"]
theorem zex:Ck zel iB Qk TX:={}
def CM:ki:=["<","<=",">",">=","="]
def P5:CA CM:=by unfold CA;decide +kernel
abbrev Ql:Stmt:=top 19
def Vj:AI:=
 (AN Oe<|AB (AA 0)<|AB (AA 1)<|AB (AA 2) AE)
def TY:AG:=
 (AO<|Bg (m1 (DP "list")<|AA 0)<|m1 GP<|Az 1 [1,2] (Aq<|AA 0) (AD 0) (mC<|.bl true) Vj)
def Jv:qB->Option Ru:=AW 3 3 TY
abbrev Nw:=fA 4 3 Ql Jv
abbrev zdl:Gm:=gA Ql 3 [("is_look",iB)] ["isinstance","list","all"]
theorem ze1:Ck zdl Nw Ql TY:={}
abbrev RA:Stmt:=top 35
def Pe:AG:=
 (AF (A8 (B0 (BW<|m1 (DP "tuple")<|AA 2)<|m2 Cd (m1 BO<|AA 2)<|mC<|.int 2) (Cw "BadMachine"<|AB (mC<|.str "a room is a tuple of a name and a stay") AE) A7)
 (A8 (B0 (BW<|AN Od<|AB (AJ (AA 2)<|mC<|.int 0) AE)<|BW<|AN Jv<|AB (AJ (AA 2)<|mC<|.int 1)<|AB (AA 1)<|AB (mC Nc) AE) (Cw "BadMachine"<|AB (mC<|.str "a room has a name, and a stay of the machine's watches") AE) A7))
def Vo:AI:=
 (AJ (AA 0)<|mC<|.int 0)
def Tc:AG:=
 (AF (A8 (B0 (BW<|m1 (DP "list")<|AA 0)<|m2 Au (m1 BO<|AA 0)<|mC<|.int 0) (Cw "BadMachine"<|AB (mC<|.str "a machine's rooms are a list of one or more") AE) A7)
 (AF (BE (Aq<|AA 0) (AD 2) Pe)
 (A8 (BW<|AN Jx<|AB (Az 1 [] (Aq<|AA 0) (AD 0) (mC<|.bl true) Vo) AE) (Cw "BadMachine"<|AB (mC<|.str "no two rooms have one name") AE) A7)))
def Oo:qB->Option Ru:=AW 2 3 Tc
abbrev iL:=fA 5 2 RA Oo
abbrev zbf:Gx:={ Bz with co:=[("STAY_WORDS",Nc)] }
abbrev zbk:Gm:=gA RA 4 [("is_room_name",hJ),("is_guard",Nw),("are_unlike",Nz)] ["isinstance","list","len","tuple"] (ex:=["BadMachine"]) (ox:=zbf) (N:=["rooms","watches","room"])
theorem zbq:Ck zbk iL RA Tc:={}
def BX(ws wd:ki)(l:qB):Prop:=∀t∈l,∃x y n,t=.tup [.str x,.str y,.int n]/\x∈ws/\y∈wd/\0<=n
def BX.sh{ws wd:ki}{l:qB}(h:BX ws wd l):A3 l=true:=by
 rw[DI,Ö];intro t a;let(x,y,n,rfl,_):=h t a
 rfl
abbrev Kx(wd:ki):T:=.nd false .rt<|wd.map T.str
def zls{ws wd:ki}(h:CA ws)(hd:CA wd){t:T}(g:∃x y n,t=.tup [.str x,.str y,.int n]/\x∈ws/\y∈wd/\0<=n):Oe [t,.lst<|ws.map T.str,Kx wd]=↑(.ok<|.bl true):=by
 let(x,y,n,rfl,d,e,f):=g;have a:=Jc (o:=false) (k:=.lst) h<|h x d;have b:=Jc (o:=false) (k:=.rt) hd<|hd y e;have c:=zli n;rw[Ç d]at a;rw[Ç e]at b;rw[Ç f]at c;unfold Oe TX
 simp![Ga,AX,AV,a,b,c]
def Ua{ws wd:ki}(h:CA ws)(hd:CA wd){l:qB}(p:l.length<=1000)(hk:BX ws wd l):Jv [.lst l,.lst<|ws.map T.str,Kx wd]=↑(.ok<|.bl true):=by
 have b:=hk.sh;have m:=AK l b;have k:=mT_of l .non
 have d:∀i,(l.getD i .non).sh=true:=λi=>by
  by_cases a:i<l.length;rw[Ó,Á a];rw[DI,Ö]at b;exact b _<|Ò a
  rw[Ó,ý<|by lia];rfl
 have c:=Cq (n:=l.length) (me:=Vj) (x:=none) (cs:=[↑(.lst<|ws.map T.str),↑(Kx wd)]) (g:=λi=>l.getD i .non) (f:=λϊ=>.bl true) λi a=>by
  have o:l.getD i .non∈l:=by
   rw[Ó,Á a];exact Ò a
  have e:=zls h hd<|hk _ o;unfold Vj
  simp![AX,AV,e,Av _<|d i,d i]
 rw[<- k]at c;have l1:l.length<=100000:=by lia
 have j:((List.range l.length).map λϊ=>true).all id=true:=by simp
 unfold Jv TY
 simp![AX,AV,b,m,l1,c,Jm,j]
def D0:ki:=["<","<="]
def zq0:Nc=Kx D0:=rfl
def eJ:Ja=Kx CM:=rfl
def st_tx:CA D0:=by unfold CA;decide +kernel
structure RsOk(ws:ki)(rs:List<|Str×qB):Prop where
 l1:1<=rs.length
 l64:rs.length<=64
 nm:∀r∈rs,F8 r.1/\1<=r.1.cps.size/\r.1.cps.size<=60
 nd:(rs.map (·.1)).Nodup
 lk:∀r∈rs,BX ws D0 r.2/\r.2.length<=1000
abbrev A9(r:Str×qB):T:=.tup [.str r.1,.lst r.2]
abbrev CV(rs:List<|Str×qB):T:=.lst<|rs.map A9
def En{ws:ki}{rs:List<|Str×qB}(h:RsOk ws rs):A3 (rs.map A9)=true:=by
 rw[DI,Ö];intro t b;let(r,a,rfl):=Ð.mp b;have:=(h.lk r a).1.sh;show((!false) && (true && (((!false) && A3 r.2) && true)))=true
 lia
def zml{ws:ki}(v:CA ws){rs:List<|Str×qB}(h:RsOk ws rs):Oo [CV rs,.lst<|ws.map T.str]=↑(.ok .non):=by
 have sr:=En h;have p:=AK _ sr;have s:=h.l1;have u:=h.l64;have en:(((rs.map A9).length:Int) == 0)=false:=by rw[Δ,À];lia
 let(Y,e,y,rfl):=Du (b:=AD 2) (body:=Pe) (ts:=rs.map A9) (Y:=[↑(CV rs),↑(.lst<|ws.map T.str),none]) (λi Y=>∃y,Y=[↑(CV rs),↑(.lst<|ws.map T.str),y]) {_,rfl} λi t Y a d=>by
  let(y,rfl):=d;let(r,j,rfl):=Ð.mp<|õ a;let(z,A,B):=h.nm r j;let(c,w):=h.lk r j;have l:=rn_ok z A B;have m:=Ua v st_tx w c;have g:=c.sh;refine{[↑(CV rs),↑(.lst<|ws.map T.str),↑(A9 r)],by simp![],[↑(CV rs),↑(.lst<|ws.map T.str),↑(A9 r)],?_,_,rfl}
  unfold Pe
  simp![zq0,Ga,AX,AV,l,m,g,AK _ g]
 have k:=J8 (b:=AD 0) (me:=Vo) (ts:=rs.map A9) (Y:=[none]) (λϊ Y=>∃y,Y=[y]) (λi=>.str ((rs.map (·.1)).getD i Str.empty)) {(none),rfl} λi t Y a d=>by
  let(y,rfl):=d;have f:i<rs.length:=by simpa using (Î.mp a).1
  rw[È,Á f]at a;have q:t=A9 rs[i]:=(Û a).symm;subst q;have c:=(h.lk rs[i]<|Ò f).1.sh;have n:(rs.map (·.1)).getD i Str.empty=rs[i].1:=by simp[f]
  refine{[↑(A9 rs[i])],by simp![],?_,_,rfl};rw[n];unfold Vo
  simp![c]
 have o:(List.range (rs.map A9).length).map (λi=>T.str ((rs.map (·.1)).getD i Str.empty))=(rs.map (·.1)).map T.str:=by
  rw[M7 (rs.map (·.1)),À,À];rfl
 rw[o]at k;have un:=Px h.nd (by rw[À];lia)
 have x:(rs.map A9).length<=100000:=by rw[À];lia
 unfold Oo Tc
 simp![DQ,AX,AV,sr,p,en,e,k,un,x]
abbrev RF:Stmt:=top 37
def Vq:AI:=
 (AN Ld<|AB (AA 0) AE)
def Vp:AI:=
 (m2 De (AA 0)<|AA 1)
def Th:AG:=
 (AF (A8 (B0 (BW<|m1 (DP "list")<|AA 0)<|BW<|m1 GP<|Az 1 [] (Aq<|AA 0) (AD 0) (mC<|.bl true) Vq) (AO<|mC<|.bl false) A7)
 (AO<|Bg (AN Jx<|AB (AA 0) AE)<|m1 GP<|Az 1 [1] (Aq<|AA 0) (AD 0) (mC<|.bl true) Vp))
def Ot:qB->Option Ru:=AW 2 2 Th
abbrev iN:=fA 4 2 RF Ot
abbrev zbm:Gm:=gA RF 3 [("is_watch_name",Up),("are_unlike",Nz)] ["isinstance","list","all"]
theorem zbs:Ck zbm iN RF Th:={}
def zpc{ws ns:ki}(c:∀x∈ws,Jp x)(b:∀x∈ns,x∈ws)(hd:ns.Nodup)(l:ns.length<=100):Ot [.lst<|ns.map T.str,.lst<|ws.map T.str]=↑(.ok<|.bl true):=by
 have tw :=λx j=>MC<|c x j
 have mem:∀i,i<ns.length->ns.getD i Str.empty∈ns:=λi a=>by
  simp_all
 have d:=Cq (n:=ns.length) (me:=Vq) (x:=none) (cs:=[]) (g:=λi=>.str<|ns.getD i Str.empty) (f:=λϊ=>.bl true) λi a=>by
  unfold Vq
  simp![Wk<|c _<|b _<|mem i a]
 have Fm:=Cq (me:=Vp) (x:=none) (cs:=[↑(.lst<|ws.map T.str)]) (g:=λi=>.str<|ns.getD i Str.empty) (f:=λϊ=>.bl true) λi a=>by
  have e:=Jc (o:=false) (k:=.lst) tw<|tw _<|b _<|mem i a;rw[Ç<|b _<|mem i a]at e;unfold Vp
  simp![AX,AV,e]
 rw[<- M7]at d Fm;have l1:ns.length<=100000:=by lia
 have h:((List.range ns.length).map λϊ=>true).all id=true:=by simp
 have un:=Px hd<|by lia
 unfold Ot Th
 simp![AX,AV,À,d,Fm,l1,Jm,h,un]
abbrev Qf:Stmt:=top 29
def NU:AG:=
 (AF (A8 (BW<|m1 (DP "str")<|AA 0) (AO<|mC<|.bl false) A7)
 (AO<|B0 (m2 Au (AA 0)<|mC<|.str "")<|Bg (m2 De (AJ (AA 0)<|m1 FK<|mC<|.int 1)<|BV<|AB (mC<|.str "!")<|AB (mC<|.str "?") AE)<|AN Lg<|AB (Cj (FO (AA 0) none<|↑(m1 FK<|mC<|.int 1))<|Fj (AA 0) none<|↑(m1 FK<|mC<|.int 1)) AE))
def Ju:qB->Option Ru:=AW 1 1 NU
abbrev g9:=fA 3 1 Qf Ju
abbrev zei:Gm:=gA Qf 2 [("is_name",Ur)] ["isinstance","str"]
theorem zeu:Ck zei g9 Qf NU:={}
def WN(z:Str):Prop:=z=Str.ofString ""\/z=Str.ofString "go!"\/z=Str.ofString "cut!"
def zna{z:Str}(h:WN z):PyData.strOk z=true:=by
 rcases h with rfl|rfl|rfl<;>decide +kernel
def znb{z:Str}(h:WN z):Ju [.str z]=↑(.ok<|.bl true):=by
 have d:PyData.strOk (Str.ofString "")=true:=by decide +kernel
 have f:∀x:Str,(x.cps.all λc=>decide (97<=c) && decide (c<=122))=true->F8 x:=λx r i q=>by
  simp_all
 have p:De (.str<|Str.mk #[33]) (.tup [.str<|Str.ofString "!",.str<|Str.ofString "?"])=↑(.bl true):=by ext
 have a:∀z y:Str,PyData.strOk z=true->z≠Str.ofString ""->z.length<=100000->AZ z.cps.toList (-1)=↑33->Txt.slice z none (↑(-1))=y->F8 y->1<=y.cps.size->y.cps.size<=8->Ju [.str z]=↑(.ok<|.bl true):=by
  intro z y o b m l n g j k;have e:=GK o d;rw[Õ b]at e;have en:=bZ g j k;unfold Ju NU
  simp![e,m,l,p,Fj,n,en,show(-(1:Int))=-1 from rfl]
 rcases h with rfl|rfl|rfl;have e:=GK d d;rw[Ç rfl]at e;unfold Ju NU
 simp![e]
 exact a _ (Str.ofString "go") (by decide +kernel) (by decide +kernel) (by decide +kernel) (by decide +kernel) (by decide +kernel) (f _<|by decide +kernel) (by decide +kernel)<|by decide +kernel
 exact a _ (Str.ofString "cut") (by decide +kernel) (by decide +kernel) (by decide +kernel) (by decide +kernel) (by decide +kernel) (f _<|by decide +kernel) (by decide +kernel)<|by decide +kernel
abbrev RB:Stmt:=top 36
def Pf:AG:=
 (AF (A8 (BW<|m1 (LC VR)<|AA 3) (Cw "BadMachine"<|AB (mC<|.str "a machine's doors are doors") AE) A7)
 (AF (A8 (B0 (m2 GC (Ax BU B7 0<|AA 3)<|AA 1)<|m2 GC (Ax BU B7 1<|AA 3)<|AA 1) (Cw "BadMachine"<|AB (mC<|.str "a door leads from one room of the machine to another") AE) A7)
 (AF (A8 (BW<|AN Jv<|AB (Ax BU B7 2<|AA 3)<|AB (AA 2)<|AB (mC Ja) AE) (Cw "BadMachine"<|AB (mC<|.str "a door's guard is one of the machine's watches") AE) A7)
 (A8 (B0 (BW<|AN Ot<|AB (Ax BU B7 3<|AA 3)<|AB (AA 2) AE)<|BW<|AN Ju<|AB (Ax BU B7 4<|AA 3) AE) (Cw "BadMachine"<|AB (mC<|.str "a door sets watches of the machine, each once, and has at most one sign") AE) A7))))
def Td:AG:=
 (AF (A8 (BW<|m1 (DP "list")<|AA 0) (Cw "BadMachine"<|AB (mC<|.str "a machine's doors are a list") AE) A7)
 (BE (Aq<|AA 0) (AD 3) Pf))
def Oq:qB->Option Ru:=AW 3 4 Td
abbrev iM:=fA 5 3 RB Oq
abbrev zbg:Gx:={ Bz with co:=[("WORDS",Ja)],cl:=[("Door",BU,B7)],ci:=[("Door",VR)] }
abbrev zbl:Gm:=gA RB 4 [("is_guard",Nw),("are_noughts",iN),("is_sign",g9)] ["isinstance","list"] (ex:=["BadMachine"]) (ox:=zbg)
theorem zbr:Ck zbl iM RB Td:={}
structure Dr where
 s:Str
 e:Str
 g:qB
 n:ki
 z:Str
abbrev ku:=List Dr
abbrev BF(d:Dr):T:=.obj (.ins BU B7) [.str d.s,.str d.e,.lst d.g,.lst<|d.n.map T.str,.str d.z]
structure DrOk(ws ns:ki)(d:Dr):Prop where
 s:d.s∈ns
 e:d.e∈ns
 g:BX ws CM d.g
 gl:d.g.length<=1000
 n:∀x∈d.n,x∈ws
 nd:d.n.Nodup
 nl:d.n.length<=100
 z:WN d.z
def OH{ws ns:ki}{d:Dr}(h:DrOk ws ns d):(BF d).sh=true:=by
 have:=h.g.sh
 simp![this,AV]
def bS{ys:ki}{x:Str}{o:Bool}{k:Kd}(h:CA ys)(a:PyData.strOk x=true):GC (.str x) (.nd o k<|ys.map T.str)=↑(.bl<|!decide (x∈ys)):=by
 have e:=Jc (o:=o) (k:=k) h a;unfold De at e;unfold GC;lia
def zmn{ws ns:ki}(j:∀x∈ws,Jp x)(a:CA ns){ds:ku}(h:∀d∈ds,DrOk ws ns d):Oq [.lst<|ds.map BF,.lst<|ns.map T.str,.lst<|ws.map T.str]=↑(.ok .non):=by
 have tw:CA ws:=λx u=>MC<|j x u
 have sd:A3 (ds.map BF)=true:=by
  rw[DI,Ö];intro t s;let(d,hd,rfl):=Ð.mp s;exact OH<|h d hd
 have p:=AK _ sd
 let(Y,e,y,rfl):=Du (b:=AD 3) (body:=Pf) (ts:=ds.map BF) (Y:=[↑(.lst<|ds.map BF),↑(.lst<|ns.map T.str),↑(.lst<|ws.map T.str),none]) (λi Y=>∃y,Y=[↑(.lst<|ds.map BF),↑(.lst<|ns.map T.str),↑(.lst<|ws.map T.str),y]) {_,rfl} λi t Y q r=>by
  let(y,rfl):=r;let(d,hd,rfl):=Ð.mp<|õ q;have k:=h d hd;have c:=bS (o:=false) (k:=.lst) a<|a _ k.s;have f:=bS (o:=false) (k:=.lst) a<|a _ k.e;rw[Ç k.s]at c;rw[Ç k.e]at f;have l:=Ua tw P5 k.gl k.g;have m:=zpc j k.n k.nd k.nl;have n:=znb k.z;have g:=k.g.sh;refine{[↑(.lst<|ds.map BF),↑(.lst<|ns.map T.str),↑(.lst<|ws.map T.str),↑(BF d)],by simp![],[↑(.lst<|ds.map BF),↑(.lst<|ns.map T.str),↑(.lst<|ws.map T.str),↑(BF d)],?_,_,rfl}
  have v:List.lookup BU VR=↑true:=by decide +kernel
  unfold Pf
  simp![eJ,LC,v,ă,AX,AV,c,f,l,m,n,g,AK _ g]
 unfold Oq Td
 simp![AX,AV,sd,p,e]
abbrev Xw:Stmt:=By 32 0
def Vu:AI:=
 (AA 0)
def Pg:AG:=
 (JM Al An 1 0 (AA 4)<|m1 DO<|AA 5)
def Ts:AG:=
 (AF (IJ<|AN Om<|AB (AA 1) AE)
 (AF (IJ<|AN Oo<|AB (AA 2)<|AB (AA 1) AE)
 (AF (IJ<|AN Oq<|AB (AA 3)<|AB (Az 2 [] (Aq<|AA 2) (Ad 2<|AH (AD 0)<|AH (AD 1) Ah) (mC<|.bl true) Vu)<|AB (AA 1) AE)
 (AF (A8 (B0 (m2 (Br λi j=>decide (j<i)) (m1 BO<|AA 2)<|mC Ng)<|m2 (Br λi j=>decide (j<i)) (m1 BO<|AA 3)<|mC Nh) (Cw "TooMany"<|AB (mC<|.str "a machine has at most 64 rooms and at most 200 doors") AE) A7)
 (AF (Cy Al An 0 0<|m1 DO<|AA 1)
 (AF (Cy Al An 1 0 IU)
 (AF (BE (Aq<|AA 2) (Ad 2<|AH (AD 4)<|AH (AD 5) Ah) Pg)
 (Cy Al An 2 0<|m1 DO<|AA 3))))))))
def WU:qB->Option Ru:=Em Al An 4 6 Ts
abbrev Ux:Fn:={6,["self","watches","rooms","doors"],WU}
abbrev zb0:Gx:={ Bz with co:=[("MOST_ROOMS",Ng),("MOST_DOORS",Nh)],sf:=↑(Al,An) }
abbrev zb6:Gm:=gA Xw 5 [("check_watches",iK),("check_rooms",iL),("check_doors",iM)] ["len","list"] (ex:=["TooMany"]) (ox:=zb0) (N:=["self","watches","rooms","doors","name","stay"])
theorem zbd:Ck zb6 Ux Xw Ts:={}
structure Mc where
 ws:ki
 rs:List (Str×qB)
 ds:ku
abbrev kz:=List Mc
abbrev CO(M:Mc):T:=.obj (.ins Al An) [.lst<|M.ws.map T.str,.obj (.sdc (M.rs.map (·.1)))<|M.rs.map λr=>.lst r.2,.lst<|M.ds.map BF]
structure McOk(M:Mc):Prop where
 w:∀x∈M.ws,Jp x
 wd:M.ws.Nodup
 wl:M.ws.length<=7
 r:RsOk M.ws M.rs
 d:∀d∈M.ds,DrOk M.ws (M.rs.map (·.1)) d
 dl:M.ds.length<=200
theorem McOk.tw{M:Mc}(h:McOk M):CA M.ws:=λx a=>MC<|h.w x a
theorem McOk.tn{M:Mc}(h:McOk M):CA (M.rs.map (·.1)):=λx b=>by
 let(r,a,rfl):=Ð.mp b;exact Md (h.r.nm r a).1
def McOk.sd{M:Mc}(h:McOk M):A3 (M.ds.map BF)=true:=by
 rw[DI,Ö];intro t a;let(d,hd,rfl):=Ð.mp a;exact OH<|h.d d hd
def McOk.ss{M:Mc}(h:McOk M):A3 (M.rs.map λr=>T.lst r.2)=true:=by
 rw[DI,Ö];intro t b;let(r,a,rfl):=Ð.mp b;show((!false) && A3 r.2)=true;rw[(h.r.lk r a).1.sh]
 rfl
def McOk.sh{M:Mc}(h:McOk M):(CO M).sh=true:=by
 simp![AV,h.ss,h.sd]
def zlo{M:Mc}(h:McOk M):WU [.lst<|M.ws.map T.str,CV M.rs,.lst<|M.ds.map BF]=↑(.ok<|CO M):=by
 have w:=cw_ok h.w h.wd h.wl;have v:=zml h.tw h.r;have cd:=zmn h.w h.tn h.d;have sr:=En h.r;have D:=AK _ sr;have sd:=h.sd;have A:=AK _ sd;have a:=h.r.l1;have F:=h.r.l64;have o:=h.dl
 have u:=J8 (b:=Ad 2<|AH (AD 0)<|AH (AD 1) Ah) (me:=Vu) (ts:=M.rs.map A9) (Y:=[none,none]) (λϊ Y=>∃x y,Y=[x,y]) (λi=>.str ((M.rs.map (·.1)).getD i Str.empty)) {(none),none,rfl} λi t Y a k=>by
  let(x,y,rfl):=k;have c:i<M.rs.length:=by simpa using (Î.mp a).1
  rw[È,Á c]at a;have f:t=A9 M.rs[i]:=(Û a).symm;subst f;have B:(M.rs.map (·.1)).getD i Str.empty=M.rs[i].1:=by simp[c]
  refine{[↑(.str M.rs[i].1),↑(.lst M.rs[i].2)],by simp![],?_,_,_,rfl};rw[B];unfold Vu
  simp![]
 have C:(List.range (M.rs.map A9).length).map (λi=>T.str ((M.rs.map (·.1)).getD i Str.empty))=(M.rs.map (·.1)).map T.str:=by
  rw[M7 (M.rs.map (·.1)),À,À];rfl
 rw[C]at u;have H:(M.rs.map A9).length<=100000:=by rw[À];lia
 have g1:decide ((64:Int)<((M.rs.map A9).length:Int))=false:=Õ (by rw[À];lia);have g2:decide ((200:Int)<((M.ds.map BF).length:Int))=false:=Õ (by rw[À];lia);refine SA λp=>?_
 let(Y,e,x,y,rfl):=Du (b:=Ad 2<|AH (AD 4)<|AH (AD 5) Ah) (body:=Pg) (ts:=M.rs.map A9) (Y:=[↑(.oob p Al An [.own<|M.ws.map T.str,.osd [] []]),↑(.lst<|M.ws.map T.str),↑(CV M.rs),↑(.lst<|M.ds.map BF),none,none])
  (λi Y=>∃x y,Y=[↑(.oob p Al An [.own<|M.ws.map T.str,.osd ((M.rs.take i).map (·.1))<|(M.rs.take i).map λr=>.lst r.2]),↑(.lst<|M.ws.map T.str),↑(CV M.rs),↑(.lst<|M.ds.map BF),x,y]) {none,none,by rw[œ];rfl} λi t Y a k=>by
  let(x,y,rfl):=k;have c:i<M.rs.length:=by simpa using (Î.mp a).1
  rw[È,Á c]at a;have f:t=A9 M.rs[i]:=(Û a).symm;subst f;have s:=(h.r.lk _<|Ò c).1.sh
  have m:M.rs[i].1∉(M.rs.take i).map (·.1):=λq=>by
   rw[List.map_take]at q;let(j,G,n):=Ŏ.mp q;rw[ù,À]at G;have l:=h.r.nd;rw[List.getElem_take]at n;have z:(M.rs.map (·.1))[j]'(by rw[À];lia)=(M.rs.map (·.1))[i]'(by rw[À];exact c):=by rw[n,Ļ]
   have:=(Ą l).mp z;lia
  have d:((M.rs.take i).map (·.1)).length<100000:=by
   rw[À,ù];lia
  have g:M.rs.take (i+1)=M.rs.take i++[M.rs[i]]:=by rw[ş]
  refine{[↑(.oob p Al An [.own<|M.ws.map T.str,.osd ((M.rs.take i).map (·.1))<|(M.rs.take i).map λr=>.lst r.2]),↑(.lst<|M.ws.map T.str),↑(CV M.rs),↑(.lst<|M.ds.map BF),↑(.str M.rs[i].1),↑(.lst M.rs[i].2)],by simp![],[↑(.oob p Al An [.own<|M.ws.map T.str,.osd ((M.rs.take<|i+1).map (·.1))<|(M.rs.take<|i+1).map λr=>.lst r.2]),↑(.lst<|M.ws.map T.str),↑(CV M.rs),↑(.lst<|M.ds.map BF),↑(.str M.rs[i].1),↑(.lst M.rs[i].2)],?_,_,_,rfl};rw[g,á,á];unfold Pg
  simp![s,AK _ s,m,d]
 rw[À,ĝ]at e;have E:=AK _ h.ss;unfold G5 Ts Ng Nh
 simp![AX,AV,w,v,cd,sr,D,sd,A,u,H,g1,g2,e,E]
def gC{α A:Type}{b:T->AM->Option AM}{body:AG}(f:α->T)(S:List A->AM->Prop)(g:α->List A)(N:Nat):∀(L:List α) (a:List A) (Y:AM),S a Y->a.length+(L.flatMap g).length<=N->(∀x∈L,∀a Y,S a Y->a.length+(g x).length<=N->∃τ1,b (f x) Y=↑τ1/\∃τ2,body τ1=↑(.nx τ2)/\S (a++g x) τ2)->∃Y',Ar b body (L.map f) Y=↑(.nx Y')/\S (a++L.flatMap g) Y'
 |[],a,Y,h,ϊ,ϋ=>{Y,rfl,by simp_all}|x::L,a,Y,h,i,c=>by
  rw[List.flatMap_cons,ë]at i;let(τ1,k,τ2,l,d):=c x (Ë ..) a Y h<|by lia
  let(Y',e,m):=gC f S g N L (a++g x) τ2 d (by rw[ë];lia) λy j=>c y<|Ê _ j
  refine{Y',?_,by simp_all};rw[Ù];unfold Ar;lia
def EM{α:Type}{f:α->T}{L:List α}(h:∀x∈L,(f x).sh=true):A3 (L.map f)=true:=by
 rw[DI,Ö];intro t a;let(x,b,rfl):=Ð.mp a;exact h x b
def sq{f g:AG}{Y Y':AM}{r:Option Out}(h:f Y=↑(.nx Y'))(a:g Y'=r):AF f g Y=r:=by
 unfold AF;lia
def UQ{α:Type}{b:T->AM->Option AM}{mt me:AI}(f g:α->T)(p:α->Bool)(I:AM->Prop):∀(L:List α) (Y:AM),I Y->(∀x∈L,∀Y,I Y->∃τ1 bb,b (f x) Y=↑τ1/\mt τ1=↑(.v (.bl<|p x) bb)/\(p x=true->me τ1=↑(.v (g x) false))/\I τ1)->CJ b mt me (L.map f) Y=↑((L.filter p).map g)
 |[],ϊ,ϋ,ό=>rfl|x::L,Y,h,a=>by
  let(τ1,bb,e,i,j,c):=a x (Ë ..) Y h;have k:=UQ f g p I L τ1 c λu d=>a u<|Ê _ d
  rw[Ù,ż];unfold CJ;cases l:p x with
  |true=>simp_all|false=>lia
def Mc.nm(M:Mc):ki:=M.rs.map (·.1)
def zpk{α:Type}(l:List α)(c:l≠[])(i:Int):∃x∈l,AZ l (i.fmod (l.length:Int))=↑x:=by
 have e:0<l.length:=List.length_pos_iff.mpr c;have b:=ü i<|show(0:Int)<(l.length:Int) by lia
 have d:=Ě i<|show(0:Int)<(l.length:Int) by lia
 have a:(i.fmod (l.length:Int)).toNat<l.length:=by lia
 exact{l[(i.fmod (l.length:Int)).toNat],Ò a,L5 b<|Á a}
def zqv{α:Type}(f:α->T){l:List α}{i:Int}{x:α}(h:AZ l i=↑x):AZ (l.map f) i=↑(f x):=by
 unfold AZ at h ⊢;cases a:CZ l.length i with
 |none=>simp_all|some j=>simp_all
def VL:PyData.strOk (Str.ofString "")=true:=by decide +kernel
def Ay(M:Mc):T:=CO M
def H9{M:Mc}(h:McOk M):(Ay M).sh=true:=h.sh
def Di{f g:AG}{Y:AM}{r:Option Out}(h:f Y=↑(.nx Y))(a:g Y=r):AF f g Y=r:=sq h a
def sr{f g:AG}{Y:AM}{t:T}(h:f Y=↑(.rt t)):AF f g Y=↑(.rt t):=by
 unfold AF;rw[h]
def JW(M:Mc):BQ Al An (Ay M)=↑[.lst<|M.ws.map T.str,.obj (.sdc (M.rs.map (·.1)))<|M.rs.map λr=>.lst r.2,.lst<|M.ds.map BF]:=(show BQ Al An (CO M)=(if Al=Al/\An=An then ↑[.lst<|M.ws.map T.str,.obj (.sdc (M.rs.map (·.1)))<|M.rs.map λr=>.lst r.2,.lst<|M.ds.map BF] else none) from rfl).trans (if_pos {(rfl),rfl})
abbrev Q0:Stmt:=top 30
def Sz:AG:=
 (AO<|EG (m1 (DP "list")<|AA 0) (m1 DO<|AA 0)<|AA 0)
def Lb:qB->Option Ru:=AW 1 1 Sz
abbrev gN:=fA 1 1 Q0 Lb
abbrev zdg:Gm:=gA Q0 0 [] ["isinstance","list"]
theorem zdw:Ck zdg gN Q0 Sz:={}
def Yu(l:qB)(h:A3 l=true):Lb [.lst l]=↑(.ok<|.own l):=by
 unfold Lb Sz
 simp![h,AK _ h]
abbrev Xx:Stmt:=By 31 0
def UI:AG:=
 (AF (Cy BU B7 0 0<|AA 1)
 (AF (Cy BU B7 1 0<|AA 2)
 (AF (Cy BU B7 2 0<|AN Lb<|AB (AA 3) AE)
 (AF (Cy BU B7 3 0<|AN Lb<|AB (AA 4) AE)
 (Cy BU B7 4 0<|AA 5)))))
def WV:qB->Option Ru:=Em BU B7 6 6 UI
abbrev VE:Fn:={2,["self","start","end","guard","noughts","sign"],WV}
abbrev zcg:Gx:={ Bz with sf:=↑(BU,B7) }
abbrev zcr:Gm:=gA Xx 1 [("own_copy",gN)] [] (ox:=zcg)
theorem zd3:Ck zcr VE Xx UI:={}
def di_ok{ws ns:ki}{d:Dr}(h:DrOk ws ns d):WV [.str d.s,.str d.e,.lst d.g,.lst<|d.n.map T.str,.str d.z]=↑(.ok<|BF d):=by
 have a:=h.g.sh;have b:=Yu d.g a;have c:=Yu (d.n.map T.str)<|AV _;refine SA λp=>?_
 unfold G5 UI
 simp![b,c,a,AK _ a,AX,AV]
abbrev Ra:Stmt:=top 79
def Pk:AG:=
 (Cb 1<|IS WV []<|AB (AJ (AJ (AA 3)<|AA 5)<|mC<|.int 0)<|AB (AJ (AJ (AA 3)<|AA 6)<|mC<|.int 0)<|AB (m1 DO<|AA 7)<|AB (m1 DO<|AA 8)<|AB (AA 9) AE)
def Vw:AI:=
 (BV<|AB (AA 0)<|AB (m1 DO<|AA 1) AE)
def UA:AG:=
 (AF (AS (AA 0)<|Ad 3<|AH (AD 2)<|AH (AD 3)<|AH (AD 4) Ah)
 (AF (CU 1<|BI AE)
 (AF (BE (Aq<|AA 4) (Ad 5<|AH (AD 5)<|AH (AD 6)<|AH (AD 7)<|AH (AD 8)<|AH (AD 9) Ah) Pk)
 (AF (Ff 1)<|AO<|IS WU []<|AB (m1 DO<|AA 2)<|AB (Az 2 [] (Aq<|AA 3) (Ad 2<|AH (AD 0)<|AH (AD 1) Ah) (mC<|.bl true) Vw)<|AB (AA 1) AE))))
def Lo:qB->Option Ru:=AW 1 10 UA
abbrev iZ:=fA 8 1 Ra Lo
abbrev zih:Gx:={ Bz with nw:=[("Door",VE,[(5,[])]),("Machine",Ux,[(3,[])])] }
abbrev zir:Gm:=gA Ra 7 [] ["list"] ["_law_built"] (ox:=zih) (N:=["_law_spec","_law_built","_law_watches","_law_rooms","_law_doors","_law_begin","_law_end","_law_guard_here","_law_noughts","_law_sign"])
theorem zje:Ck zir iZ Ra UA:={}
structure Sd where
 b:Nat
 e:Nat
 g:qB
 n:ki
 z:Str
abbrev Bd(d:Sd):T:=.tup [.int (d.b:Int),.int (d.e:Int),.lst d.g,.lst<|d.n.map T.str,.str d.z]
abbrev Ao(ws:ki)(rs:List<|Str×qB)(dd:List Sd):T:=.tup [.lst<|ws.map T.str,CV rs,.lst<|dd.map Bd]
def Ed(rs:List<|Str×qB)(d:Sd):Dr:={(rs.getD d.b (Str.empty,[])).1,(rs.getD d.e (Str.empty,[])).1,d.g,d.n,d.z}
structure SpOk(ws:ki)(rs:List<|Str×qB)(dd:List Sd):Prop where
 r:RsOk ws rs
 b:∀d∈dd,d.b<rs.length/\d.e<rs.length
 d:∀d∈dd,DrOk ws (rs.map (·.1)) (Ed rs d)
 l:dd.length<=100
def SpOk.sd{ws:ki}{rs:List<|Str×qB}{dd:List Sd}(h:SpOk ws rs dd):A3 (dd.map Bd)=true:=by
 rw[DI,Ö];intro t b;let(d,hd,rfl):=Ð.mp b;have a:A3 d.g=true:=(h.d d hd).g.sh
 simp![a,AV]
def IK{rs:List<|Str×qB}{i:Nat}(h:i<rs.length):AZ (rs.map A9) (i:Int)=↑(.tup [.str (rs.getD i (Str.empty,[])).1,.lst (rs.getD i (Str.empty,[])).2]):=DC (by
 rw[È,Ó,Á h]
 rfl)
def made_ok{ws:ki}{rs:List<|Str×qB}{dd:List Sd}(h:SpOk ws rs dd)(z:McOk {ws,rs,dd.map<|Ed rs}):Lo [Ao ws rs dd]=↑(.ok<|CO {ws,rs,dd.map<|Ed rs}):=by
 have sr:=En h.r;have H:=AK _ sr;have sd:=h.sd;have E:=AK _ sd;have L:=h.l
 let(Y,e,o,p,q,r,s,rfl):=Du (b:=Ad 5<|AH (AD 5)<|AH (AD 6)<|AH (AD 7)<|AH (AD 8)<|AH (AD 9) Ah) (body:=Pk) (ts:=dd.map Bd) (Y:=[↑(Ao ws rs dd),↑(.own []),↑(.lst<|ws.map T.str),↑(CV rs),↑(.lst<|dd.map Bd),none,none,none,none,none])
  (λi Y=>∃o p q r s,Y=[↑(Ao ws rs dd),↑(.own<|((dd.take i).map (Ed rs)).map BF),↑(.lst<|ws.map T.str),↑(CV rs),↑(.lst<|dd.map Bd),o,p,q,r,s]) {none,none,none,none,none,by rw[œ];rfl} λi t Y c l=>by
  let(o,p,q,r,s,rfl):=l;have a:i<dd.length:=by simpa using (Î.mp c).1
  rw[È,Á a]at c;have f:t=Bd dd[i]:=(Û c).symm;subst f;have u:=h.b _<|Ò a;have hd:=h.d _<|Ò a;have d:=IK u.1;have J:=IK u.2;have A:=di_ok hd;have v:A3 dd[i].g=true:=hd.g.sh
  have I:∀j,A3 (rs.getD j (Str.empty,[])).2=true:=λj=>by
   by_cases w:j<rs.length;rw[Ó,Á w];exact(h.r.lk _<|Ò w).1.sh;rw[Ó,ý<|by lia];rfl
  have m:(((dd.take i).map (Ed rs)).map BF).length<100000:=by
   rw[À,À,ù];lia
  have k:dd.take (i+1)=dd.take i++[dd[i]]:=by rw[ş]
  refine{[↑(Ao ws rs dd),↑(.own<|((dd.take i).map (Ed rs)).map BF),↑(.lst<|ws.map T.str),↑(CV rs),↑(.lst<|dd.map Bd),↑(.int (dd[i].b:Int)),↑(.int (dd[i].e:Int)),↑(.lst dd[i].g),↑(.lst<|dd[i].n.map T.str),↑(.str dd[i].z)],by simp![],[↑(Ao ws rs dd),↑(.own<|((dd.take<|i+1).map (Ed rs)).map BF),↑(.lst<|ws.map T.str),↑(CV rs),↑(.lst<|dd.map Bd),↑(.int (dd[i].b:Int)),↑(.int (dd[i].e:Int)),↑(.lst dd[i].g),↑(.lst<|dd[i].n.map T.str),↑(.str dd[i].z)],?_,_,_,_,_,_,rfl};rw[k,á,á];unfold Ed at A;unfold Pk
  simp![sr,d,J,I,v,AK _ v,AX,AV,A,m]
  rfl
 rw[À,ĝ]at e
 have B:=J8 (b:=Ad 2<|AH (AD 0)<|AH (AD 1) Ah) (me:=Vw) (ts:=rs.map A9) (Y:=[none,none]) (λϊ Y=>∃x y,Y=[x,y]) (λi=>A9<|rs.getD i (Str.empty,[])) {(none),none,rfl} λi t Y c l=>by
  let(x,y,rfl):=l;have a:i<rs.length:=by simpa using (Î.mp c).1
  rw[È,Á a]at c;have f:t=A9 rs[i]:=(Û c).symm;subst f;have d:=(h.r.lk _<|Ò a).1.sh;have F:rs.getD i (Str.empty,[])=rs[i]:=by simp[a]
  refine{[↑(.str rs[i].1),↑(.lst rs[i].2)],by simp![],?_,_,_,rfl};rw[F];unfold Vw
  simp![d,AK _ d]
 have G:(List.range (rs.map A9).length).map (λi=>A9<|rs.getD i (Str.empty,[]))=rs.map A9:=by
  rw[À];refine(ES (n:=rs.length) (g:=λi=>A9<|rs.getD i (Str.empty,[])) (by rw[À]) λi a=>?_).symm;rw[È,Ó,Á a];rfl
 rw[G]at B
 have m:(rs.map A9).length<=100000:=by
  have:=h.r.l64;rw[À];lia
 have K:=zlo z;have C:=z.sd;have D:=AK _ C;unfold Lo UA
 simp![AX,AV,sr,H,sd,E,e,C,D,B,m,K]
abbrev R9:Stmt:=top 73
def Vv:AI:=
 (AJ (AA 2)<|m2 BH (m2 CK (AA 1)<|m2 BL (mC<|.int 6720)<|m2 Bl (mC<|.int 31)<|AA 0)<|mC<|.int 26)
def MM:AG:=
 (AF (CU 7<|Az 1 [0,2] (C0<|AB (AA 3) AE) (AD 0) (mC<|.bl true) Vv)
 (AF (IH 7 (AA 4)<|AJ (AA 2)<|m2 BH (m2 BL (m2 CK (AA 0)<|mC<|.int 6720)<|AA 6)<|mC<|.int 26)
 (Cb 5<|Ks (mC<|.str "")<|AA 7)))
def Tz:AG:=
 (AF (AS (mC<|.str "abcdefghijklmnopqrstuvwxyz")<|AD 2)
 (AF (AS (m2 BL (mC<|.int 1)<|m2 BH (AA 0)<|mC<|.int 8)<|AD 3)
 (AF (AS (m2 BH (m2 BH (m2 CK (AA 0)<|mC<|.int 8)<|mC<|.int 840)<|AA 3)<|AD 4)
 (AF (CU 5<|BI AE)
 (AF (BE (C0<|AB (AA 1) AE) (AD 6) MM)
 (AO<|AA 5))))))
def Ln:qB->Option Ru:=AW 2 8 Tz
abbrev iY:=fA 1 2 R9 Ln
abbrev zg7:Gm:=gA R9 0 [] ["range"] ["_law_word","_law_names_here"]
theorem zgs:Ck zg7 iY R9 Tz:={}
def DA(c:Int):Nat:=(1+c.fmod 8).toNat
def HW(c:Int):Nat:=(((c.fdiv 8).fmod 840).fmod (1+c.fmod 8)).toNat
def Kk(c:Int):1<=DA c/\DA c<=8/\(1+c.fmod 8)=(DA c:Int)/\((c.fdiv 8).fmod 840).fmod (1+c.fmod 8)=(HW c:Int)/\HW c<DA c:=by
 have e:=ü c<|show(0:Int)<8 by decide
 have g:=Ě c<|show(0:Int)<8 by decide
 have d:0<1+c.fmod 8:=by lia
 have f:=ü ((c.fdiv 8).fmod 840) d;have h:=Ě ((c.fdiv 8).fmod 840) d;unfold DA HW;change ((c.fdiv 8).fmod 840).fmod (1+c.fmod 8)=b;change c.fmod 8=a;refine{?_,?_,?_,?_,?_}<;>lia
def IW(c:Int)(j:Nat):Int:=(c.fdiv<|6720+31 * (j:Int)).fmod 26
def Ge(c:Int)(k:Nat):Int:=(c.fdiv 6720+(k:Int)).fmod 26
def Fl(c:Int)(k j:Nat):Nat:=if j=HW c then 97+(Ge c k).toNat else 97+(IW c j).toNat
def Cp(c:Int)(k:Nat):Str:={((List.range<|DA c).map (Fl c k)).toArray}
def IV(c:Int)(k j:Nat):(0<=IW c j/\IW c j<26)/\0<=Ge c k/\Ge c k<26:={{ü _ (by decide),Ě _<|by decide},ü _ (by decide),Ě _<|by decide}
def abc:(Str.ofString "abcdefghijklmnopqrstuvwxyz").cps.toList=(List.range 26).map (97 + ·):=by rfl
def lJ{i:Int}(a:0<=i)(b:i<26):AZ (Str.ofString "abcdefghijklmnopqrstuvwxyz").cps.toList i=↑(97+i.toNat):=by
 rw[abc];refine L5 a ?_;rw[È,Ŭ<|by lia];rfl
def lI:(Str.ofString "abcdefghijklmnopqrstuvwxyz").length<=100000:=by decide +kernel
def eP:∀cs:kq,Str.join (Str.ofString "") (cs.map λc=>{#[c]})={(cs.toArray)}
 |[]=>rfl|[c]=>rfl|c::d::r=>by
  have a:=eP<|d::r;rw[Ù]at a;show Str.mk #[c]++Str.ofString ""++Str.join (Str.ofString "") ({#[d]}::r.map λc=>{#[c]})=_
  rw[a];have b:(Str.ofString "").cps=#[]:=by rfl
  show Str.mk ((#[c]++(Str.ofString "").cps)++(d::r).toArray)=Str.mk _;rw[b];simp
def zia(cs:kq):Txt.join (Str.ofString "") (cs.map λc=>{#[c]})={(cs.toArray)}:=(eq_of_beq<|PyProof.Rows.join_plain_closes _ _).trans (eP cs)
def Se(c:Int)(k:Nat):(Cp c k).cps.size=DA c:=by
 unfold Cp;simp
def b8{c:Int}{k i:Nat}(h:i<DA c):(Cp c k).cps.getD i 0=Fl c k i:=by
 unfold Cp;simp_all
theorem bY(c:Int)(k:Nat):F8<|Cp c k:=λi a=>by
 rw[Se]at a;rw[b8 a];let(b,d):=IV c k i;unfold Fl
 lia
def zph{c:Int}{j k:Nat}(hj:j<20)(hk:k<20)(h:Cp c j=Cp c k):j=k:=by
 let(b,d,ne,f,nl):=Kk c;have e:=congrArg (λs:Str=>s.cps.getD (HW c) 0) h
 erw[b8 nl]at e;unfold Fl at e;have g:=(IV c j 0).2;have i:=(IV c k 0).2;have a:Ge c j=Ge c k:=by lia
 unfold Ge at a;lia
def w5_ok{c:Int}{k m:Nat}(hk:k<20){l:qB}(C:l.length<1000){x7:kr}:∃y7,MM [↑(.int c),↑(.int m),↑(.str "abcdefghijklmnopqrstuvwxyz"),↑(.int<|1+c.fmod 8),↑(.int<|((c.fdiv 8).fmod 840).fmod (1+c.fmod 8)),↑(.own l),↑(.int k),x7]
  = ↑(.nx [↑(.int c),↑(.int m),↑(.str "abcdefghijklmnopqrstuvwxyz"),↑(.int<|1+c.fmod 8),↑(.int<|((c.fdiv 8).fmod 840).fmod (1+c.fmod 8)),↑(.own<|l++[.str<|Cp c k]),↑(.int k),y7]):=by
 let(D,E,ne,z,nl):=Kk c
 have v:=Cq (n:=DA c) (me:=Vv) (x:=none) (cs:=[↑(.int c),↑(.str "abcdefghijklmnopqrstuvwxyz")]) (g:=λi=>.int (i:Int)) (f:=λj=>.str {#[97+(IW c j).toNat]}) λj s=>by
  have m1:CH 31 (j:Int)=true:=JV<|EC (by decide)<|by decide
  have y:(6720+31 * (j:Int)=0)=False:=ā<|by lia
  have A:Bu (6720+31 * (j:Int))=true:=C6 (by lia)<|by lia
  have h:AZ (Str.ofString "abcdefghijklmnopqrstuvwxyz").cps.toList ((c.fdiv<|6720+31 * (j:Int)).fmod 26)=↑(97+(IW c j).toNat):=lJ (IV c 0 j).1.1 (IV c 0 j).1.2;unfold Vv
  simp![m1,y,A,h,lI]
 have ok:CF (1+c.fmod 8)=true:=@decide_eq_true _ (Classical.propDecidable _) {by lia,by lia};have p:Cc 0 (1+c.fmod 8).toNat=mT (DA c) λi=>.int (i:Int):=Cz;have eb:AZ (Str.ofString "abcdefghijklmnopqrstuvwxyz").cps.toList ((c.fdiv 6720+(k:Int)).fmod 26)=↑(97+(Ge c k).toNat):=lJ (IV c k 0).2.1 (IV c k 0).2.2;have B:Bu 6720=true:=C6 (by decide)<|by decide
 have u:DA c<=100000:=by lia
 have ex:CZ (DA c) (((c.fdiv 8).fmod 840).fmod (1+c.fmod 8))=↑(HW c):=by
  rw[z];unfold CZ;rw[if_pos (by lia),if_pos (by lia),ï]
 have q:EJ (mT (DA c) λj=>if j=HW c then T.str {#[97+(Ge c k).toNat]} else .str {#[97+(IW c j).toNat]})=↑(((List.range<|DA c).map (Fl c k)).map λc=>{#[c]}):=by
  rw[<- JG,è,è];refine congrArg EJ ?_;unfold mT;refine Ă λj s=>?_;show _=T.str {#[Fl c k j]};unfold Fl;split<;>rfl
 have o:=zia<|(List.range<|DA c).map (Fl c k)
 have b:(((((List.range<|DA c).map (Fl c k)).map λc=>Str.mk #[c])).map (·.length)).sum+((((List.range<|DA c).map (Fl c k)).map λc=>Str.mk #[c])).length * (Str.ofString "").length<=100000:=by
  have e:(Str.ofString "").length=0:=by decide +kernel
  rw[e,Nat.mul_zero,Nat.add_zero,è]
  have:∀l:kq,(l.map ((·.length) ∘ λc=>Str.mk #[c])).sum=l.length:=by
   intro l
   induction l with
   |nil=>rfl|cons a r t=>rw[Ù,List.sum_cons,t,ì];show 1+r.length=r.length+1;lia
  rw[this];simp;lia
 have w:l.length<100000:=by lia
 have d:Str.mk ((List.range<|DA c).map (Fl c k)).toArray=Cp c k:=rfl;unfold MM;refine{↑(.own (mT (DA c) λj=>if j=HW c then T.str {#[97+(Ge c k).toNat]} else .str {#[97+(IW c j).toNat]})),?_}
 simp![ok,p,v,u,eb,B,lI,ex,N9,Ks,q,b,o,w,d]
def cE(c:Int){m:Nat}(r:m<20):Ln [.int c,.int m]=↑(.ok<|.own<|mT m λk=>.str<|Cp c k):=by
 let(Y,e,u,v,rfl):=Du (b:=AD 6) (body:=MM) (ts:=mT m λi=>.int (i:Int)) (Y:=[↑(.int c),↑(.int m),↑(.str "abcdefghijklmnopqrstuvwxyz"),↑(.int<|1+c.fmod 8),↑(.int<|((c.fdiv 8).fmod 840).fmod (1+c.fmod 8)),↑(.own []),none,none])
  (λi Y=>∃f a,Y=[↑(.int c),↑(.int m),↑(.str "abcdefghijklmnopqrstuvwxyz"),↑(.int<|1+c.fmod 8),↑(.int<|((c.fdiv 8).fmod 840).fmod (1+c.fmod 8)),↑(.own<|mT i λk=>.str<|Cp c k),f,a]) {none,none,by rfl} λi t Y n o=>by
   let(q,rfl):=Ha n;let(f,a,rfl):=o;let(s,d):=w5_ok (c:=c) (k:=i) (m:=m) (by lia) (l:=mT i λk=>.str<|Cp c k) (by rw[CI];lia) (x7:=a)
   rw[J3 (g:=λk=>.str<|Cp c k)]at d;exact{_,by simp![],_,d,_,_,rfl}
 rw[CI]at e;have ok:CF (m:Int)=true:=@decide_eq_true _ (Classical.propDecidable _) {by lia,by lia}
 have h:Cc 0 m=mT m λi=>.int (i:Int):=Cz;have j:(1+c.fmod 8=0)=False:=ā<|by lia
 have p:Bu 8=true:=C6 (by decide)<|by decide
 unfold Ln Tz
 simp![ok,h,e,j,p]
abbrev RV:Stmt:=top 72
def Pj:AG:=
 (AF (Cb 2<|m2 BH (AA 5)<|m2 Eo (mC<|.int 10)<|mC<|.int 45)
 (AS (m2 CK (AA 5)<|m2 Eo (mC<|.int 10)<|mC<|.int 45)<|AD 5))
def Ph:AG:=
 (AF (AS (m2 BH (m2 BL (m2 BL (m2 Bl (AA 3)<|AA 3)<|m2 Bl (mC<|.int 48271)<|AA 3)<|AA 4)<|m2 BL (m2 Eo (mC<|.int 10)<|mC<|.int 18)<|mC<|.int 9)<|AD 3)
 (Cb 2<|AA 3))
def N0:AG:=
 (AF (CU 2<|BI AE)
 (AF (A8 (m2 (Br λi j=>decide (j<=i)) (AA 0)<|m2 Eo (mC<|.int 10)<|mC<|.int 30) (AF (AS (m2 EB (AA 0)<|m2 Eo (mC<|.int 10)<|mC<|.int 30)<|AD 5)
 (AF (BE (C0<|AB (AA 1) AE) (AD 4) Pj)
 (AO<|AA 2))) A7)
 (AF (AS (m2 BL (m2 BH (AA 0)<|m2 BL (m2 Eo (mC<|.int 10)<|mC<|.int 18)<|mC<|.int 9)<|mC<|.int 48271)<|AD 3)
 (AF (BE (C0<|AB (m2 BL (AA 1)<|mC<|.int 2) AE) (AD 4) Ph)
 (AF (Ff 2)<|AO<|Cj (FO (AA 2) (↑(mC<|.int 2)) none)<|Fj (AA 2) (↑(mC<|.int 2)) none)))))
def F9:qB->Option Ru:=AW 2 6 N0
abbrev LO:=fA 1 2 RV F9
abbrev zen:Gm:=gA RV 0 [] ["range"] ["_law_found"] (N:=["_law_cell","_law_many","_law_found","_law_number_here","_law_k","_law_rest"])
theorem zez:Ck zen LO RV N0:={}
def M9(c:Int){m:Nat}(A:m<=1000):∃xs:Nat->Int,F9 [.int c,.int m]=↑(.ok<|.own<|mT m λi=>.int<|xs i):=by
 have e:(0:Int)<=30/\(30:Int)<=1000000/\E4 10=true:={by decide,by decide,EC (by decide)<|by decide};have q:(0:Int)<=45/\(45:Int)<=1000000/\E4 10=true:={by decide,by decide,EC (by decide)<|by decide};have d:(0:Int)<=18/\(18:Int)<=1000000/\E4 10=true:={by decide,by decide,EC (by decide)<|by decide};have t:Bu (10 ^ 45)=true:=C6 (by decide)<|by decide
 have u:((10:Int) ^ 45≠0)=True:=by simp
 have l:((10:Int) ^ 18+9≠0)=True:=by simp
 have s:(45:Int).toNat=45:=rfl;have k:(30:Int).toNat=30:=rfl;have f:(18:Int).toNat=18:=rfl
 by_cases h:(10:Int) ^ 30<=c
 have a:=LM (b:=AD 4) (body:=Pj) (n:=m) (g:=λi=>.int (i:Int)) (Y:=[↑(.int c),↑(.int m),↑(.own []),none,none,↑(.int<|c - 10 ^ 30)])
  (λi Y=>∃(xs:Nat->Int) (x:kr) (r:Int),Y=[↑(.int c),↑(.int m),↑(.own<|mT i λi=>.int<|xs i),none,x,↑(.int r)])
  {λϊ=>0,none,_,rfl} (by
   rintro i Y v ⟨xs,x,r,rfl⟩;refine{_,by simp![];rfl,?_};have l1:i<100000:=by lia
   refine{_,by unfold Pj;simp![q,t,u,s,l1];rfl,λj=>if j=i then r.fmod (10 ^ 45) else xs j,↑(.int (i:Int)),r.fdiv<|10 ^ 45,?_}
   rw[dD T.int])
 let(w,o,xs,x,r,rfl):=a;refine{xs,?_};have p:CF (m:Int)=true:=Et<|by lia
 unfold F9 N0
 simp![e,k,h,p,Cz,o]
 have a:=LM (b:=AD 4) (body:=Ph) (n:=m+2) (g:=λi=>.int (i:Int)) (Y:=[↑(.int c),↑(.int m),↑(.own []),↑(.int<|c.fmod (10 ^ 18+9)+48271),none,none])
  (λi Y=>∃(xs:Nat->Int) (x:kr) (r:Int),0<=r/\r<2 * 10 ^ 18/\Y=[↑(.int c),↑(.int m),↑(.own<|mT i λi=>.int<|xs i),↑(.int r),x,none])
  {λϊ=>0,none,_,by rw[fm<|by decide];lia,by rw[fm<|by decide];lia,rfl} (by
   rintro i Y v ⟨xs,x,r,r0,r1,rfl⟩;refine{_,by simp![];rfl,?_};have l1:i<100000:=by lia
   have m1:CH r r=true:=zlm (C6 (by lia)<|by lia)<|C6 (by lia)<|by lia
   have m2:CH 48271 r=true:=JV<|EC (by decide)<|by decide
   refine{_,by unfold Ph;simp![d,l,f,l1,m1,m2];rfl,λj=>if j=i then (r * r+48271 * r+i).fmod (10 ^ 18+9) else xs j,↑(.int (i:Int)),(r * r+48271 * r+i).fmod (10 ^ 18+9),by rw[fm<|by decide];lia,by rw[fm<|by decide];lia,?_}
   rw[dD T.int])
 obtain⟨w,o,xs,x,r,-,-,rfl⟩:=a;refine{λi=>xs<|i+2,?_};have p:CF ((m:Int)+2)=true:=Et (n:=m+2)<|by lia
 have o2:((m:Int)+2).toNat=m+2:=by lia
 have ct:Bi (mT (m+2) λi=>.int<|xs i) ↑2 none=mT m λi=>.int<|xs<|i+2:=by
  unfold Bi;have y:HT.sIx (mT (m+2) λi=>T.int<|xs i).length 0 ↑2=2:=by rw[CI];simp[HT.sIx]
  have z:HT.sIx (mT (m+2) λi=>T.int<|xs i).length (mT (m+2) λi=>T.int<|xs i).length none=m+2:=by rw[CI];rfl
  rw[y,z];refine ES (by simp[CI]) λi v=>?_;rw[List.getElem?_take_of_lt (by lia),ő,FN (by lia),Nat.add_comm]
 unfold F9 N0
 simp![e,k,h,d,f,l,p,o2,Cz,o,ct]
abbrev R7:Stmt:=top 74
def J0:AG:=
 (AO<|m2 BL (m2 Bl (AA 1)<|m2 BH (AA 0)<|mC<|.int 7)<|AJ (BI<|BA (mC<|.int 0)<|BA (mC<|.int 0)<|BA (mC<|.int 0)<|BA (m2 BL (mC<|.int 1)<|m2 BH (m2 CK (AA 0)<|mC<|.int 28)<|mC<|.int 3) AE)<|m2 BH (m2 CK (AA 0)<|mC<|.int 7)<|mC<|.int 4)
def Hs:qB->Option Ru:=AW 2 2 J0
abbrev VC:=fA 1 2 R7 Hs
abbrev zep:Gm:=gA R7 0 [] []
theorem zf1:Ck zep VC R7 J0:={}
def bQ(x u:Int)(f:0<=u):∃n,0<=n/\Hs [.int x,.int u]=↑(.ok<|.int n):=by
 have e:0<=x.fmod 7/\x.fmod 7<7:=by
  rw[fm<|by decide];lia
 have g:0<=(x.fdiv 28).fmod 3:=by
  rw[fm (j:=3)<|by decide];lia
 have m1:CH u (x.fmod 7)=true:=E9<|EC (by lia)<|by lia
 have a:Bu 28=true:=C6 (by decide)<|by decide
 have b:Bu 7=true:=C6 (by decide)<|by decide
 have h:0<=u * x.fmod 7:=ŀ f e.1
 have c:∀{x y z v:T} {l:qB},AZ (x::y::z::v::l) (3:Int)=↑v:=by
  intro x y z v l;have:AZ (x::y::z::v::l) ((3:Nat):Int)=↑v:=DC rfl;exact this
 have d:(x.fdiv 7).fmod 4=0\/(x.fdiv 7).fmod 4=1\/(x.fdiv 7).fmod 4=2\/(x.fdiv 7).fmod 4=3:=by
  rw[fm (j:=4)<|by decide];lia
 rcases d with q|q|q|q;exact{u * x.fmod 7+0,by lia,by unfold Hs J0;simp![m1,a,b,q]};exact{u * x.fmod 7+0,by lia,by unfold Hs J0;simp![m1,a,b,q]};exact{u * x.fmod 7+0,by lia,by unfold Hs J0;simp![m1,a,b,q]};exact{u * x.fmod 7+(1+(x.fdiv 28).fmod 3),by lia,by unfold Hs J0;simp![m1,a,b,q,c]}
abbrev Rh:Stmt:=top 75
def JA:AG:=
 (A8 (m2 Cd (AA 2)<|BI AE) (AF (AS (AJ (BI<|BA (mC<|.str "<")<|BA (mC<|.str "<=")<|BA (mC<|.str ">")<|BA (mC<|.str ">=")<|BA (mC<|.str ">=")<|BA (mC<|.str "=") AE)<|m2 BH (m2 CK (AJ (AA 0)<|m2 BL (mC<|.int 1)<|m2 Bl (mC<|.int 2)<|AA 4)<|mC<|.int 8)<|mC<|.int 6)<|AD 5)
 (Cb 3<|BV<|AB (AJ (AA 2)<|m2 BH (AJ (AA 0)<|m2 BL (mC<|.int 1)<|m2 Bl (mC<|.int 2)<|AA 4)<|m1 BO<|AA 2)<|AB (AA 5)<|AB (AN Hs<|AB (AJ (AA 0)<|m2 BL (mC<|.int 2)<|m2 Bl (mC<|.int 2)<|AA 4)<|AB (AA 1) AE) AE)) A7)
def J1:AG:=
 (AF (CU 3<|BI AE)
 (AF (BE (C0<|AB (AJ (BI<|BA (mC<|.int 0)<|BA (mC<|.int 1)<|BA (mC<|.int 1)<|BA (mC<|.int 2) AE)<|m2 BH (AJ (AA 0)<|mC<|.int 0)<|mC<|.int 4) AE) (AD 4) JA)
 (AO<|AA 3)))
def Ht:qB->Option Ru:=AW 3 6 J1
abbrev VD:=fA 2 3 Rh Ht
abbrev zg9:Gm:=gA Rh 1 [("_law_number",VC)] ["range","len"] ["_law_guard_here"]
theorem zgu:Ck zg9 VD Rh J1:={}
def cD{ws:ki}(h:CA ws):Cd (.lst<|ws.map T.str) (.lst [])=↑(.bl<|!ws.isEmpty):=by
 have f1:Fit (.lst<|ws.map T.str) 1:=Fit.nd λt b=>by
  let(x,c,rfl):=Ð.mp b;exact Fit.str (h x c) _
 have f2:Fit (.lst []) 1:=Fit.nd λt b=>by cases b
 have e:=(jP f1 f2<|by decide).2;rw[e];cases ws with
 |nil=>simp_all|cons a r=>simp[T.data,B8]
def KO:ki:=["<","<=",">",">=",">=","="]
def zmv:∀y∈KO,y∈CM:=by decide +kernel
def K1{ys:ki}{i:Int}(b:0<=i)(c:i<ys.length):AZ (ys.map T.str) i=↑(.str<|ys.getD i.toNat Str.empty)/\ys.getD i.toNat Str.empty∈ys:=by
 have a:i.toNat<ys.length:=by lia
 rw[Ó,Á a];exact{L5 b (by rw[È,Á a];rfl),Ò a}
def HZ(x:Int){n:Nat}(h:1<=n):0<=x.fmod n/\x.fmod n<(n:Int):=by
 rw[fm<|by lia];exact{Int.emod_nonneg _ (by lia),Int.emod_lt_of_pos _<|by lia}
def zma{xs:Nat->Int}{u:Int}(v:0<=u){ws:ki}(w:CA ws){l:qB}(h:BX ws CM l){k:Nat}(hk:k<2)(A:l.length<=k){x5:kr}:∃l' y5,JA [↑(.lst<|mT 5 λi=>.int<|xs i),↑(.int u),↑(.lst<|ws.map T.str),↑(.own l),↑(.int k),x5]
  = ↑(.nx [↑(.lst<|mT 5 λi=>.int<|xs i),↑(.int u),↑(.lst<|ws.map T.str),↑(.own l'),↑(.int k),y5])/\BX ws CM l'/\l'.length<=k+1:=by
 have en:=cD w;cases b:ws.isEmpty with
 |true=>
  rw[b]at en;refine{l,x5,?_,h,by lia};unfold JA
  simp![AX,AV,en]
 |false=>
  rw[b]at en
  have s:1<=ws.length:=by
   cases ws with
   |nil=>cases b|cons a r=>simp
  have m2:CH 2 (k:Int)=true:=JV<|EC (by decide)<|by decide
  have m:AZ (mT 5 λi=>T.int<|xs i) (1+2 * (k:Int))=↑(.int<|xs<|1+2 * k):=by
   have:=Bf (n:=5) (g:=λi=>T.int<|xs i) (k:=1+2 * k)<|by lia
   simpa using this
  have o:AZ (mT 5 λi=>T.int<|xs i) (2+2 * (k:Int))=↑(.int<|xs<|2+2 * k):=by
   have:=Bf (n:=5) (g:=λi=>T.int<|xs i) (k:=2+2 * k)<|by lia
   simpa using this
  have f:=HZ ((xs<|1+2 * k).fdiv 8) (n:=6)<|by decide
  let(p,q):=K1 (ys:=KO) f.1 f.2;have d:AZ [T.str<|Str.ofString "<",.str<|Str.ofString "<=",.str<|Str.ofString ">",.str<|Str.ofString ">=",.str<|Str.ofString ">=",.str<|Str.ofString "="] (((xs<|1+2 * k).fdiv 8).fmod 6)=↑(.str<|KO.getD (((xs<|1+2 * k).fdiv 8).fmod 6).toNat Str.empty):=p;have j:=HZ (xs<|1+2 * k) s;let(c1,c2):=K1 (ys:=ws) j.1 j.2;let(n,y,e):=bQ (xs<|2+2 * k) u v;have z:Bu 8=true:=C6 (by decide)<|by decide
  have nw:((ws.length:Int)=0)=False:=ā<|by lia
  have x:l.length<100000:=by lia
  refine{l++[.tup [.str<|ws.getD ((xs<|1+2 * k).fmod ws.length).toNat Str.empty,.str<|KO.getD (((xs<|1+2 * k).fdiv 8).fmod 6).toNat Str.empty,.int n]],↑(.str<|KO.getD (((xs<|1+2 * k).fdiv 8).fmod 6).toNat Str.empty),?_,λt c=>?_,by rw[ë,ì,č];lia};unfold JA
  simp![AX,AV,À,en,m2,m,o,d,c1,e,z,nw,x]
  rcases ß.mp c with c|c;exact h t c;rw[Ï.mp c];exact{_,_,_,rfl,c2,zmv _ q,y}
def fU{xs:Nat->Int}{u:Int}(w:0<=u){ws:ki}(A:CA ws):∃l,Ht [.lst<|mT 5 λi=>.int<|xs i,.int u,.lst<|ws.map T.str]=↑(.ok<|.own l)/\BX ws CM l/\l.length<=2:=by
 have go:∀n:Nat,n<=2->∃l d c,Ar (AD 4) JA (mT n λi=>.int (i:Int)) [↑(.lst<|mT 5 λi=>.int<|xs i),↑(.int u),↑(.lst<|ws.map T.str),↑(.own []),none,none]=↑(.nx [↑(.lst<|mT 5 λi=>.int<|xs i),↑(.int u),↑(.lst<|ws.map T.str),↑(.own l),d,c])/\BX ws CM l/\l.length<=n:=λn K=>by
  let(Y,e,l,d,c,rfl,a,f):=Du (b:=AD 4) (body:=JA) (ts:=mT n λi=>.int (i:Int)) (Y:=[↑(.lst<|mT 5 λi=>.int<|xs i),↑(.int u),↑(.lst<|ws.map T.str),↑(.own []),none,none])
   (λi Y=>∃l d c,Y=[↑(.lst<|mT 5 λi=>.int<|xs i),↑(.int u),↑(.lst<|ws.map T.str),↑(.own l),d,c]/\BX ws CM l/\l.length<=i) {[],none,none,rfl,λt s=>(by cases s),é _} λi t Y a f=>by
    let(J,rfl):=Ha a;let(l,d,c,rfl,B,C):=f;let(F,I,p,D,E):=zma (xs:=xs) w A B (k:=i) (by lia) C (x5:=c)
    exact{_,by simp![],_,p,F,_,_,rfl,D,E}
  rw[CI]at f;exact{(l),d,c,e,a,f}
 have r:(xs 0).fmod 4=0\/(xs 0).fmod 4=1\/(xs 0).fmod 4=2\/(xs 0).fmod 4=3:=by
  rw[fm (j:=4)<|by decide];lia
 have h:AZ (mT 5 λi=>T.int<|xs i) 0=↑(.int<|xs 0):=Bf (n:=5) (g:=λi=>T.int<|xs i) (k:=0)<|by lia
 have o:∀{x y z v:T} {l:qB},AZ (x::y::z::v::l) (3:Int)=↑v:=by
  intro x y z v l;have:AZ (x::y::z::v::l) ((3:Nat):Int)=↑v:=DC rfl;exact this
 have G:CF 0=true:=@decide_eq_true _ (Classical.propDecidable _) {by decide,by decide};have m:CF 1=true:=@decide_eq_true _ (Classical.propDecidable _) {by decide,by decide};have o2:CF 2=true:=@decide_eq_true _ (Classical.propDecidable _) {by decide,by decide};have r0:Cc 0 (0:Int).toNat=mT 0 λi=>.int (i:Int):=Cz;have r1:Cc 0 (1:Int).toNat=mT 1 λi=>.int (i:Int):=Cz;have H:Cc 0 (2:Int).toNat=mT 2 λi=>.int (i:Int):=Cz;rcases r with q|q|q|q;let(l,d,c,e,a,f):=go 0<|by decide
 exact{l,by unfold Ht J1;simp![AX,AV,h,q,G,r0,e],a,by lia};let(l,d,c,e,a,f):=go 1<|by decide
 exact{l,by unfold Ht J1;simp![AX,AV,h,q,m,r1,e],a,by lia};let(l,d,c,e,a,f):=go 1<|by decide
 exact{l,by unfold Ht J1;simp![AX,AV,h,q,m,r1,e],a,by lia};let(l,d,c,e,a,f):=go 2<|by decide
 exact{l,by unfold Ht J1;simp![AX,AV,h,q,o,o2,H,e],a,by lia}
abbrev Rl:Stmt:=top 77
def U6:AI:=
 (m2 Au (m2 BH (m2 CK (m2 CK (AJ (AA 2)<|mC<|.int 7)<|m2 Eo (mC<|.int 2)<|mC<|.int 4)<|m2 BL (AA 0)<|mC<|.int 1)<|mC<|.int 2)<|mC<|.int 1)
def Vz:AI:=
 (AJ (AA 1)<|AA 0)
def UD:AG:=
 (AF (AS (AN F9<|AB (AA 0)<|AB (mC<|.int 9) AE)<|AD 4)
 (AF (AS (Az 1 [2,4] (C0<|AB (m1 BO<|AA 2) AE) (AD 0) U6 Vz)<|AD 5)
 (AF (AS (AJ (BI<|BA (mC<|.str "")<|BA (mC<|.str "")<|BA (mC<|.str "")<|BA (mC<|.str "go!") AE)<|m2 Bl (m2 CK (m2 BH (AJ (AA 4)<|mC<|.int 8)<|mC<|.int 16)<|mC<|.int 12)<|m2 BH (m2 CK (AJ (AA 4)<|mC<|.int 8)<|mC<|.int 16)<|mC<|.int 4)<|AD 6)
 (AO<|BV<|AB (m2 BH (AJ (AA 4)<|mC<|.int 0)<|AA 3)<|AB (m2 BH (AJ (AA 4)<|mC<|.int 1)<|AA 3)<|AB (AN Ht<|AB (Cj (FO (AA 4) (↑(mC<|.int 2))<|↑(mC<|.int 7))<|Fj (AA 4) (↑(mC<|.int 2))<|↑(mC<|.int 7))<|AB (AA 1)<|AB (AA 2) AE)<|AB (AA 5)<|AB (AA 6) AE))))
def KE:qB->Option Ru:=AW 4 7 UD
abbrev jA:=fA 3 4 Rl KE
abbrev ziv:Gm:=gA Rl 2 [("_law_stream",LO),("_law_guard",VD)] ["range","len"]
theorem zji:Ck ziv jA Rl UD:={}
def UR{mt me:AI}{cs:AM}{f:Nat->T}{p:Nat->Bool}:∀{l:kq} {x:kr},(∀i∈l,(∃b,mt (↑(.int (i:Int))::cs)=↑(.v (.bl<|p i) b))/\me (↑(.int (i:Int))::cs)=↑(.v (f i) false))->CJ (AD 0) mt me (l.map λi:Nat=>T.int (i:Int)) (x::cs)=↑((l.filter p).map f)
 |[],ϊ,ϋ=>rfl|i::r,x,h=>by
  let((b,c),d):=h i (Ë ..);have g:=UR (x:=↑(.int (i:Int))) λj a=>h j<|Ê _ a
  unfold CJ;have eb:AD 0 (T.int (i:Int)) (x::cs)=↑(↑(.int (i:Int))::cs):=by simp[AD]
  cases e:p i with
  |true=>simp_all|false=>simp_all
def pN(y:Int)(i:Nat):Bool:=((y.fdiv 16).fdiv ((i:Int)+1)).fmod 2 == 1
def WO(z:Str):Prop:=z=Str.ofString ""\/z=Str.ofString "go!"
abbrev O5(ws:ki)(n:Nat)(d:Sd):Prop:=d.b<n/\d.e<n/\BX ws CM d.g/\d.g.length<=2/\(∀x∈d.n,x∈ws)/\d.n.Nodup/\d.n.length<=7/\WO d.z
def zmi(c:Int){u:Int}(hu:0<=u){ws:ki}(hw:CA ws)(hd:ws.Nodup)(h7:ws.length<=7){m:Nat}(K:1<=m):∃d:Sd,KE [.int c,.int u,.lst<|ws.map T.str,.int m]=↑(.ok<|Bd d)/\O5 ws m d:=by
 let(xs,A):=M9 c (m:=9)<|by decide
 let(g,U,g1,g2):=fU (xs:=λi=>xs<|i+2) hu hw;have gs:=g1.sh;have w:∀k:Nat,k<9->AZ (mT 9 λi=>T.int<|xs i) (k:Int)=↑(.int<|xs k):=λk hk=>Bf hk
 have x0:=w 0<|by decide
 have x1:=w 1<|by decide
 have x7:AZ (mT 9 λi=>T.int<|xs i) 7=↑(.int<|xs 7):=w 7<|by decide
 have x8:=w 8<|by decide
 have Q:Bi (mT 9 λi=>T.int<|xs i) ↑2 ↑7=mT 5 λi=>.int<|xs<|i+2:=by
  have R:HT.sIx 9 0 ↑2=2:=by decide
  have S:HT.sIx 9 9 ↑7=7:=by decide
  unfold Bi;rw[CI,R,S];refine ES (by rw[ù,List.length_drop,CI];rfl) λi r=>?_;rw[List.getElem?_take,if_pos (by lia),ő,FN (by lia),Nat.add_comm]
 have t:=UR (mt:=U6) (me:=Vz) (cs:=[↑(.lst<|ws.map T.str),↑(.lst<|mT 9 λi=>.int<|xs i)]) (f:=λi=>.str<|ws.getD i Str.empty) (p:=pN<|xs 7) (l:=List.range ws.length) (x:=none) λi r=>by
  have Z:=â.mp r;have I:((2:Int) ^ (4:Int).toNat)=16:=rfl;have t4:(0:Int)<=4/\(4:Int)<=1000000/\E4 2=true:={by decide,by decide,EC (by decide)<|by decide}
  have o:Bu 16=true:=C6 (by decide)<|by decide
  have si:Bu ((i:Int)+1)=true:=C6 (Int.lt_of_lt_of_le (b:=0) (by decide +kernel)<|by lia)<|Int.lt_trans (b:=9) (by lia)<|by decide +kernel
  have ni:((i:Int)+1=0)=False:=ā<|by lia
  have P:AZ (ws.map T.str) (i:Int)=↑(.str<|ws.getD i Str.empty):=by
   have:=(K1 (ys:=ws) (i:=(i:Int)) (by lia)<|by lia).1;rwa[ï]at this
  have s9:A3 (mT 9 λi=>T.int<|xs i)=true:=JI _;constructor;refine{false,?_};unfold U6 pN
  simp![x7,I,t4,o,si,ni,DQ]
  unfold Vz
  simp![AV,P]
 have lm:(List.range ws.length).map (λi:Nat=>T.int (i:Int))=mT ws.length λi=>.int (i:Int):=rfl;rw[lm]at t
 have fs:((List.range ws.length).filter (pN<|xs 7)).map (λi=>T.str<|ws.getD i Str.empty)=(((List.range ws.length).filter (pN<|xs 7)).map λi=>ws.getD i Str.empty).map T.str:=by
  rw[è];rfl
 rw[fs]at t;have h:∀i∈(List.range ws.length).filter (pN<|xs 7),i<ws.length:=λi r=>â.mp (Ľ.mp r).1
 have L:∀x∈((List.range ws.length).filter (pN<|xs 7)).map (λi=>ws.getD i Str.empty),x∈ws:=λx hx=>by
  let(i,r,rfl):=Ð.mp hx;have:=h i r;rw[Ó,Á this];exact Ò this
 have M:(((List.range ws.length).filter (pN<|xs 7)).map λi=>ws.getD i Str.empty).Nodup:=by
  rw[List.nodup_iff_pairwise_ne,List.pairwise_map];refine List.Pairwise.imp_of_mem ?_<|List.Pairwise.filter _<|List.nodup_range (n:=ws.length);intro a b X Y B e;have J:=h a X;have W:=h b Y;rw[Ó,Á J,Ó,Á W]at e;exact B<|(Ą hd).mp e
 have N:(((List.range ws.length).filter (pN<|xs 7)).map λi=>ws.getD i Str.empty).length<=7:=by
  rw[À];have:=List.length_filter_le (pN<|xs 7)<|List.range ws.length;rw[ź]at this
  lia
 generalize ((List.range ws.length).filter (pN<|xs 7)).map (λi=>ws.getD i Str.empty)=ns at t L M N
 have m16:0<=(xs 8).fmod 16/\(xs 8).fmod 16<16:=by
  rw[fm<|by decide];lia
 have C:((xs 8).fmod 16).fdiv 12=0\/((xs 8).fmod 16).fdiv 12=1:=by
  rw[fd<|by decide];lia
 have D:((xs 8).fdiv 16).fmod 4=0\/((xs 8).fdiv 16).fmod 4=1\/((xs 8).fdiv 16).fmod 4=2\/((xs 8).fdiv 16).fmod 4=3:=by
  rw[fm (j:=4)<|by decide];lia
 have O:∀{x y z v:T} {l:qB},AZ (x::y::z::v::l) (3:Int)=↑v:=by
  intro x y z v l;have:AZ (x::y::z::v::l) ((3:Nat):Int)=↑v:=DC rfl;exact this
 have sg:∃z,WO z/\AZ [T.str<|Str.ofString "",.str<|Str.ofString "",.str<|Str.ofString "",.str<|Str.ofString "go!"] (((xs 8).fmod 16).fdiv 12 * ((xs 8).fdiv 16).fmod 4)=↑(.str z):=by
  rcases C with q|q<;>rcases D with p|p|p|p<;>rw[q,p];exact{_,.inl rfl,Gu};exact{_,.inl rfl,Gu};exact{_,.inl rfl,Gu};exact{_,.inl rfl,Gu};exact{_,.inl rfl,Gu};exact{_,.inl rfl,F6};exact{_,.inl rfl,L6};exact{_,.inr rfl,O}
 let(z,z1,z2):=sg;have mz:CH (((xs 8).fmod 16).fdiv 12) (((xs 8).fdiv 16).fmod 4)=true:=E9<|EC (by rcases D with p|p|p|p<;>lia) (by rcases D with p|p|p|p<;>lia)
 have o:Bu 16=true:=C6 (by decide)<|by decide
 have E:Bu 12=true:=C6 (by decide)<|by decide
 have h0:=HZ (xs 0) K;have J:=HZ (xs 1) K;have nm:((m:Int)=0)=False:=ā<|by lia
 have ok:CF (ws.length:Int)=true:=Et<|by lia
 have V:Cc 0 ws.length=mT ws.length λi=>.int (i:Int):=Cz;have l7:ws.length<=100000:=by lia
 refine{{((xs 0).fmod m).toNat,((xs 1).fmod m).toNat,g,ns,z},?_,by show _<m;lia,by show _<m;lia,g1,g2,L,M,N,z1};have t0:(((xs 0).fmod m).toNat:Int)=(xs 0).fmod m:=by lia
 have t1:(((xs 1).fmod m).toNat:Int)=(xs 1).fmod m:=by lia
 have F:AZ (mT 9 λi=>T.int<|xs i) 0=↑(.int<|xs 0):=x0;have G:AZ (mT 9 λi=>T.int<|xs i) 1=↑(.int<|xs 1):=x1;have H:AZ (mT 9 λi=>T.int<|xs i) 8=↑(.int<|xs 8):=x8;have s:F9 [.int c,.int 9]=↑(.ok<|.own<|mT 9 λi=>.int<|xs i):=A;show KE [.int c,.int u,.lst<|ws.map T.str,.int m]=↑(.ok<|.tup [.int (((xs 0).fmod m).toNat:Int),.int (((xs 1).fmod m).toNat:Int),.lst g,.lst<|ns.map T.str,.str z]);unfold KE UD
 simp![AX,AV,À,s,ok,V,l7,t,F,G,H,o,E,mz,z2,Q,U,gs,AK _ gs,nm,t0,t1]
abbrev RX:Stmt:=top 76
def Iv:AG:=
 (A8 (m2 Cd (AA 2)<|BI AE) (AF (AS (m2 BL (AN Hs<|AB (AJ (AA 0)<|m2 BL (mC<|.int 2)<|m2 Bl (mC<|.int 2)<|AA 4)<|AB (AA 1) AE)<|m2 Bl (AA 1)<|m2 EB (mC<|.int 1)<|m2 CK (m2 BH (m2 CK (AJ (AA 0)<|mC<|.int 0)<|mC<|.int 4)<|mC<|.int 16)<|mC<|.int 15)<|AD 5)
 (Cb 3<|BV<|AB (AJ (AA 2)<|m2 BH (AJ (AA 0)<|m2 BL (mC<|.int 1)<|m2 Bl (mC<|.int 2)<|AA 4)<|m1 BO<|AA 2)<|AB (AJ (BI<|BA (mC<|.str "<")<|BA (mC<|.str "<=") AE)<|m2 BH (m2 CK (AJ (AA 0)<|m2 BL (mC<|.int 1)<|m2 Bl (mC<|.int 2)<|AA 4)<|mC<|.int 8)<|mC<|.int 2)<|AB (AA 5) AE)) A7)
def JZ:AG:=
 (AF (CU 3<|BI AE)
 (AF (BE (C0<|AB (AJ (BI<|BA (mC<|.int 0)<|BA (mC<|.int 0)<|BA (mC<|.int 1)<|BA (mC<|.int 2) AE)<|m2 BH (AJ (AA 0)<|mC<|.int 0)<|mC<|.int 4) AE) (AD 4) Iv)
 (AO<|AA 3)))
def Ip:qB->Option Ru:=AW 3 6 JZ
abbrev iU:=fA 2 3 RX Ip
abbrev zin:Gm:=gA RX 1 [("_law_number",VC)] ["range","len"] ["_law_stay_here"]
theorem zjb:Ck zin iU RX JZ:={}
def zjx{xs:Nat->Int}{u:Int}(q:0<=u){ws:ki}(A:CA ws){l:qB}(o:BX ws D0 l){k:Nat}(hk:k<2)(F:l.length<=k){x5:kr}:∃l' y5,Iv [↑(.lst<|mT 5 λi=>.int<|xs i),↑(.int u),↑(.lst<|ws.map T.str),↑(.own l),↑(.int k),x5]
  = ↑(.nx [↑(.lst<|mT 5 λi=>.int<|xs i),↑(.int u),↑(.lst<|ws.map T.str),↑(.own l'),↑(.int k),y5])/\BX ws D0 l'/\l'.length<=k+1:=by
 have en:=cD A;cases b:ws.isEmpty with
 |true=>
  rw[b]at en;refine{l,x5,?_,o,by lia};unfold Iv
  simp![AX,AV,en]
 |false=>
  rw[b]at en
  have z:1<=ws.length:=by
   cases ws with
   |nil=>cases b|cons a r=>simp
  have m2:CH 2 (k:Int)=true:=JV<|EC (by decide)<|by decide
  have s:AZ (mT 5 λi=>T.int<|xs i) 0=↑(.int<|xs 0):=Bf (n:=5) (g:=λi=>T.int<|xs i) (k:=0)<|by lia
  have v:AZ (mT 5 λi=>T.int<|xs i) (1+2 * (k:Int))=↑(.int<|xs<|1+2 * k):=by
   have:=Bf (n:=5) (g:=λi=>T.int<|xs i) (k:=1+2 * k)<|by lia
   simpa using this
  have w:AZ (mT 5 λi=>T.int<|xs i) (2+2 * (k:Int))=↑(.int<|xs<|2+2 * k):=by
   have:=Bf (n:=5) (g:=λi=>T.int<|xs i) (k:=2+2 * k)<|by lia
   simpa using this
  have m:=HZ ((xs<|1+2 * k).fdiv 8) (n:=2)<|by decide
  let(x,y):=K1 (ys:=D0) m.1 m.2;have d:AZ [T.str<|Str.ofString "<",.str<|Str.ofString "<="] (((xs<|1+2 * k).fdiv 8).fmod 2)=↑(.str<|D0.getD (((xs<|1+2 * k).fdiv 8).fmod 2).toNat Str.empty):=x;have p:=HZ (xs<|1+2 * k) z;let(c1,c2):=K1 (ys:=ws) p.1 p.2;let(n,G,e):=bQ (xs<|2+2 * k) u q;have E:Bu 8=true:=C6 (by decide)<|by decide
  have D:Bu 4=true:=C6 (by decide)<|by decide
  have h:Bu 15=true:=C6 (by decide)<|by decide
  have nw:((ws.length:Int)=0)=False:=ā<|by lia
  have B:l.length<100000:=by lia
  have f:0<=1 - (((xs 0).fdiv 4).fmod 16).fdiv 15/\1 - (((xs 0).fdiv 4).fmod 16).fdiv 15<=1:=by
   rw[fm (j:=16) (by decide),fd (j:=15)<|by decide];lia
  have mu:CH u (1 - (((xs 0).fdiv 4).fmod 16).fdiv 15)=true:=E9<|EC (by lia)<|by lia
  have C:0<=u * (1 - (((xs 0).fdiv 4).fmod 16).fdiv 15):=ŀ q f.1;refine{l++[.tup [.str<|ws.getD ((xs<|1+2 * k).fmod ws.length).toNat Str.empty,.str<|D0.getD (((xs<|1+2 * k).fdiv 8).fmod 2).toNat Str.empty,.int<|n+u * (1 - (((xs 0).fdiv 4).fmod 16).fdiv 15)]],↑(.int<|n+u * (1 - (((xs 0).fdiv 4).fmod 16).fdiv 15)),?_,λt c=>?_,by rw[ë,ì,č];lia};unfold Iv
  simp![AX,AV,À,en,m2,s,v,w,d,c1,e,E,D,h,nw,B,mu]
  rcases ß.mp c with c|c;exact o t c;rw[Ï.mp c];exact{_,_,_,rfl,c2,y,by lia}
def sy_ex{xs:Nat->Int}{u:Int}(w:0<=u){ws:ki}(A:CA ws):∃l,Ip [.lst<|mT 5 λi=>.int<|xs i,.int u,.lst<|ws.map T.str]=↑(.ok<|.own l)/\BX ws D0 l/\l.length<=2:=by
 have go:∀n:Nat,n<=2->∃l d c,Ar (AD 4) Iv (mT n λi=>.int (i:Int)) [↑(.lst<|mT 5 λi=>.int<|xs i),↑(.int u),↑(.lst<|ws.map T.str),↑(.own []),none,none]=↑(.nx [↑(.lst<|mT 5 λi=>.int<|xs i),↑(.int u),↑(.lst<|ws.map T.str),↑(.own l),d,c])/\BX ws D0 l/\l.length<=n:=λn K=>by
  let(Y,e,l,d,c,rfl,a,f):=Du (b:=AD 4) (body:=Iv) (ts:=mT n λi=>.int (i:Int)) (Y:=[↑(.lst<|mT 5 λi=>.int<|xs i),↑(.int u),↑(.lst<|ws.map T.str),↑(.own []),none,none])
   (λi Y=>∃l d c,Y=[↑(.lst<|mT 5 λi=>.int<|xs i),↑(.int u),↑(.lst<|ws.map T.str),↑(.own l),d,c]/\BX ws D0 l/\l.length<=i) {[],none,none,rfl,λt s=>(by cases s),é _} λi t Y a f=>by
    let(J,rfl):=Ha a;let(l,d,c,rfl,B,C):=f;let(F,I,p,D,E):=zjx (xs:=xs) w A B (k:=i) (by lia) C (x5:=c)
    exact{_,by simp![],_,p,F,_,_,rfl,D,E}
  rw[CI]at f;exact{(l),d,c,e,a,f}
 have r:(xs 0).fmod 4=0\/(xs 0).fmod 4=1\/(xs 0).fmod 4=2\/(xs 0).fmod 4=3:=by
  rw[fm (j:=4)<|by decide];lia
 have h:AZ (mT 5 λi=>T.int<|xs i) 0=↑(.int<|xs 0):=Bf (n:=5) (g:=λi=>T.int<|xs i) (k:=0)<|by lia
 have o:∀{x y z v:T} {l:qB},AZ (x::y::z::v::l) (3:Int)=↑v:=by
  intro x y z v l;have:AZ (x::y::z::v::l) ((3:Nat):Int)=↑v:=DC rfl;exact this
 have m:CF 0=true:=@decide_eq_true _ (Classical.propDecidable _) {by decide,by decide};have G:CF 1=true:=@decide_eq_true _ (Classical.propDecidable _) {by decide,by decide};have o2:CF 2=true:=@decide_eq_true _ (Classical.propDecidable _) {by decide,by decide};have r0:Cc 0 (0:Int).toNat=mT 0 λi=>.int (i:Int):=Cz;have r1:Cc 0 (1:Int).toNat=mT 1 λi=>.int (i:Int):=Cz;have H:Cc 0 (2:Int).toNat=mT 2 λi=>.int (i:Int):=Cz;rcases r with q|q|q|q;let(l,d,c,e,a,f):=go 0<|by decide
 exact{l,by unfold Ip JZ;simp![AX,AV,h,q,m,r0,e],a,by lia};let(l,d,c,e,a,f):=go 0<|by decide
 exact{l,by unfold Ip JZ;simp![AX,AV,h,q,m,r0,e],a,by lia};let(l,d,c,e,a,f):=go 1<|by decide
 exact{l,by unfold Ip JZ;simp![AX,AV,h,q,G,r1,e],a,by lia};let(l,d,c,e,a,f):=go 2<|by decide
 exact{l,by unfold Ip JZ;simp![AX,AV,h,q,o,o2,H,e],a,by lia}
abbrev Rb:Stmt:=top 78
def Pl:AG:=
 (AF (AS (AN F9<|AB (m2 BL (AN HB<|AB (AA 0)<|AB (m2 BL (mC<|.int 2)<|AA 7) AE)<|AA 7)<|AB (mC<|.int 5) AE)<|AD 9)
 (Cb 6<|BV<|AB (AJ (AA 5)<|AA 7)<|AB (AN Ip<|AB (AA 9)<|AB (AA 3)<|AB (AA 4) AE) AE))
def Vx:AI:=
 (AN KE<|AB (AA 0)<|AB (AA 2)<|AB (AA 3)<|AB (m1 BO<|AA 1) AE)
def UB:AG:=
 (AF (AS (AN HB<|AB (AA 0)<|AB (mC<|.int 0) AE)<|AD 1)
 (AF (AS (AN HB<|AB (AA 0)<|AB (mC<|.int 1) AE)<|AD 2)
 (AF (AS (m2 BL (mC<|.int 1)<|m2 BH (m2 CK (AA 1)<|mC<|.int 4)<|AJ (BI<|BA (mC<|.int 1)<|BA (mC<|.int 3)<|BA (m2 Eo (mC<|.int 10)<|mC<|.int 15)<|BA (m2 Eo (mC<|.int 10)<|mC<|.int 40) AE)<|m2 BH (AA 1)<|mC<|.int 4)<|AD 3)
 (AF (AS (AN Ln<|AB (m2 CK (AA 1)<|mC<|.int 16)<|AB (AJ (BI<|BA (mC<|.int 0)<|BA (mC<|.int 1)<|BA (mC<|.int 1)<|BA (mC<|.int 2)<|BA (mC<|.int 2)<|BA (mC<|.int 2) AE)<|m2 BH (AA 2)<|mC<|.int 6) AE)<|AD 4)
 (AF (AS (AN Ln<|AB (m2 CK (AA 2)<|mC<|.int 24)<|AB (m2 BL (mC<|.int 1)<|m2 BH (m2 CK (AA 2)<|mC<|.int 6)<|mC<|.int 4) AE)<|AD 5)
 (AF (CU 6<|BI AE)
 (AF (BE (C0<|AB (m1 BO<|AA 5) AE) (AD 7) Pl)
 (AF (AS (Az 1 [5,3,4] (Aq<|Cj (FO (AA 0) (↑(mC<|.int 6))<|↑(mC<|.int 12))<|Fj (AA 0) (↑(mC<|.int 6))<|↑(mC<|.int 12)) (AD 0) (mC<|.bl true) Vx)<|AD 8)
 (AF (Ff 6)<|AO<|BV<|AB (AA 4)<|AB (AA 6)<|AB (AA 8) AE)))))))))
def Ox:qB->Option Ru:=AW 1 10 UB
abbrev i5:=fA 4 1 Rb Ox
abbrev zdn:Gm:=gA Rb 3 [("_law_cell_at",jD),("_law_names",iY),("_law_stream",LO),("_law_stay",iU),("_law_door",jA)] ["range","len"] ["_law_rooms"] (N:=["_law_script","_law_first","_law_second","_law_unit","_law_watches","_law_names_here","_law_rooms","_law_k","_law_doors","_law_xs"])
theorem ze3:Ck zdn i5 Rb UB:={}
structure DrwOk(ws:ki)(rs:List<|Str×qB)(dd:List Sd)(sz:Nat):Prop where
 w:∀x∈ws,F8 x/\1<=x.cps.size/\x.cps.size<=8
 wd:ws.Nodup
 wl:ws.length<=2
 r1:1<=rs.length
 r4:rs.length<=4
 rn:∀r∈rs,F8 r.1/\r.1.cps.size=sz
 sz:1<=sz/\sz<=8
 rd:(rs.map (·.1)).Nodup
 rl:∀r∈rs,BX ws D0 r.2/\r.2.length<=2
 dl:dd.length<=100
 d:∀d∈dd,O5 ws rs.length d
def zpf(c:Int)(m:Nat):(mT m λk=>.str<|Cp c k)=((List.range m).map (Cp c)).map T.str:=by
 rw[è];rfl
def bX(c:Int){m:Nat}(j:m<20):((List.range m).map (Cp c)).Nodup:=by
 rw[List.nodup_iff_pairwise_ne,List.pairwise_map];refine List.Pairwise.imp_of_mem ?_<|List.nodup_range (n:=m);intro a b f g d e;have h:=â.mp f;have i:=â.mp g;exact d<|zph (by lia) (by lia) e
def zeh(ns:kj)(h:ns.length<=63):∃ws rs dd sz,Ox [Co ns]=↑(.ok<|Ao ws rs dd)/\DrwOk ws rs dd sz:=by
 have c0:HB [Co ns,.int 0]=↑(.ok<|.int<|ns.getD 0 0):=V5 ns (k:=0)<|by decide
 have c1:HB [Co ns,.int 1]=↑(.ok<|.int<|ns.getD 1 0):=V5 ns (k:=1)<|by decide
 have ck:∀k:Nat,HB [Co ns,.int<|2+(k:Int)]=↑(.ok<|.int<|ns.getD (2+(k:Int)).toNat 0):=λk=>V5 ns<|by lia
 generalize ns.getD 0 0=x at c0;generalize ns.getD 1 0=y at c1;have a3 {x y z v:T} {l:qB}:AZ (x::y::z::v::l) (3:Int)=↑v:=DC (j:=3) rfl;have a4 {x y z v w:T} {l:qB}:AZ (x::y::z::v::w::l) (4:Int)=↑w:=DC (j:=4) rfl;have a5 {x y z v w t:T} {l:qB}:AZ (x::y::z::v::w::t::l) (5:Int)=↑t:=DC (j:=5) rfl
 have q4:x.fmod 4=0\/x.fmod 4=1\/x.fmod 4=2\/x.fmod 4=3:=by
  rw[fm (j:=4)<|by decide];lia
 have eu:∃q:Int,0<q/\AZ [T.int 1,.int 3,.int<|10 ^ 15,.int<|10 ^ 40] (x.fmod 4)=↑(.int q):=by
  rcases q4 with p|p|p|p<;>rw[p];exact{_,by decide,Gu};exact{_,by decide,F6};exact{_,by decide,L6};exact{_,by decide,a3}
 let(q,q0,eq):=eu
 have q6:y.fmod 6=0\/y.fmod 6=1\/y.fmod 6=2\/y.fmod 6=3\/y.fmod 6=4\/y.fmod 6=5:=by
  rw[fm (j:=6)<|by decide];lia
 have ew:∃m:Nat,m<=2/\AZ [T.int 0,.int 1,.int 1,.int 2,.int 2,.int 2] (y.fmod 6)=↑(.int (m:Int)):=by
  rcases q6 with p|p|p|p|p|p<;>rw[p];exact{0,by decide,Gu};exact{1,by decide,F6};exact{1,by decide,L6};exact{2,by decide,a3};exact{2,by decide,a4};exact{2,by decide,a5}
 let(m,m2,em):=ew
 have en:∃n:Nat,1<=n/\n<=4/\1+(y.fdiv 6).fmod 4=(n:Int):=by
  refine{(1+(y.fdiv 6).fmod 4).toNat,?_};rw[fm (j:=4)<|by decide];lia
 let(n,n1,n4,en):=en
 have u0:0<=1+(x.fdiv 4).fmod q:=by
  rw[fm (j:=q) q0];have:=Int.emod_nonneg (x.fdiv 4)<|show q≠0 by lia
  lia
 have nw:=cE (x.fdiv 16) (m:=m)<|by lia
 have nn:=cE (y.fdiv 24) (m:=n)<|by lia
 rw[zpf]at nw nn
 have A:∀z∈(List.range m).map (Cp<|x.fdiv 16),F8 z/\1<=z.cps.size/\z.cps.size<=8:=λz J=>by
  let(k,_,rfl):=Ð.mp J;have:=Kk<|x.fdiv 16;rw[Se];exact{bY _ _,this.1,this.2.1}
 have C:=bX (x.fdiv 16) (m:=m)<|by lia
 have wln:((List.range m).map (Cp<|x.fdiv 16)).length=m:=by simp
 generalize (List.range m).map (Cp<|x.fdiv 16)=ws at nw A C wln;have tw:CA ws:=λz J=>Md (A z J).1
 have L:∀z∈(List.range n).map (Cp<|y.fdiv 24),F8 z/\z.cps.size=DA (y.fdiv 24):=λz J=>by
  let(k,_,rfl):=Ð.mp J;exact{bY _ _,Se _ _}
 have K:=bX (y.fdiv 24) (m:=n)<|by lia
 have B:((List.range n).map (Cp<|y.fdiv 24)).length=n:=by simp
 generalize (List.range n).map (Cp<|y.fdiv 24)=zs at nn L K B;generalize hu:1+(x.fdiv 4).fmod q=u at u0
 let(Y,e,rs,x7,M,rfl,o,I):=Du (b:=AD 7) (body:=Pl) (ts:=mT n λi=>.int (i:Int)) (Y:=[↑(Co ns),↑(.int x),↑(.int y),↑(.int u),↑(.lst<|ws.map T.str),↑(.lst<|zs.map T.str),↑(.own []),none,none,none])
  (λi Y=>∃(rs:List<|Str×qB) (x7 M:kr),Y=[↑(Co ns),↑(.int x),↑(.int y),↑(.int u),↑(.lst<|ws.map T.str),↑(.lst<|zs.map T.str),↑(.own<|rs.map A9),x7,none,M]/\rs.map (·.1)=zs.take i/\∀r∈rs,BX ws D0 r.2/\r.2.length<=2) {[],none,none,rfl,by simp,λr a=>by cases a} λi t Y E P=>by
   let(G,rfl):=Ha E;let(rs,x7,M,rfl,k1,k2):=P;let(xs,es):=M9 (ns.getD (2+(i:Int)).toNat 0+(i:Int)) (m:=5)<|by decide
   have O:F9 [.int<|ns.getD (2+(i:Int)).toNat 0+(i:Int),.int 5]=↑(.ok<|.own<|mT 5 λi=>.int<|xs i):=es;let(l,el,l1,l2):=sy_ex (xs:=xs) u0 tw;have ls:=l1.sh
   have lr:(rs.map A9).length<100000:=by
    have:=congrArg List.length k1;rw[À,ù]at this;rw[À];lia
   have H:i<zs.length:=by lia
   have ai:AZ (zs.map T.str) (i:Int)=↑(.str zs[i]):=DC (by rw[È,Á H];rfl);have s5:A3 (mT 5 λi=>T.int<|xs i)=true:=JI _;refine{[↑(Co ns),↑(.int x),↑(.int y),↑(.int u),↑(.lst<|ws.map T.str),↑(.lst<|zs.map T.str),↑(.own<|rs.map A9),↑(.int (i:Int)),none,M],by simp![],[↑(Co ns),↑(.int x),↑(.int y),↑(.int u),↑(.lst<|ws.map T.str),↑(.lst<|zs.map T.str),↑(.own<|(rs++[(zs[i],l)]).map A9),↑(.int (i:Int)),none,↑(.lst<|mT 5 λi=>.int<|xs i)],?_,rs++[(zs[i],l)],_,_,rfl,?_,λr a=>?_};rw[á];unfold Pl
   simp![zc7,zf9,ck i,O,AX,AV,ai,el,ls,AK _ ls,lr]
   rw[á,k1,<- ş H];rfl;rcases ß.mp a with a|a;exact k2 r a;rw[Ï.mp a];exact{(l1),l2}
 rw[CI,<- B,ĝ]at o;have S:1<=zs.length:=by lia
 have Q:∀c:Int,∃d:Sd,KE [.int c,.int u,.lst<|ws.map T.str,.int zs.length]=↑(.ok<|Bd d)/\O5 ws zs.length d:=λc=>zmi c u0 tw C (by lia) S;let(f,hf):=Classical.axiomOfChoice Q;have cl:=zmk ns ↑6 ↑12;have cm:Bi (ns.map T.int) ↑6 ↑12=(Bi ns ↑6 ↑12).map T.int:=VS _ _ _ _;generalize Bi ns ↑6 ↑12=ks at cl cm
 have U:=J8 (b:=AD 0) (me:=Vx) (ts:=ks.map T.int) (Y:=[none,↑(.lst<|zs.map T.str),↑(.int u),↑(.lst<|ws.map T.str)]) (λϊ Y=>∃x,Y=[x,↑(.lst<|zs.map T.str),↑(.int u),↑(.lst<|ws.map T.str)]) (λi=>Bd<|f<|ks.getD i 0) {(none),rfl} λi t Y E P=>by
  let(x,rfl):=P;have G:i<ks.length:=by simpa using (Î.mp E).1
  rw[È,Á G]at E
  have et:t=.int (ks.getD i 0):=by
   rw[Ó,Á G];exact(Û E).symm
  subst et;have N:=(hf<|ks.getD i 0).1;refine{[↑(.int<|ks.getD i 0),↑(.lst<|zs.map T.str),↑(.int u),↑(.lst<|ws.map T.str)],by simp![],?_,_,rfl}
  unfold Vx
  simp![AX,AV,À,N]
 have ee:(List.range (ks.map T.int).length).map (λi=>Bd<|f<|ks.getD i 0)=(ks.map f).map Bd:=by
  rw[À];refine(ES (n:=ks.length) (g:=λi=>Bd<|f<|ks.getD i 0) (by simp) λi G=>?_).symm;rw[È,È,Ó,Á G];rfl
 rw[ee]at U
 have s:∀d∈ks.map f,O5 ws zs.length d:=λd hd=>by
  let(c,_,rfl):=Ð.mp hd;exact(hf c).2
 have F:(ks.map f).length<=100:=by
  rw[À];lia
 generalize ks.map f=dd at U s F;have zl:rs.length=zs.length:=by rw[<- o,À]
 have D:DrwOk ws rs dd<|DA<|y.fdiv 24:=by
  refine{A,C,by lia,by lia,by lia,λr a=>L _<|o▸ĩ a,{(Kk _).1,(Kk _).2.1},by rw[o];exact K,I,F,λd hd=>?_};rw[zl];exact s d hd
 refine{ws,rs,dd,_,?_,D}
 have sr:A3 (rs.map A9)=true:=by
  rw[DI,Ö];intro t R;let(r,a,rfl):=Ð.mp R;have:=(I r a).1.sh
  simp![this]
 have er:=AK _ sr
 have sd:A3 (dd.map Bd)=true:=by
  rw[DI,Ö];intro t R;let(d,hd,rfl):=Ð.mp R;have:=(s d hd).2.2.1.sh
  simp![this,AV]
 have N:=AK _ sd;have s4:Bu 4=true:=C6 (by decide)<|by decide
 have V:Bu 16=true:=C6 (by decide)<|by decide
 have W:Bu 24=true:=C6 (by decide)<|by decide
 have s6:Bu 6=true:=C6 (by decide)<|by decide
 have z15:((10:Int) ^ (15:Int).toNat)=10 ^ 15:=rfl;have z40:((10:Int) ^ (40:Int).toNat)=10 ^ 40:=rfl;have X:(0:Int)<=15/\(15:Int)<=1000000/\E4 10=true:={by decide,by decide,EC (by decide)<|by decide}
 have Z:(0:Int)<=40/\(40:Int)<=1000000/\E4 10=true:={by decide,by decide,EC (by decide)<|by decide};have nq:(q=0)=False:=ā<|by lia
 have ok:CF (zs.length:Int)=true:=Et<|by lia
 have rg:Cc 0 zs.length=mT n λi=>.int (i:Int):=by rw[B];exact Cz
 have kl:ks.length<=100000:=by lia
 unfold Co at *;unfold Ox UB
 simp![IG,JH,c0,c1,s4,V,W,s6,z15,z40,X,Z,eq,nq,hu,em,nw,en,nn,AX,AV,À,ok,rg,e,cm,U,kl,sr,er,sd,N,zhw]
abbrev RN:Stmt:=By 32 1
def To:AG:=
 (AO<|Cj (m1 DO<|Ax Al An 0<|AA 0)<|Hb<|Ax Al An 0<|AA 0)
def Lk:qB->Option Ru:=AW 1 1 To
abbrev Uv:=fA 1 1 RN Lk
abbrev za7:Gx:={ Bz with cl:=[("Machine",Al,An)] }
abbrev zaa:Gm:=gA RN 0 [] ["list"] (ox:=za7)
theorem zad:Ck zaa Uv RN To:={}
def cH{M:Mc}(h:McOk M):Lk [CO M]=↑(.ok<|.own<|M.ws.map T.str):=by
 unfold Lk To
 simp![AX,AV,h.ss,h.sd,AK _ h.ss,AK _ h.sd]
abbrev RO:Stmt:=By 32 5
def Tq:AG:=
 (AO<|m2 BL (IT (Ax Al An 0<|AA 0)<|AA 1)<|mC<|.int 1)
def Io:qB->Option Ru:=AW 2 2 Tq
abbrev OA:=fA 1 2 RO Io
abbrev za0:Gx:={ Bz with cl:=[("Machine",Al,An)] }
abbrev za1:Gm:=gA RO 0 [] [] (ox:=za0)
theorem za2:Ck za1 OA RO Tq:={}
def cO{M:Mc}(h:McOk M){x:Str}{j:Nat}(e:C7 M.ws x=↑j):Io [CO M,.str x]=↑(.ok<|.int<|(j:Int)+1):=by
 have l1:M.ws.length<1000000:=by have:=h.wl;lia
 unfold Io Tq
 simp![AX,AV,JG,h.ss,h.sd,AK _ h.ss,AK _ h.sd,e,l1]
abbrev QZ:Stmt:=top 38
def Va:AI:=
 (BV<|AB (Bm Al An Io (AA 3)<|AB (AA 0) AE)<|AB (AA 1)<|AB (AA 2) AE)
def Sy:AG:=
 (AF (AS (Bm Al An Lk (AA 0) AE)<|AD 2)
 (AF (A8 (BW<|AN Jv<|AB (AA 1)<|AB (AA 2)<|AB (mC Ja) AE) (Cw "NoMark"<|AB (mC<|.str "a guard is a list of looks at the machine's watches") AE) A7)
 (AO<|Az 3 [0] (Aq<|AA 1) (Ad 3<|AH (AD 0)<|AH (AD 1)<|AH (AD 2) Ah) (mC<|.bl true) Va)))
def GS:qB->Option Ru:=AW 2 3 Sy
abbrev LN:=fA 5 2 QZ GS
abbrev zfw:Gx:={ Bz with co:=[("WORDS",Ja)],mt:=[("watches",Al,An,Uv),("watch_number",Al,An,OA)] }
abbrev zg0:Gm:=gA QZ 4 [("is_guard",Nw)] [] (ex:=["NoMark"]) (ox:=zfw)
theorem zgl:Ck zg0 LN QZ Sy:={}
def DB:T->Str
 |.nd ϊ ϋ (.str x::ό)=>x|ϊ=>Str.empty
def Ce:T->Str
 |.nd ϊ ϋ (ό::.str y::ύ)=>y|ϊ=>Str.empty
def BJ:T->Int
 |.nd ϊ ϋ (ό::ύ::.int n::ώ)=>n|ϊ=>0
def Gg{ws wd:ki}{t:T}(h:∃x y n,t=.tup [.str x,.str y,.int n]/\x∈ws/\y∈wd/\0<=n):t=.tup [.str<|DB t,.str<|Ce t,.int<|BJ t]/\DB t∈ws/\Ce t∈wd/\0<=BJ t:=by
 let(x,y,n,rfl,a,b,c):=h;exact{(rfl),a,b,c}
def Be(ws:ki)(t:T):T:=.tup [.int<|((C7 ws<|DB t).getD 0:Int)+1,.str<|Ce t,.int<|BJ t]
def Gn{ws:ki}{x:Str}(h:x∈ws):∃j,C7 ws x=↑j/\∃hj:j<ws.length,ws[j]=x:=by
 unfold C7;cases e:List.findIdx? (λy=>@decide (y=x) (Classical.propDecidable _)) ws with
 |none=>have:=List.findIdx?_eq_none_iff.mp e x h;simp at this|some j=>
  let(a,b,_):=ĥ.mp e;lia
def GJ{α:Type}{b:T->AM->Option AM}{me:AI}(f g:α->T)(I:AM->Prop):∀(L:List α) (Y:AM),I Y->(∀x∈L,∀Y,I Y->∃τ1,b (f x) Y=↑τ1/\me τ1=↑(.v (g x) false)/\I τ1)->CJ b (mC<|.bl true) me (L.map f) Y=↑(L.map g)
 |[],ϊ,ϋ,ό=>rfl|x::L,Y,h,a=>by
  let(τ1,e,i,c):=a x (Ë ..) Y h;have k:=GJ f g I L τ1 c λu d=>a u<|Ê _ d
  have f1:mC (.bl true) τ1=↑(.v (.bl true) false):=rfl;rw[Ù,Ù];unfold CJ;lia
def Ke{M:Mc}(h:McOk M){l:qB}{wd:ki}(f:BX M.ws wd l)(u:∀y∈wd,y∈CM)(s:l.length<=1000):GS [CO M,.lst l]=↑(.ok<|.own<|l.map<|Be M.ws):=by
 have a:BX M.ws CM l:=λt c=>by
  let(x,y,n,e,m,o,p):=f t c;exact{x,y,n,e,m,u y o,p}
 have r:=Ua h.tw P5 s a;have g:=f.sh;have k:=AK _ g
 have i:=GJ (b:=Ad 3<|AH (AD 0)<|AH (AD 1)<|AH (AD 2) Ah) (me:=Va) (λt:T=>t) (Be M.ws) (λY=>∃x y z,Y=[x,y,z,↑(CO M)]) l [none,none,none,↑(CO M)] {(none),none,none,rfl} λt c Y q=>by
  let(x,y,z,rfl):=q;let(v,w,B,C):=Gg<|a t c;let(j,d,_):=Gn w;have en:=cO h d;refine{[↑(.str<|DB t),↑(.str<|Ce t),↑(.int<|BJ t),↑(CO M)],by rw[v];simp![DB,Ce,BJ],?_,_,_,_,rfl}
  unfold Va Be;rw[d]
  simp![AX,AV,h.ss,h.sd,AK _ h.ss,AK _ h.sd,en,Ž]
 rw[List.map_id']at i;have A:=cH h;have l1:l.length<=100000:=by lia
 unfold GS Sy
 simp![eJ,AX,AV,h.ss,h.sd,AK _ h.ss,AK _ h.sd,A,g,k,r,l1,i]
abbrev RQ:Stmt:=By 32 2
def dA:AG:=
 (AO<|Cj (m1 DO<|Cj (Ax Al An 1<|AA 0)<|Ax Ak Am 3<|AA 0)<|Hb<|Cj (Ax Al An 1<|AA 0)<|Ax Ak Am 3<|AA 0)
def GU:qB->Option Ru:=AW 1 1 dA
abbrev Jj:=fA 1 1 RQ GU
abbrev zaj:Gx:={ Bz with cl:=[("Machine",Al,An),("Walk",Ak,Am)] }
abbrev zao:Gm:=gA RQ 0 [] ["list"] (ox:=zaj)
theorem zat:Ck zao Jj RQ dA:={}
def Kn{M:Mc}(h:McOk M):GU [CO M]=↑(.ok (.own ((M.rs.map (·.1)).map T.str))):=by
 rfl
abbrev RP:Stmt:=By 32 4
def Tr:AG:=
 (AO<|m1 DO<|Ew (Cj (Ax Al An 1<|AA 0)<|Ax Ak Am 3<|AA 0)<|AA 1)
def KA:qB->Option Ru:=AW 2 2 Tr
abbrev Uw:=fA 1 2 RP KA
abbrev zaz:Gx:={ Bz with cl:=[("Machine",Al,An),("Walk",Ak,Am)] }
abbrev zb5:Gm:=gA RP 0 [] ["list"] (ox:=zaz)
theorem zbc:Ck zb5 Uw RP Tr:={}
def fJ{ws:ki}(hd:ws.Nodup){i:Nat}(a:i<ws.length):C7 ws ws[i]=↑i:=by
 unfold C7;rw[ĥ];refine{a,@decide_eq_true _ (Classical.propDecidable _) rfl,λj b q=>?_};have:=@of_decide_eq_true _ (Classical.propDecidable _) q;have:=(Ą hd).mp this
 lia
def cK{M:Mc}(h:McOk M){i:Nat}(b:i<M.rs.length):KA [CO M,.str M.rs[i].1]=↑(.ok<|.own M.rs[i].2):=by
 have e:=fJ h.r.nd (i:=i)<|by simp_all
 rw[Ļ]at e;have a:(M.rs.map λr=>T.lst r.2)[i]?=↑(.lst M.rs[i].2):=by simp_all
 have k:=(h.r.lk _<|Ò b).1.sh;unfold KA Tr
 simp![Ew,AX,AV,h.ss,h.sd,AK _ h.ss,AK _ h.sd,e,a,k,AK _ k]
abbrev RR:Stmt:=By 32 3
def Tt:AG:=
 (AO<|Cj (m1 DO<|Ax Al An 2<|AA 0)<|Hb<|Ax Al An 2<|AA 0)
def KC:qB->Option Ru:=AW 1 1 Tt
abbrev Uy:=fA 1 1 RR KC
abbrev zak:Gx:={ Bz with cl:=[("Machine",Al,An)] }
abbrev zap:Gm:=gA RR 0 [] ["list"] (ox:=zak)
theorem zau:Ck zap Uy RR Tt:={}
def cY{M:Mc}(h:McOk M):KC [CO M]=↑(.ok<|.own<|M.ds.map BF):=by
 unfold KC Tt
 simp![AX,AV,h.ss,h.sd,AK _ h.ss,AK _ h.sd]
abbrev Rv:Stmt:=By 31 1
def UJ:AG:=
 (AO<|Cj (m1 DO<|Ax BU B7 2<|AA 0)<|Hb<|Ax BU B7 2<|AA 0)
def KG:qB->Option Ru:=AW 1 1 UJ
abbrev VF:=fA 1 1 Rv KG
abbrev zch:Gx:={ Bz with cl:=[("Door",BU,B7)] }
abbrev zcs:Gm:=gA Rv 0 [] ["list"] (ox:=zch)
theorem zd4:Ck zcs VF Rv UJ:={}
def j4{d:Dr}(h:A3 d.g=true):KG [BF d]=↑(.ok<|.own d.g):=by
 unfold KG UJ
 simp![AX,AV,h,AK _ h]
abbrev Rt:Stmt:=By 31 2
def UH:AG:=
 (AO<|Cj (m1 DO<|Ax BU B7 3<|AA 0)<|Hb<|Ax BU B7 3<|AA 0)
def PC:qB->Option Ru:=AW 1 1 UH
abbrev jE:=fA 1 1 Rt PC
abbrev zcf:Gx:={ Bz with cl:=[("Door",BU,B7)] }
abbrev zcq:Gm:=gA Rt 0 [] ["list"] (ox:=zcf)
theorem zd2:Ck zcq jE Rt UH:={}
def zmg{d:Dr}(h:A3 d.g=true):PC [BF d]=↑(.ok<|.own<|d.n.map T.str):=by
 unfold PC UH
 simp![AX,AV,h,AK _ h]
abbrev RD:Stmt:=top 8
def Tf:AG:=
 (AO<|m2 BL (m2 Bl (mC<|.int 2)<|AA 0)<|mC<|.int 1)
def Fp:qB->Option Ru:=AW 1 1 Tf
abbrev Ic:=fA 1 1 RD Fp
abbrev zem:Gm:=gA RD 0 [] []
theorem zey:Ck zem Ic RD Tf:={}
def WH(i:Int):Fp [.int i]=↑(.ok<|.int<|2 * i+1):=by
 have m:CH 2 i=true:=JV<|EC (by decide)<|by decide
 unfold Fp Tf
 simp![m]
def Jo:Fp [.int 0]=↑(.ok<|.int 1):=WH 0
abbrev RC:Stmt:=top 9
def Te:AG:=
 (AO<|m2 Bl (mC<|.int 2)<|AA 0)
def Il:qB->Option Ru:=AW 1 1 Te
abbrev Ny:=fA 1 1 RC Il
abbrev zij:Gm:=gA RC 0 [] []
theorem zj7:Ck zij Ny RC Te:={}
def OU(i:Int):Il [.int i]=↑(.ok<|.int<|2 * i):=by
 have m:CH 2 i=true:=JV<|EC (by decide)<|by decide
 unfold Il Te
 simp![m]
abbrev Q2:Stmt:=top 10
def TB:AG:=
 (AO<|m2 CK (AA 0)<|mC<|.int 2)
def Js:qB->Option Ru:=AW 1 1 TB
abbrev Um:=fA 1 1 Q2 Js
abbrev zci:Gm:=gA Q2 0 [] []
theorem zcu:Ck zci Um Q2 TB:={}
def HV(i:Int):Js [.int i]=↑(.ok<|.int<|i / 2):=by
 have m:Bu 2=true:=C6 (by decide)<|by decide
 have f:i.fdiv 2=i / 2:=fd<|by decide
 unfold Js TB
 simp![m,f]
abbrev Qh:Stmt:=top 11
def TU:AG:=
 (AO<|m2 Au (m2 BH (AA 0)<|mC<|.int 2)<|mC<|.int 0)
def Lf:qB->Option Ru:=AW 1 1 TU
abbrev hZ:=fA 1 1 Qh Lf
abbrev zej:Gm:=gA Qh 0 [] []
theorem zev:Ck zej hZ Qh TU:={}
def io_ok(i:Int):Lf [.int i]=↑(.ok<|.bl<|i % 2 == 0):=by
 have f:i.fmod 2=i % 2:=fm<|by decide
 unfold Lf TU
 simp![f,DQ]
abbrev RH:Stmt:=top 12
def Tj:AG:=
 (AF (A8 (B0 (m2 (BD false) (AA 0)<|mC .non)<|m2 (BD false) (AA 1)<|mC .non) (AO<|mC .non) A7)
 (AF (AS (m2 BL (AN Js<|AB (AA 0) AE)<|AN Js<|AB (AA 1) AE)<|AD 2)
 (AF (A8 (B0 (AN Lf<|AB (AA 0) AE)<|AN Lf<|AB (AA 1) AE) (AO<|AN Il<|AB (AA 2) AE) A7)
 (AO<|AN Fp<|AB (AA 2) AE))))
def Jy:qB->Option Ru:=AW 2 3 Tj
abbrev iP:=fA 2 2 RH Jy
abbrev zik:Gm:=gA RH 1 [("number_of",Um),("is_open",hZ),("below",Ny),("at_most",Ic)] []
theorem zj8:Ck zik iP RH Tj:={}
def lH(a b:Db.B):Jy [bT a,bT b]=↑(.ok<|bT<|Db.add a b):=by
 unfold Jy Tj;cases a with
 |none=>simp![Db.add]|some a=>
  cases b with
  |none=>simp![Db.add]|some b=>
   have c:a % 2=0\/a % 2=1:=by lia
   have e:b % 2=0\/b % 2=1:=by lia
   have d:((1:Int) == 0)=false:=rfl;have m1:min (0:Int) 0=0:=rfl;have m2:min (0:Int) 1=0:=rfl;have f:min (1:Int) 0=0:=rfl;have g:min (1:Int) 1=1:=rfl
   rcases c with c|c<;>rcases e with e|e<;>simp![HV,io_ok,c,e,d,OU,WH,Db.add,Db.bs,m1,m2,f,g,Int.add_zero]
abbrev Q6:Stmt:=top 13
def TJ:AG:=
 (AF (A8 (m2 (BD false) (AA 0)<|mC .non) (AO<|AA 1) A7)
 (AF (A8 (m2 (BD false) (AA 1)<|mC .non) (AO<|AA 0) A7)
 (AO<|m2 Kp (AA 0)<|AA 1)))
def Oa:qB->Option Ru:=AW 2 2 TJ
abbrev gU:=fA 1 2 Q6 Oa
abbrev zdh:Gm:=gA Q6 0 [] ["min"]
theorem zdx:Ck zdh gU Q6 TJ:={}
def nr_ok(a b:Db.B):Oa [bT a,bT b]=↑(.ok<|bT<|Db.mn a b):=by
 unfold Oa TJ;cases a with
 |none=>rfl|some a=>
  cases b with
  |none=>rfl|some b=>
   simp![Db.mn]
   lia
abbrev Qs:Stmt:=top 41
def T5:AG:=
 (AF (A8 (B0 (m2 Au (AA 0)<|mC<|.int 0)<|m2 Au (AA 0)<|AA 1) (AO<|AN Fp<|AB (mC<|.int 0) AE) A7)
 (AO<|mC .non))
def Oh:qB->Option Ru:=AW 2 2 T5
abbrev iG:=fA 2 2 Qs Oh
abbrev zbw:Gm:=gA Qs 1 [("at_most",Ic)] []
theorem zc2:Ck zbw iG Qs T5:={}
def fb_ok(i j:Nat):Oh [.int i,.int j]=↑(.ok<|bT<|Db.free i j):=by
 unfold Oh T5;by_cases b:i=0;subst b
 simp![DQ,Jo,Db.free]
 by_cases h:i=j;subst h;have a:((i:Int) == 0)=false:=by lia
 simp![DQ,a,Jo,Db.free]
 have a:((i:Int) == 0)=false:=by lia
 have c:((i:Int) == (j:Int))=false:=by simp;lia
 simp![DQ,a,c,Db.free,b,h]
abbrev QU:Stmt:=top 44
def Pa:AG:=
 (A8 (m2 (BD false) (AA 5)<|mC .non) (Cb 3<|AA 4) (AF (AS (m2 EB (m2 BL (AA 1)<|AA 5)<|m2 Ig (m2 LZ (AA 1)<|AA 5)<|mC<|.int 1)<|AD 6)
 (Cb 3<|EG (B0 (m2 (BD false) (AA 4)<|mC .non)<|m2 (Br λi j=>decide (i<j)) (AA 6)<|AA 4) (AA 6)<|AA 4)))
def Ss:AG:=
 (AF (CU 3<|BI AE)
 (AF (BE (Gp<|AB (AA 0)<|AB (AA 2) AE) (Ad 2<|AH (AD 4)<|AH (AD 5) Ah) Pa)
 (AO<|AA 3)))
def L9:qB->Option Ru:=AW 3 7 Ss
abbrev Uk:=fA 1 3 QU L9
abbrev zde:Gm:=gA QU 0 [] ["zip"] ["told"]
theorem zdu:Ck zde Uk QU Ss:={}
def YC{n:Nat}(p:n<=100000)(r s:Nat->Db.B)(c:Int):L9 [rT n r,.int c,rT n s]=↑(.ok<|.own<|mT n λj=>bT<|Db.mn (r j)<|Db.add ↑c<|s j):=by
 have d:=LM (b:=Ad 2<|AH (AD 4)<|AH (AD 5) Ah) (body:=Pa) (n:=n) (g:=λi=>.tup [bT<|r i,bT<|s i]) (Y:=[↑(rT n r),↑(.int c),↑(rT n s),↑(.own []),none,none,none])
  (λi Y=>∃x y z,Y=[↑(rT n r),↑(.int c),↑(rT n s),↑(.own<|mT i λj=>bT<|Db.mn (r j)<|Db.add ↑c<|s j),x,y,z])
  {(none),none,none,rfl} (by
   rintro i Y l ⟨x,y,z,rfl⟩;have l1:i<100000:=by lia
   refine{_,by simp![];rfl,?_};unfold Pa;cases e:s i with
   |none=>
    refine{_,by simp![l1];rfl,↑(bT<|r i),↑.non,z,?_};rw[<- J3,e];cases r i<;>rfl
   |some m=>
    have a:c+m - Builtin.bitAnd (Builtin.bitOr c m) 1=Db.bs c m:=by rw[Db.bor_one,Db.bs_eq]
    cases f:r i with
    |none=>
     refine{_,by simp![a,l1];rfl,↑.non,↑(.int m),↑(.int<|Db.bs c m),?_};rw[<- J3,e,f];rfl
    |some o=>
     by_cases h:Db.bs c m<o;refine{_,by simp![a,h,l1];rfl,↑(.int o),↑(.int m),↑(.int<|Db.bs c m),?_};rw[<- J3,e,f];rw[show Db.mn ↑o (Db.add ↑c ↑m)=↑(Db.bs c m) by show ↑(min _ _)=_;rw[show min o (Db.bs c m)=Db.bs c m by lia]];rfl;refine{_,by simp![a,h,l1];rfl,↑(.int o),↑(.int m),↑(.int<|Db.bs c m),?_};rw[<- J3,e,f];rw[show Db.mn ↑o (Db.add ↑c ↑m)=↑o by show ↑(min _ _)=_;rw[show min o (Db.bs c m)=o by lia]]
     rfl)
 let(k,a,x,y,z,rfl):=d;unfold L9 Ss
 simp![KL,a]
abbrev Qn:Stmt:=top 43
def Vk:AI:=
 (m2 (Br λi j=>decide (i<j)) (AJ (AA 1)<|AA 0)<|AN Fp<|AB (mC<|.int 0) AE)
def T3:AG:=
 (AO<|m1 Ii<|Az 2 [] (EH<|AB (AA 0) AE) (Ad 2<|AH (AD 0)<|AH (AD 1) Ah) (mC<|.bl true) Vk)
def Og:qB->Option Ru:=AW 1 1 T3
abbrev iD:=fA 2 1 Qn Og
abbrev zcl:Gm:=gA Qn 1 [("at_most",Ic)] ["any","enumerate"]
theorem zcx:Ck zcl iD Qn T3:={}
def zqt{n:Nat}{f:Db.Z}(e:n<=100000){d:Nat->Int}(hd:∀i,i<n->f i i=↑(d i)):Og [zT n f]=↑(.ok<|.bl<|(List.range n).any λi=>decide (d i<1)):=by
 have b:=Fm (n:=n) (me:=Vk) (x:=none) (y:=none) (cs:=[]) (u:=λi=>.int (i:Int)) (w:=λi=>rT n<|f i) (f:=λi=>.bl<|decide (d i<1)) λi a=>by
  unfold Vk
  simp![SN,Ms,Bf a,hd i a,Jo]
 unfold Og T3;have c:n<=100000:=by lia
 simp![zh9,Dy,Ms,SN,EH,VI,b,c,Jm,List.any_map,Function.comp_def,id_eq]
abbrev Q5:Stmt:=top 42
def Vf:AI:=
 (AN Oa<|AB (AA 1)<|AB (AN Oh<|AB (AA 2)<|AB (AA 0) AE) AE)
def OM:AI:=
 (Az 2 [0] (EH<|AB (AA 1) AE) (Ad 2<|AH (AD 0)<|AH (AD 1) Ah) (mC<|.bl true) Vf)
def Ve:AI:=
 (EG (m2 (BD false) (AJ (AA 0)<|AA 1)<|mC .non) (AA 0)<|AN L9<|AB (AA 0)<|AB (AJ (AA 0)<|AA 1)<|AB (AA 2) AE)
def KP:AG:=
 (AF (A8 (AN Og<|AB (AA 1) AE) (AO<|mC .non) A7)
 (AF (AS (AJ (AA 1)<|AA 2)<|AD 3)
 (AS (Az 1 [2,3] (Aq<|AA 1) (AD 0) (mC<|.bl true) Ve)<|AD 1)))
def TH:AG:=
 (AF (AS (Az 2 [] (EH<|AB (AA 0) AE) (Ad 2<|AH (AD 0)<|AH (AD 1) Ah) (mC<|.bl true) OM)<|AD 1)
 (AF (BE (C0<|AB (m1 BO<|AA 1) AE) (AD 2) KP)
 (AO<|AA 1)))
def Gw:qB->Option Ru:=AW 1 4 TH
abbrev gS:=fA 3 1 Q5 Gw
abbrev zcj:Gm:=gA Q5 2 [("narrower",gU),("free_bound",iG),("is_broken",iD),("row_over",Uk)] ["enumerate","range","len"]
theorem zcv:Ck zcj gS Q5 TH:={}
def YD{n:Nat}{f:Db.Z}{d:Nat->Int}(hd:∀i,i<n->f i i=↑(d i)):((List.range n).any λi=>decide (d i<1))=true ↔ Db.Brk n f:=by
 rw[ą];constructor;rintro⟨i,a,h⟩;have a:=â.mp a;refine{i,a,?_};rw[hd i a];erw[Db.le]
 lia;rintro⟨i,a,h⟩;refine{i,â.mpr a,Ç ?_};rw[hd i a]at h;erw[Db.le]at h;lia
def zge(f:Db.Z)(k i:Nat):∃d,Db.fw f k i i=↑d:=by
 have:=Db.diag_le f i k;cases h:Db.fw f k i i with
 |none=>rw[h]at this;exact this.elim|some d=>lia
def S9{n:Nat}(p:n<=100000)(f:Db.Z):(Db.Sound n f->Gw [zT n f]=↑(.ok<|zT n<|Db.fw f n))/\(¬ Db.Sound n f->Gw [zT n f]=↑(.ok .non)):=by
 have l1:n<=100000:=by lia
 have s:∀i,i<n->OM [↑(.int (i:Int)),↑(rT n<|f i)]=↑(.v (.own<|mT n λj=>bT<|Db.z0 f i j) false):=λi o=>by
  have v:=Fm (n:=n) (me:=Vf) (x:=none) (y:=none) (cs:=[↑(.int (i:Int))]) (u:=λj=>.int (j:Int)) (w:=λj=>bT<|f i j) (f:=λj=>bT<|Db.z0 f i j) λj B=>by
   unfold Vf
   simp![fb_ok,nr_ok]
   rfl
  unfold OM
  simp![EH,VI,v,l1]
 have z:=Fm (n:=n) (me:=OM) (x:=none) (y:=none) (cs:=[]) (u:=λi=>.int (i:Int)) (w:=λi=>rT n<|f i) (f:=λi=>.own<|mT n λj=>bT<|Db.z0 f i j) s
 have l:=Nt (b:=AD 2) (body:=KP) (n:=n) (g:=λi=>.int (i:Int)) (Y:=[↑(zT n f),↑(zT n<|Db.fw f 0),none,none]) (λk=>¬ Db.Brk n (Db.fw f k)) .non
  (λk Y=>∃x y,Y=[↑(zT n f),↑(zT n<|Db.fw f k),x,y]) {(none),none,rfl} (by
   rintro k Y hk - ⟨x,y,rfl⟩;refine{_,by simp![];rfl,?_}
   have hd:∀i,i<n->Db.fw f k i i=↑((Db.fw f k i i).getD 0):=λi ϊ=>by
    let(d,e):=zge f k i;rw[e];rfl
   have m:=zqt p hd;by_cases a:Db.Brk n<|Db.fw f k
   right;refine{λq=>q a,?_};rw[(YD hd).mpr a]at m;unfold KP
   simp![m]
   left;refine{a,?_}
   have C:((List.range n).any λi=>decide ((Db.fw f k i i).getD 0<1))=false:=by
    cases q:((List.range n).any λi=>decide ((Db.fw f k i i).getD 0<1)) with
    |false=>rfl|true=>exact absurd ((YD hd).mp q) a
   rw[C]at m;generalize F:Db.fw f k=g at *
   have v:=Cq (n:=n) (me:=Ve) (x:=none) (cs:=[↑(.int (k:Int)),↑(rT n<|g k)]) (g:=λi=>rT n<|g i) (f:=λi=>match g i k with|none=>rT n (g i)|some c=>.own<|mT n λj=>bT<|Db.mn (g i j)<|Db.add ↑c<|g k j) λi o=>by
    unfold Ve;cases e:g i k with
    |none=>simp![Bf hk,e]|some c=>simp![Bf hk,e,YC p]
   have D:(mT n λi=>(match g i k with|none=>rT n (g i)|some c=>T.own<|mT n λj=>bT<|Db.mn (g i j)<|Db.add ↑c<|g k j).share)=mT n λi=>rT n<|Db.stp g k i:=DM λi o=>by
    cases e:g i k with
    |none=>
     erw[Ms];unfold rT;rw[DM λj B=>?_];unfold Db.stp;rw[e];cases g i j<;>rfl
    |some c=>
     simp![]
     rw[DM λj B=>?_];unfold Db.stp;rw[e]
   refine{[↑(zT n f),↑(zT n<|Db.stp g k),↑(.int (k:Int)),↑(rT n<|g k)],.inl ?_,↑(.int (k:Int)),↑(rT n<|g k),?_};unfold KP
   simp![m,Bf hk,v,l1]
   rw[D]
   rw[show Db.fw f (k+1)=Db.stp g k by rw[<- F];rfl])
 have G:CF (n:Int)=true:=Et p
 have st:∀r,Ar (AD 2) KP (mT n λi=>.int (i:Int)) [↑(zT n f),↑(zT n<|Db.fw f 0),none,none]=r->Gw [zT n f]=(match (match r with|some (.nx A)=>AO (AA 1) A|r=>r) with
   |some (.rt t)=>↑(Ru.ok t)|some (.nx ϊ)=>↑(.ok .non)|some (.xc c ϊ)=>↑(.exc c)|ϊ=>none):=by
  rintro _ rfl;unfold Gw TH
  simp![EH,VI,z,l1,G,Cz]
  rfl
 rcases l with ⟨E,A,e,x,y,rfl⟩|⟨⟨i,o,a⟩,e⟩;refine{λϊ=>?_,λh=>absurd (λk hk=>E k hk) h};rw[st _ e]
 simp![]
 refine{λh=>absurd (h i o) a,λϊ=>?_};rw[st _ e]
abbrev Qb:Stmt:=top 46
def TM:AG:=
 (AF (A8 (m2 (BD false) (AA 1)<|mC .non) (AO<|mC<|.bl false) A7)
 (AO<|B0 (m2 (BD false) (AA 0)<|mC .non)<|m2 (Br λi j=>decide (j<i)) (AA 0)<|AA 1))
def Jt:qB->Option Ru:=AW 2 2 TM
abbrev Uo:=fA 1 2 Qb Jt
abbrev zdj:Gm:=gA Qb 0 [] []
theorem zdz:Ck zdj Uo Qb TM:={}
def Wl(a b:Db.B):(Db.le a b->Jt [bT a,bT b]=↑(.ok<|.bl false))/\(¬ Db.le a b->Jt [bT a,bT b]=↑(.ok<|.bl true)):=by
 unfold Jt TM;cases b with
 |none=>exact{λϊ=>by simp![],λh=>absurd trivial h}|some b=>
  cases a with
  |none=>exact{λh=>h.elim,λϊ=>by simp![]}|some a=>
   constructor;intro h;have c:decide (b<a)=false:=Õ (by erw[Db.le]at h;lia)
   simp![c]
   intro h;have c:decide (b<a)=true:=Ç (by erw[Db.le]at h;lia)
   simp![c]
abbrev QS:Stmt:=top 45
def P7:AG:=
 (A8 (AN Jt<|AB (AA 4)<|AB (AA 5) AE) (AO<|mC<|.bl false) A7)
def ME:AG:=
 (BE (Gp<|AB (AA 2)<|AB (AA 3) AE) (Ad 2<|AH (AD 4)<|AH (AD 5) Ah) P7)
def NQ:AG:=
 (AF (BE (Gp<|AB (AA 0)<|AB (AA 1) AE) (Ad 2<|AH (AD 2)<|AH (AD 3) Ah) ME)
 (AO<|mC<|.bl true))
def Ij:qB->Option Ru:=AW 2 6 NQ
abbrev gG:=fA 2 2 QS Ij
abbrev zfy:Gm:=gA QS 1 [("is_wider",Uo)] ["zip"]
theorem zgj:Ck zfy gG QS NQ:={}
def wi_ok{n:Nat}(f g:Db.Z):((∀i j,i<n->j<n->Db.le (f i j) (g i j))->Ij [zT n f,zT n g]=↑(.ok<|.bl true))/\((¬ ∀i j,i<n->j<n->Db.le (f i j) (g i j))->Ij [zT n f,zT n g]=↑(.ok<|.bl false)):=by
 have d:=Nt (b:=Ad 2<|AH (AD 2)<|AH (AD 3) Ah) (body:=ME) (n:=n) (g:=λi=>.tup [rT n<|f i,rT n<|g i]) (Y:=[↑(zT n f),↑(zT n g),none,none,none,none]) (λi=>∀j,j<n->Db.le (f i j) (g i j)) (.bl false)
  (λi Y=>∃x y z w,Y=[↑(zT n f),↑(zT n g),x,y,z,w]) {(none),none,none,none,rfl} (by
   rintro i Y k - ⟨x,y,z,w,rfl⟩;refine{_,by simp![];rfl,?_}
   have a:=Nt (b:=Ad 2<|AH (AD 4)<|AH (AD 5) Ah) (body:=P7) (n:=n) (g:=λj=>.tup [bT<|f i j,bT<|g i j]) (Y:=[↑(zT n f),↑(zT n g),↑(rT n<|f i),↑(rT n<|g i),z,w]) (λj=>Db.le (f i j)<|g i j) (.bl false)
    (λj Y=>∃z w,Y=[↑(zT n f),↑(zT n g),↑(rT n<|f i),↑(rT n<|g i),z,w]) {(z),w,rfl} (by
     rintro j Y c - ⟨z,w,rfl⟩;refine{_,by simp![];rfl,?_};have q:=Wl (f i j)<|g i j;unfold P7
     by_cases h:Db.le (f i j)<|g i j
     left;have q:=q.1 h;exact{h,_,.inl (by simp![q];rfl),_,_,rfl}
     right;have q:=q.2 h;exact{h,by simp![q]})
   rcases a with ⟨h,l,e,z,w,rfl⟩|⟨⟨j,c,h⟩,e⟩;left;refine{h,_,.inl ?_,↑(rT n<|f i),↑(rT n<|g i),z,w,rfl};unfold ME
   simp![KL,e]
   right;refine{λq=>h<|q j c,?_};unfold ME
   simp![KL,e])
 rcases d with ⟨h,l,e,x,y,z,w,rfl⟩|⟨⟨i,k,h⟩,e⟩;refine{λϊ=>?_,λq=>absurd (λi j k c=>h i k j c) q};unfold Ij NQ
 simp![KL,e]
 refine{λq=>absurd (λj c=>q i j k c) h,λϊ=>?_};unfold Ij NQ
 simp![KL,e]
abbrev Q9:Stmt:=top 20
def TK:AG:=
 (AF (CU 4<|BI AE)
 (AF (A8 (m2 Au (AA 2)<|mC<|.str "<") (Cb 4<|BV<|AB (AA 0)<|AB (AA 1)<|AB (AN Il<|AB (AA 3) AE) AE) A7)
 (AF (A8 (B0 (m2 Au (AA 2)<|mC<|.str "<=")<|m2 Au (AA 2)<|mC<|.str "=") (Cb 4<|BV<|AB (AA 0)<|AB (AA 1)<|AB (AN Fp<|AB (AA 3) AE) AE) A7)
 (AF (A8 (m2 Au (AA 2)<|mC<|.str ">") (Cb 4<|BV<|AB (AA 1)<|AB (AA 0)<|AB (AN Il<|AB (m1 FK<|AA 3) AE) AE) A7)
 (AF (A8 (B0 (m2 Au (AA 2)<|mC<|.str ">=")<|m2 Au (AA 2)<|mC<|.str "=") (Cb 4<|BV<|AB (AA 1)<|AB (AA 0)<|AB (AN Fp<|AB (m1 FK<|AA 3) AE) AE) A7)
 (AO<|AA 4))))))
def Oc:qB->Option Ru:=AW 4 5 TK
abbrev gX:=fA 2 4 Q9 Oc
abbrev zbj:Gm:=gA Q9 1 [("below",Ny),("at_most",Ic)] [] ["bounds"]
theorem zbp:Ck zbj gX Q9 TK:={}
def FG:Nat->Str
 |0=>"<"|1=>"<="|2=>">"|3=>">="|ϊ=>"="
def P6{w:Nat}(h:w<5):Au (.str<|FG w) (.str "<")=↑(.bl<|w == 0)/\Au (.str<|FG w) (.str "<=")=↑(.bl<|w == 1)/\Au (.str<|FG w) (.str ">")=↑(.bl<|w == 2)/\Au (.str<|FG w) (.str ">=")=↑(.bl<|w == 3)/\Au (.str<|FG w) (.str "=")=↑(.bl<|w == 4):=by
 have:w=0\/w=1\/w=2\/w=3\/w=4:=by lia
 rcases this with rfl|rfl|rfl|rfl|rfl<;>refine⟨?_,?_,?_,?_,?_⟩<;>ext
abbrev Aw(l:Nat×Nat×Int):T:=.tup [.int (l.1:Nat),.str<|FG l.2.1,.int l.2.2]
def Look(m:Nat)(l:Nat×Nat×Int):Prop:=0<l.1/\l.1<m+1/\l.2.1<5
abbrev Kw(x:Dv.Lim):T:=.tup [.int (x.1:Nat),.int (x.2.1:Nat),.int x.2.2]
def Cr:Nat×Nat×Int->List Dv.Lim
 |(p,0,n)=>[(p,0,2 * n)]|(p,1,n)=>[(p,0,2 * n+1)]|(p,2,n)=>[(0,p,2 * -n)]|(p,3,n)=>[(0,p,2 * -n+1)]|(p,ϊ,n)=>[(p,0,2 * n+1),(0,p,2 * -n+1)]
def lb_ok{l:Nat×Nat×Int}(a:l.2.1<5):Oc [.int (l.1:Nat),.int 0,.str<|FG l.2.1,.int l.2.2]=↑(.ok<|.own<|(Cr l).map Kw):=by
 let(p,w,n):=l;let(b,c,d,e,f):=P6 a
 have:w=0\/w=1\/w=2\/w=3\/w=4:=by
  have:w<5:=a;lia
 have z:((0:Nat):Int)=(0:Int):=rfl;unfold Oc TK;rcases this with rfl|rfl|rfl|rfl|rfl<;>(simp![b,c,d,e,f,OU,WH,Cr,z];rfl)
theorem US{m:Nat}{l:Nat×Nat×Int}(h:Look m l):Dv.In (m+1)<|Cr l:=λx b=>by
 let(p,w,n):=l;let(e,c,d):=h
 have:w=0\/w=1\/w=2\/w=3\/w=4:=by
  have:w<5:=d;lia
 have a:p<m+1:=c;rcases this with rfl|rfl|rfl|rfl|rfl<;>erw[Cr,Ì,Č,ė]at b
 all_goals first|(rcases b with rfl|rfl<;>exact⟨by first|exact a|exact ğ m,by first|exact a|exact ğ m⟩)|(subst b;exact⟨by first|exact a|exact ğ m,by first|exact a|exact ğ m⟩)
abbrev QV:Stmt:=top 52
def V8:AI:=
 (EG (m2 De (AA 0)<|AA 1) (mC<|.int 0)<|AA 0)
def V7:AI:=
 (AJ (AJ (AA 2)<|AA 1)<|AA 0)
def OL:AI:=
 (Az 1 [0,2] (Aq<|AA 1) (AD 0) (mC<|.bl true) V7)
def Su:AG:=
 (AF (AS (Az 1 [1] (C0<|AB (m1 BO<|AA 0) AE) (AD 0) (mC<|.bl true) V8)<|AD 2)
 (AO<|Az 1 [2,0] (Aq<|AA 2) (AD 0) (mC<|.bl true) OL))
def La:qB->Option Ru:=AW 2 3 Su
abbrev gJ:=fA 1 2 QV La
abbrev zdf:Gm:=gA QV 0 [] ["range","len"]
theorem zdv:Ck zdf gJ QV Su:={}
abbrev oZ(n:Nat)(f:Db.Z):qB:=mT n λi=>.own<|mT n λj=>bT<|f i j
def zlh{n:Nat}{f:Db.Z}{a b:Nat}{c:Db.B}:(oZ n f).set a (.own<|(mT n λj=>bT<|f a j).set b (bT c))=oZ n λi j=>if i=a/\j=b then c else f i j:=by
 unfold oZ;rw[N9,N9];refine DM λi h=>?_;by_cases e:i=a;subst e;rw[if_pos rfl,DM λj g=>?_];by_cases d:j=b;simp[d];simp[d];rw[if_neg e,DM λj g=>?_];simp[e]
def SW{n:Nat}{g:Db.Z}:BP (oZ n g)=mT n λi=>rT n<|g i:=by
 unfold oZ;rw[Fw];refine DM λi a=>?_;rw[T.share,Fw];erw[Jn]
def SX{n:Nat}{f g:Db.Z}(h:∀i j,i<n->j<n->f i j=g i j):oZ n f=oZ n g:=by
 unfold oZ;rw[DM λi a=>?_];rw[DM λj b=>?_];rw[h i j a b]
def Ba(ps:kq)(i:Nat):Nat:=if i∈ps then 0 else i
abbrev nT(ps:kq):T:=.lst<|ps.map λ(p:Nat)=>T.int (p:Int)
def in_ok(i:Nat):∀ps:kq,Hh (.int (i:Int)) (ps.map λ(p:Nat)=>T.int (p:Int))=true:=λps=>by
 unfold Hh EW
 have c:PyData.canLayAll0 (B8<|ps.map λ(p:Nat)=>T.int p)=true:=by
  induction ps with
  |nil=>rfl|cons a r b=>lia
 have d:Ep (ps.map λ(p:Nat)=>T.int p)=true:=by
  induction ps with
  |nil=>rfl|cons a r b=>exact b<|by lia
 rw[c];simp[T.data,PyData.canLay0,PyData.depth,d];rfl
def fM(i:Nat):∀ps:kq,Je (.int (i:Int)) (ps.map λ(p:Nat)=>T.int (p:Int))=decide (i∈ps)
 |[]=>by simp[Je,B8]|a::r=>by
  have b:=fM i r;unfold Je at b ⊢;erw[Ù,B8,Į,b];erw[T.data,PyData.eqv];by_cases e:i=a;simp[e];simp[e,show ¬ (a:Int)=(i:Int) by lia]
def in_nT(ps:kq)(i:Nat):De (.int (i:Int)) (nT ps)=↑(.bl<|decide (i∈ps)):=by
 unfold De nT;erw[in_ok i ps,fM i ps,Ä]
def Si(ps:kq):BP (ps.map λ(p:Nat)=>T.int (p:Int))=ps.map λ(p:Nat)=>T.int (p:Int):=by
 rw[EL,è];rfl
def Sj(ps:kq):A3 (ps.map λ(p:Nat)=>T.int (p:Int))=true:=by
 rw[DI,Ö];intro t a;obtain⟨p,-,rfl⟩:=Ð.mp a;rfl
def pb_ok{n:Nat}(o:0<n)(p:n<=1000)(f:Db.Z)(ps:kq):La [zT n f,nT ps]=↑(.ok<|.own<|oZ n<|Dm.pbk f<|Ba ps):=by
 have l1:n<=100000:=by lia
 have m:CF (n:Int)=true:=Et<|by lia
 have h:∀i,i<n->Ba ps i<n:=λi a=>by
  unfold Ba;split<;>lia
 have d:=Cq (n:=n) (me:=V8) (x:=none) (cs:=[↑(nT ps)]) (g:=λi=>.int (i:Int)) (f:=λi=>.int (Ba ps i:Int)) λi a=>by
  have q:=in_nT ps i;unfold V8;by_cases e:i∈ps;rw[Ç e]at q;rw[show Ba ps i=0 from if_pos e]
  simp![q,Si,Sj]
  rw[Õ e]at q;rw[show Ba ps i=i from if_neg e]
  simp![q,Si,Sj]
 have b:∀i,i<n->OL [↑(.int (Ba ps i:Int)),↑(.lst<|mT n λi=>.int (Ba ps i:Int)),↑(zT n f)]=↑(.v (.own<|mT n λj=>bT<|Dm.pbk f (Ba ps) i j) false):=λi a=>by
  have l:=Cq (n:=n) (me:=V7) (x:=none) (cs:=[↑(.int (Ba ps i:Int)),↑(zT n f)]) (g:=λj=>.int (Ba ps j:Int)) (f:=λj=>bT<|Dm.pbk f (Ba ps) i j) λj k=>by
   unfold V7
   simp![Bf<|h i a,Bf<|h j k]
   rfl
  unfold OL
  simp![l,l1]
 have c:=Cq (n:=n) (me:=OL) (x:=none) (cs:=[↑(.lst<|mT n λi=>.int (Ba ps i:Int)),↑(zT n f)]) (g:=λi=>.int (Ba ps i:Int)) (f:=λi=>.own<|mT n λj=>bT<|Dm.pbk f (Ba ps) i j) b;unfold La Su
 simp![m,Cz,d,l1,c,Si,Sj]
abbrev Qw:Stmt:=top 50
def Vm:AI:=
 (m1 DO<|AA 0)
def T9:AG:=
 (AO<|Az 1 [] (Aq<|AA 0) (AD 0) (mC<|.bl true) Vm)
def Jw:qB->Option Ru:=AW 1 1 T9
abbrev Nx:=fA 1 1 Qw Jw
abbrev zg4:Gm:=gA Qw 0 [] ["list"]
theorem zgp:Ck zg4 Nx Qw T9:={}
def kD{n:Nat}(c:n<=1000)(f:Db.Z):Jw [zT n f]=↑(.ok<|.own<|oZ n f):=by
 have a:=Cq (n:=n) (me:=Vm) (x:=none) (cs:=[]) (g:=λi=>.nd false .lst<|mT n λj=>bT<|f i j) (f:=λi=>.own<|mT n λj=>bT<|f i j) λi b=>by
  unfold Vm
  simp![]
 have l1:n<=100000:=by lia
 unfold Jw T9
 simp![a,l1]
abbrev QT:Stmt:=top 51
def P9:AG:=
 (JJ 1 (AA 2) (mC<|.int 0)<|mC .non)
def Sr:AG:=
 (AF (CU 1<|AN Jw<|AB (AA 0) AE)
 (AF (BE (IZ<|AB (mC<|.int 1)<|AB (m1 BO<|AA 1) AE) (AD 2) P9)
 (AO<|AA 1)))
def O6:qB->Option Ru:=AW 1 3 Sr
abbrev gH:=fA 2 1 QT O6
abbrev zfz:Gm:=gA QT 1 [("copied",Nx)] ["range","len"] ["rows"]
theorem zgk:Ck zfz gH QT Sr:={}
def eT{n i:Nat}(h:i<n):CZ n (i:Int)=↑i:=by unfold CZ;simp;lia
def zmw{m:Nat}(B:m<=500)(f:Db.Z):O6 [zT (m+1) f]=↑(.ok<|.own<|oZ (m+1)<|Dm.wtd f):=by
 have co:=kD (n:=m+1) (by lia) f
 have d:=LM (b:=AD 2) (body:=P9) (n:=m) (g:=λi=>.int<|1+(i:Int)) (Y:=[↑(zT (m+1) f),↑(.own<|oZ (m+1) f),none])
  (λk Y=>∃x,Y=[↑(zT (m+1) f),↑(.own (oZ (m+1) λi j=>if 0<i/\i<k+1/\j=0 then none else f i j)),x])
  {none,by rw[show oZ (m+1) f=oZ (m+1) (λi j=>if 0<i/\i<0+1/\j=0 then none else f i j) from SX λi j ϊ ϊ=>by rw[if_neg<|by lia]]} (by
   rintro k Y hk ⟨x,rfl⟩;refine{_,by simp![];rfl,?_};have q:(1:Int)+(k:Int)=((k+1:Nat):Int):=by lia
   have v:CZ (m+1) ((k+1:Nat):Int)=↑(k+1):=eT<|by lia
   have u:CZ (m+1) (0:Int)=↑0:=eT (i:=0)<|by lia
   generalize t:(λi j=>if 0<i/\i<k+1/\j=0 then none else f i j:Db.Z)=g;have l:∀i j,g i j=if 0<i/\i<k+1/\j=0 then none else f i j:=λi j=>by rw[<- t]
   have g1:(oZ (m+1) g)[k+1]?=↑(.own<|mT (m+1) λj=>bT<|g (k+1) j):=FN<|by lia
   have st:=zlh (n:=m+1) (f:=g) (a:=k+1) (b:=0) (c:=none);rw[lC]at st;rw[q];refine{[↑(zT (m+1) f),↑(.own (oZ (m+1) λi j=>if i=k+1/\j=0 then none else g i j)),↑(.int ((k+1:Nat):Int))],?_,↑(.int ((k+1:Nat):Int)),?_};unfold P9
   simp![v,u,g1,st]
   rw[SX λi j ϊ ϊ=>?_];rw[l i j];by_cases o:i=k+1/\j=0;rw[if_pos o,if_pos<|by lia];rw[if_neg o];by_cases p:0<i/\i<k+1/\j=0;rw[if_pos p,if_pos<|by lia]
   rw[if_neg p,if_neg<|by lia])
 let(y,e,x,rfl):=d;have w:CF ((m+1:Nat):Int)=true:=Et<|by lia
 have o2:CF 1=true:=Et (n:=1)<|by decide
 have r:(((m+1:Nat):Int) - 1).toNat=m:=by lia
 have s:(oZ (m+1) λi j=>if 0<i/\i<m+1/\j=0 then none else f i j)=oZ (m+1) (Dm.wtd f):=SX λi j z A=>by
  unfold Dm.wtd;by_cases h:0<i/\j=0;rw[if_pos h,if_pos<|by lia];rw[if_neg h];rw[if_neg<|by lia]
 rw[s]at e;unfold O6 Sr
 simp![co,w,o2,r,YI,e]
abbrev Q7:Stmt:=top 49
def Vg:AI:=
 (EG (m2 (BD false) (AJ (AA 0)<|AA 2)<|mC .non) (AA 0)<|AN L9<|AB (AA 0)<|AB (AN Jy<|AB (AJ (AA 0)<|AA 2)<|AB (AA 1) AE)<|AB (AJ (AA 4)<|AA 3) AE)
def Kr:AG:=
 (AF (A8 (BW<|AN Jt<|AB (AJ (AJ (AA 0)<|AA 1)<|AA 2)<|AB (AA 3) AE) (AO<|AA 0) A7)
 (AF (AS (AN Jy<|AB (AA 3)<|AB (AJ (AJ (AA 0)<|AA 2)<|AA 1) AE)<|AD 4)
 (AF (A8 (Bg (m2 (BD true) (AA 4)<|mC .non)<|m2 (Br λi j=>decide (i<j)) (AA 4)<|AN Fp<|AB (mC<|.int 0) AE) (AO<|mC .non) A7)
 (AO<|Az 1 [3,1,2,0] (Aq<|AA 0) (AD 0) (mC<|.bl true) Vg))))
def Ik:qB->Option Ru:=AW 4 5 Kr
abbrev gW:=fA 3 4 Q7 Ik
abbrev zdi:Gm:=gA Q7 2 [("is_wider",Uo),("added",iP),("at_most",Ic),("row_over",Uk)] []
theorem zdy:Ck zdi gW Q7 Kr:={}
def JU(n:Nat)(f:Db.Z)(a b:Nat)(c:Int)(i:Nat):T:=match f i a with
 |none=>rT n (f i)|some ϊ=>.own<|mT n λj=>bT<|Dv.ins f a b ↑c i j
def zfh{n:Nat}{f:Db.Z}{a b:Nat}{c:Int}(i:Nat):(JU n f a b c i).share=rT n (Dv.ins f a b ↑c i):=by
 unfold JU;cases e:f i a with
 |none=>
  erw[T.share,Fw,Jn];rw[DM λj g=>?_];unfold Dv.ins;rw[e];cases f i j<;>rfl
 |some d=>erw[T.share,Fw,Jn]
def zpb{n:Nat}(I:n<=1000){f:Db.Z}(w:Db.Nar n f){a b:Nat}(o:a<n)(p:b<n){c:Int} :
  (Dk.leB ↑1 (Db.add (f b a) ↑c)=true->∃t,Ik [zT n f,.int (a:Int),.int (b:Int),.int c]=↑(.ok t)/\t.share=zT n (Dv.ins f a b ↑c)/\t.isN=false) /\
  (Dk.leB ↑1 (Db.add (f b a) ↑c)=false->Ik [zT n f,.int (a:Int),.int (b:Int),.int c]=↑(.ok .non)):=by
 have G:=Wl (f a b) ↑c;have s:=Bf (g:=λi=>rT n<|f i) o
 have u:=Bf (g:=λi=>rT n<|f i) p;have v:=Bf (g:=λj=>bT<|f a j) p;have A:=Bf (g:=λj=>bT<|f b j) o;have l:=lH ↑c<|f b a;rw[Db.add_comm]at l
 by_cases k:Db.le (f a b) ↑c;have m:=G.1 k
 have one:Dk.leB ↑1 (Db.add (f b a) ↑c)=true:=by
  rw[Dk.leB_iff,<- w.diag b p];exact Db.le_trans (w.tri b b a p p o)<|Db.add_mono (Db.le_refl _) k
 refine{λϊ=>{zT n f,?_,?_,rfl},λh=>by rw[one]at h;cases h};unfold Ik Kr;rw[WC]at m
 simp![s,v,m]
 have:zT n (Dv.ins f a b ↑c)=zT n f:=zha λi j C D=>Db.mn_of_le (by
  refine Db.le_trans (w.tri i j a C D o)<|Db.add_mono (Db.le_refl _) ?_;exact Db.le_trans (w.tri a j b o D p)<|Db.add_mono k<|Db.le_refl _)
 rw[this];erw[T.share,Fw,Jn];have m:=G.2 k;rw[WC]at m l;have l1:n<=100000:=by lia
 have E:=Cq (n:=n) (me:=Vg) (x:=none) (cs:=[↑(.int c),↑(.int (a:Int)),↑(.int (b:Int)),↑(zT n f)]) (g:=λi=>rT n<|f i) (f:=λi=>JU n f a b c i) λi C=>by
  have c1:=Bf (g:=λj=>bT<|f i j) o;unfold Vg JU;cases e:f i a with
  |none=>
   rw[e]at c1
   simp![c1]
  |some d=>
   rw[e]at c1;have y:=lH ↑d ↑c;have F:=YC (n:=n) l1 (f i) (f b)<|Db.bs d c
   have H:(λj=>bT<|Db.mn (f i j)<|Db.add (↑(Db.bs d c))<|f b j)=λj=>bT<|Dv.ins f a b ↑c i j:=funext λj=>by
    unfold Dv.ins;rw[e,<- Db.add_assoc];rfl
   rw[H]at F;have z:Jy [.int d,.int c]=↑(.ok<|.int<|Db.bs d c):=y
   simp![c1,z,u,F]
 have sh:BP (mT n λi=>JU n f a b c i)=mT n λi=>rT n<|Dv.ins f a b ↑c i:=by
  rw[Fw];exact DM λi ϊ=>zfh i
 constructor;intro h;refine{.own<|mT n λi=>JU n f a b c i,?_,by erw[T.share,sh],rfl};unfold Ik Kr;cases e:Db.add (f b a) ↑c with
 |none=>
  rw[e]at l
  simp![s,v,m,u,A,l,E,l1]
 |some r=>
  rw[e]at l h
  have B:¬ r<1:=by
   have:=Dk.leB_iff.mp h;erw[Db.le]at this;lia
  simp![s,v,m,u,A,l,Jo,B,E,l1]
 intro h;unfold Ik Kr;cases e:Db.add (f b a) ↑c with
 |none=>rw[e]at h;cases h|some r=>
  rw[e]at l h
  have B:r<1:=by
   rcases Ł r 1 with q|q;exact q;have:Dk.leB ↑1 ↑r=true:=Dk.leB_iff.mpr q;rw[this]at h;cases h
  simp![s,v,m,u,A,l,Jo,B]
abbrev Q8:Stmt:=top 48
def Ir:AG:=
 (AF (AS (AN Ik<|AB (AA 2)<|AB (AA 6)<|AB (AA 7)<|AB (AA 8) AE)<|AD 2)
 (A8 (m2 (BD false) (AA 2)<|mC .non) (AO<|mC .non) A7))
def MF:AG:=
 (BE (Aq<|AN Oc<|AB (AA 3)<|AB (mC<|.int 0)<|AB (AA 4)<|AB (AA 5) AE) (Ad 3<|AH (AD 6)<|AH (AD 7)<|AH (AD 8) Ah) Ir)
def NR:AG:=
 (AF (AS (AN Jw<|AB (AA 0) AE)<|AD 2)
 (AF (BE (Aq<|AA 1) (Ad 3<|AH (AD 3)<|AH (AD 4)<|AH (AD 5) Ah) MF)
 (AO<|AA 2)))
def Ef:qB->Option Ru:=AW 2 9 NR
abbrev Nv:=fA 4 2 Q8 Ef
abbrev zqb:Gm:=gA Q8 3 [("copied",Nx),("look_bounds",gX),("narrowed",gW)] []
theorem zqp:Ck zqb Nv Q8 NR:={}
def cI{n:Nat}(j:n<=1000){a0 a1 a3 a4 a5:kr}:∀(B:List Dv.Lim),Dv.In n B->∀(f:Db.Z),Db.Nar n f->∀x y z:kr,
  (∀h,Dk.met B f=↑h->∃x' y' z',Ar (Ad 3<|AH (AD 6)<|AH (AD 7)<|AH (AD 8) Ah) Ir (B.map Kw) [a0,a1,↑(zT n f),a3,a4,a5,x,y,z]=↑(.nx [a0,a1,↑(zT n h),a3,a4,a5,x',y',z'])) /\
  (Dk.met B f=none->Ar (Ad 3<|AH (AD 6)<|AH (AD 7)<|AH (AD 8) Ah) Ir (B.map Kw) [a0,a1,↑(zT n f),a3,a4,a5,x,y,z]=↑(.rt .non))
 |[],ϊ,f,ϋ,x,y,z=>{λh e=>by
   cases e;exact{(x),y,z,rfl},λe=>by cases e}
 |b::B,g,f,i,x,y,z=>by
  have a:=g b (Ë ..);let(s,d):=zpb j i a.1 a.2 (c:=b.2.2);unfold Dk.met;rw[Ù];unfold Ar;cases q:Dk.leB ↑1 (Db.add (f b.2.1 b.1) ↑b.2.2) with
  |false=>
   refine{λh e=>(by cases e),λϊ=>?_};have d:=d q;unfold Ir
   simp![d]
  |true=>
   let(t,l,m,u):=s q;erw[Ä];let(p,r):=cI j (a0:=a0) (a1:=a1) (a3:=a3) (a4:=a4) (a5:=a5) B (λy o=>g y<|Ê _ o) _ (Dv.ins_nar i a.1 a.2<|Dk.leB_iff.mp q) (↑(.int (b.1:Nat))) (↑(.int (b.2.1:Nat)))<|↑(.int b.2.2)
   have st:Ir [a0,a1,↑(zT n f),a3,a4,a5,↑(.int (b.1:Nat)),↑(.int (b.2.1:Nat)),↑(.int b.2.2)]=↑(.nx [a0,a1,↑(zT n<|Dv.ins f b.1 b.2.1 ↑b.2.2),a3,a4,a5,↑(.int (b.1:Nat)),↑(.int (b.2.1:Nat)),↑(.int b.2.2)]):=by
    unfold Ir
    simp![l,m]
   refine{λh e=>?_,λe=>?_};let(x',y',z',k):=p h e;exact{x',y',z',by simp![st];exact k};have k:=r e
   simp![st]
   exact k
def FC(l:Nat->Nat×Nat×Int):Nat->List Dv.Lim
 |0=>[]|k+1=>FC l k++Cr (l k)
def kR{m:Nat}{l:Nat->Nat×Nat×Int}:∀{K:Nat},(∀k,k<K->Look m (l k))->Dv.In (m+1) (FC l K)
 |0,ϊ=>λx a=>by cases a|K+1,h=>λx a=>by
  rcases ß.mp a with b|b;exact kR (λk hk=>h k<|by lia) x b;exact US (h K<|by lia) x b
def cW{l:Nat->Nat×Nat×Int}{f:Db.Z}{i:Nat}(h:Dk.met (FC l i) f=none):∀K,i<=K->Dk.met (FC l K) f=none
 |0,e=>by
  have:i=0:=by lia
  subst this;exact h
 |K+1,e=>by
  by_cases q:i=K+1;subst q;exact h;show Dk.met (FC l K++Cr (l K)) f=none;rw[Dk.met_app,cW h K<|by lia];rfl
def mt_ok{m K:Nat}(P:m<=500){f:Db.Z}(C:Db.Nar (m+1) f){l:Nat->Nat×Nat×Int}(A:∀k,k<K->Look m (l k)) :
  (∀h,Dk.met (FC l K) f=↑h->Ef [zT (m+1) f,.lst<|mT K λk=>Aw<|l k]=↑(.ok<|zT (m+1) h))/\(Dk.met (FC l K) f=none->Ef [zT (m+1) f,.lst<|mT K λk=>Aw<|l k]=↑(.ok .non)):=by
 have co:=kD (n:=m+1) (by lia) f
 have o:=Nt (b:=Ad 3<|AH (AD 3)<|AH (AD 4)<|AH (AD 5) Ah) (body:=MF) (n:=K) (g:=λk=>Aw<|l k) (Y:=[↑(zT (m+1) f),↑(.lst<|mT K λk=>Aw<|l k),↑(zT (m+1) f),none,none,none,none,none,none])
  (λk=>Dk.met (FC l<|k+1) f≠none) .non
  (λk Y=>∃h w y z s u v,Dk.met (FC l k) f=↑h/\Y=[↑(zT (m+1) f),↑(.lst<|mT K λk=>Aw<|l k),↑(zT (m+1) h),w,y,z,s,u,v])
  {(f),none,none,none,none,none,none,rfl,rfl} (by
   rintro k Y hk - ⟨h,w,y,z,s,u,v,d,rfl⟩;refine{_,by simp![];rfl,?_};have j:=A k hk;have I:=((Dk.met_ok (n:=m+1) _ f C<|kR λi D=>A i<|by lia).1 h d).1
   have lb:=lb_ok (l:=l k) j.2.2;let(F,G):=cI (n:=m+1) (by lia) (a0:=↑(zT (m+1) f)) (a1:=↑(.lst<|mT K λk=>Aw<|l k)) (a3:=↑(.int ((l k).1:Nat))) (a4:=↑(.str<|FG (l k).2.1)) (a5:=↑(.int (l k).2.2)) (Cr<|l k) (US j) h I s u v
   have B:Dk.met (FC l<|k+1) f=Dk.met (Cr<|l k) h:=by
    show Dk.met (FC l k++Cr (l k)) f=_;rw[Dk.met_app,d];rfl
   have sh:BP ((Cr<|l k).map Kw)=(Cr<|l k).map Kw:=by
    rw[EL,è];exact Ă λx ϊ=>rfl
   rw[B];cases q:Dk.met (Cr<|l k) h with
   |none=>
    refine .inr {λc=>c rfl,?_};unfold MF
    simp![lb,sh]
    exact G q
   |some r=>
    let(L,M,N,H):=F r q;refine .inl {(by intro c;cases c),_,.inl ?_,r,↑(.int ((l k).1:Nat)),↑(.str<|FG (l k).2.1),↑(.int (l k).2.2),L,M,N,rfl,rfl};unfold MF
    simp![lb,sh]
    exact H)
 have p:BP (mT K λk=>Aw<|l k)=mT K λk=>Aw<|l k:=by
  rw[Fw];rfl
 have shr:A3 (mT K λk=>Aw<|l k)=true:=by
  rw[DI,Ö];intro t E;obtain⟨i,-,rfl⟩:=dE E;rfl
 rcases o with ⟨-,O,e,h,w,y,z,s,u,v,d,rfl⟩|⟨⟨i,D,J⟩,e⟩;refine{λr a=>?_,λa=>by rw[d]at a;cases a};rw[d]at a;cases a;unfold Ef NR
 simp![co,p,shr,e]
 have no:=cW (Classical.not_not.mp J) K<|by lia
 refine{λr a=>(by rw[no]at a;cases a),λϊ=>?_};unfold Ef NR
 simp![co,p,shr,e]
abbrev Qt:Stmt:=top 55
def T6:AG:=
 (AF (AS (AJ (AJ (AA 0)<|AA 2)<|AA 3)<|AD 4)
 (AF (A8 (B0 (m2 (BD false) (AA 4)<|mC .non)<|m2 Au (AA 2)<|AA 3) (AO<|AA 4) A7)
 (AF (AS (AN Js<|AB (AA 4) AE)<|AD 5)
 (AF (A8 (Bg (m2 (BD true) (AJ (AA 1)<|AA 2)<|mC .non)<|m2 (Br λi j=>decide (j<i)) (AA 5)<|AJ (AA 1)<|AA 2) (AO<|mC .non) A7)
 (AF (A8 (Bg (m2 (BD true) (AJ (AA 1)<|AA 3)<|mC .non)<|m2 (Br λi j=>decide (i<j)) (AA 5)<|m1 FK<|AJ (AA 1)<|AA 3) (AO<|AN Il<|AB (m1 FK<|AJ (AA 1)<|AA 3) AE) A7)
 (AO<|AA 4))))))
def Oi:qB->Option Ru:=AW 4 6 T6
abbrev iH:=fA 2 4 Qt Oi
abbrev zb3:Gm:=gA Qt 1 [("number_of",Um),("below",Ny)] []
theorem zba:Ck zb3 iH Qt T6:={}
def zqi{n:Nat}{f:Db.Z}{M:Nat->Db.B}{i j:Nat}(t:i<n)(hj:j<n):Oi [zT n f,rT n M,.int i,.int j]=↑(.ok<|bT<|Db.fld f M i j):=by
 have l:=Bf (n:=n) (g:=λj=>bT<|M j) t;have d:=Bf (n:=n) (g:=λj=>bT<|M j) hj;have m:=Bf (n:=n) (g:=λj=>bT<|f i j) hj;have k:=Bf (n:=n) (g:=λi=>rT n<|f i) t;unfold Oi T6 Db.fld;by_cases e:i=j;subst e;rw[if_pos rfl];cases q:f i i with
 |none=>
  rw[q]at m
  simp![k,m]
 |some c=>
  rw[q]at m
  simp![k,m,DQ]
 rw[if_neg e];have p:((i:Int) == (j:Int))=false:=by simp;lia
 cases q:f i j with
 |none=>
  rw[q]at m
  simp![k,m,Db.fldB]
 |some c=>
  rw[q]at m;unfold Db.fldB;cases r:M i with
  |none=>
   rw[r]at l;cases o:M j with
   |none=>
    rw[o]at d
    simp![k,m,DQ,p,HV,l,d]
   |some b=>
    rw[o]at d;by_cases h:c / 2 < -b
    .simp![k,m,DQ,p,HV,l,d,h,OU]
    .simp![k,m,DQ,p,HV,l,d,h]
  |some a=>
   rw[r]at l;by_cases s:a<c / 2
   .simp![k,m,DQ,p,HV,l,s]
   cases o:M j with
   |none=>
    rw[o]at d
    simp![k,m,DQ,p,HV,l,d,s]
   |some b=>
    rw[o]at d;by_cases h:c / 2 < -b
    .simp![k,m,DQ,p,HV,l,d,h,s,OU]
    .simp![k,m,DQ,p,HV,l,d,h,s]
abbrev Qu:Stmt:=top 54
def Vl:AI:=
 (AN Oi<|AB (AA 3)<|AB (AA 2)<|AB (AA 1)<|AB (AA 0) AE)
def ON:AI:=
 (Az 1 [0,1,2] (C0<|AB (m1 BO<|AA 2) AE) (AD 0) (mC<|.bl true) Vl)
def T7:AG:=
 (AF (AS (m2 BL (BI<|BA (mC<|.int 0) AE)<|AA 1)<|AD 2)
 (AF (AS (Az 1 [2,0] (C0<|AB (m1 BO<|AA 0) AE) (AD 0) (mC<|.bl true) ON)<|AD 3)
 (AO<|AN Gw<|AB (AA 3) AE)))
def Oj:qB->Option Ru:=AW 2 4 T7
abbrev iI:=fA 4 2 Qu Oj
abbrev zg3:Gm:=gA Qu 3 [("folded_bound",iH),("narrowest",gS)] ["range","len"]
theorem zgo:Ck zg3 iI Qu T7:={}
def zjq(m:Nat)(M:Nat->Db.B):(T.int 0)::mT m (λi=>bT<|M i)=mT (m+1) λi=>bT<|Db.zm M i:=by
 rw[kE];refine DM λi ϊ=>?_;cases i<;>rfl
def fo_ok{m:Nat}(p:m<=1000)(f:Db.Z)(M:Nat->Db.B):Oj [zT (m+1) f,rT m M]=Gw [zT (m+1)<|Db.fld f<|Db.zm M]:=by
 have e:=zjq m M;have l1:1+m<=100000:=by lia
 have l2:m+1<=100000:=by lia
 have c:CF ((m+1:Nat):Int)=true:=Et<|by lia
 have a:∀i,i<m+1->ON [↑(.int (i:Int)),↑(rT (m+1)<|Db.zm M),↑(zT (m+1) f)]=↑(.v (.own<|mT (m+1) λj=>bT<|Db.fld f (Db.zm M) i j) false):=λi k=>by
  have o:=Cq (n:=m+1) (me:=Vl) (x:=none) (cs:=[↑(.int (i:Int)),↑(rT (m+1)<|Db.zm M),↑(zT (m+1) f)]) (g:=λj=>.int (j:Int)) (f:=λj=>bT<|Db.fld f (Db.zm M) i j) λj l=>by
   have d:=zqi (n:=m+1) (f:=f) (M:=Db.zm M) k l;unfold Vl
   simp![d]
  unfold ON
  simp![c,Cz,o,l2]
 have b:=Cq (n:=m+1) (me:=ON) (x:=none) (cs:=[↑(rT (m+1)<|Db.zm M),↑(zT (m+1) f)]) (g:=λj=>.int (j:Int)) (f:=λi=>.own<|mT (m+1) λj=>bT<|Db.fld f (Db.zm M) i j) a
 rcases(by
  by_cases h:Db.Sound (m+1)<|Db.fld f<|Db.zm M
  exact⟨_,(S9 l2 _).1 h⟩
  exact⟨_,(S9 l2 _).2 h⟩:∃r,Gw [zT (m+1)<|Db.fld f<|Db.zm M]=↑(.ok r)) with ⟨r,hr⟩
 rw[hr];unfold Oj T7
 simp![l1,e,c,Cz,b,l2,hr]
abbrev Qq:Stmt:=top 53
def zf3:AG:=
 (A8 (m2 Cd (AA 3)<|AA 1) (JJ 2 (AA 1) (AA 3)<|mC .non) A7)
def c9:AG:=
 (AF (CU 2<|AN Jw<|AB (AA 0) AE)
 (AF (BE (C0<|AB (m1 BO<|AA 2) AE) (AD 3) zf3)
 (AO<|AA 2)))
def lO:qB->Option Ru:=AW 2 4 c9
abbrev iF:=fA 2 2 Qq lO
abbrev zii:Gm:=gA Qq 1 [("copied",Nx)] ["range","len"] ["rows"]
theorem zj6:Ck zii iF Qq c9:={}
abbrev Q4:Stmt:=top 40
def Vd:AI:=
 (AN Fp<|AB (mC<|.int 0) AE)
def Vc:AI:=
 (Az 1 [] (C0<|AB (m2 BL (AA 1)<|mC<|.int 1) AE) (AD 0) (mC<|.bl true) Vd)
def TF:AG:=
 (AO<|Az 1 [0] (C0<|AB (m2 BL (AA 0)<|mC<|.int 1) AE) (AD 0) (mC<|.bl true) Vc)
def Lc:qB->Option Ru:=AW 1 1 TF
abbrev gR:=fA 2 1 Q4 Lc
abbrev zg1:Gm:=gA Q4 1 [("at_most",Ic)] ["range"]
theorem zgm:Ck zg1 gR Q4 TF:={}
def zpe{m:Nat}(h:m<=1000):Lc [.int m]=↑(.ok<|.own<|mT (m+1) λϊ=>.own<|mT (m+1) λϊ=>.int 1):=by
 have l2:m+1<=100000:=by lia
 have b:CF ((m:Int)+1)=true:=Et (n:=m+1)<|by lia
 have o2:((m:Int)+1).toNat=m+1:=by lia
 have c:=Cq (n:=m+1) (me:=Vd) (x:=none) (cs:=[]) (g:=λj=>.int (j:Int)) (f:=λϊ=>.int 1) λj e=>by
  unfold Vd
  simp![Jo]
 have a:=Cq (n:=m+1) (me:=Vc) (x:=none) (cs:=[↑(.int (m:Int))]) (g:=λj=>.int (j:Int)) (f:=λϊ=>.own<|mT (m+1) λϊ=>.int 1) λi d=>by
  unfold Vc
  simp![b,o2,Cz,c,l2]
 unfold Lc TF
 simp![b,o2,Cz,a,l2]
abbrev Q3:Stmt:=top 63
def Vb:AI:=
 (Bm Al An Io (AA 1)<|AB (AA 0) AE)
def TC:AG:=
 (AO<|Az 1 [0] (Aq<|Bm BU B7 PC (AA 1) AE) (AD 0) (mC<|.bl true) Vb)
def O9:qB->Option Ru:=AW 2 2 TC
abbrev gQ:=fA 2 2 Q3 O9
abbrev zah:Gx:={ Bz with mt:=[("sets",BU,B7,jE),("watch_number",Al,An,OA)] }
abbrev zal:Gm:=gA Q3 1 [] [] (ox:=zah)
theorem zaq:Ck zal gQ Q3 TC:={}
def As(ws ns:ki):kq:=ns.map λx=>(C7 ws x).getD 0+1
abbrev E8(l:kq):qB:=l.map λp:Nat=>T.int (p:Int)
def Sf(l:kq):A3 (E8 l)=true:=EM λϊ ϊ=>rfl
def np_ok{M:Mc}(h:McOk M){d:Dr}(hd:d∈M.ds):O9 [Ay M,BF d]=↑(.ok<|.own<|E8<|As M.ws d.n):=by
 have D:=h.d d hd;have e:=D.g.sh;have c:=H9 h;have a:=zmg e
 have l:=GJ (b:=AD 0) (me:=Vb) T.str (λx=>.int ((C7 M.ws x).getD 0+1:Nat)) (λY=>∃x,Y=[x,↑(Ay M)]) d.n [none,↑(Ay M)] {(none),rfl} λx k Y i=>by
  let(y,rfl):=i;let(j,f,_):=Gn<|D.n x k;have en:Io [Ay M,.str x]=↑(.ok<|.int<|j+1):=cO h f;refine{[↑(.str x),↑(Ay M)],by simp![],?_,_,rfl}
  unfold Vb;rw[f]
  simp![-BQ,JW,c,Av _ c,en,Ž,Int.natCast_add]
 have g:E8 (As M.ws d.n)=d.n.map λx=>.int ((C7 M.ws x).getD 0+1:Nat):=by
  unfold E8 As;simp_all
 have nl:d.n.length<=100000:=by have:=D.nl;lia
 rw[g];unfold O9 TC
 simp![c,Av _ c,a,e,AK _ e,AV,AX,À,nl,l]
def oT(n:Nat):Option Db.Z->T
 |none=>.non|some f=>zT n f
def HS(n:Nat)(o:Option Db.Z):(oT n o).sh=true:=by
 cases o with
 |none=>rfl|some f=>exact Dy n f
def Ki(n:Nat)(o:Option Db.Z)(b:Bool):BD b (oT n o) .non=↑(.bl<|b != o.isNone):=by
 cases o<;>cases b<;>rfl
def DL(L:List<|Nat×Nat×Int)(f:Db.Z):Option Db.Z:=Dk.met (L.flatMap Cr) f
def kS{d:Nat×Nat×Int}{L:List<|Nat×Nat×Int}:∀K,K<=L.length->FC (λk=>L.getD k d) K=(L.take K).flatMap Cr
 |0,ϊ=>by rw[œ];rfl|K+1,h=>by
  have a:K<L.length:=h;show FC _ K++Cr (L.getD K d)=_;rw[kS K (by lia),ņ a,List.flatMap_append,Ó,Á a]
  simp
abbrev Fq(m:Nat)(L:List<|Nat×Nat×Int):Prop:=∀l∈L,Look m l
theorem J4{m:Nat}{L:List<|Nat×Nat×Int}(b:Fq m L):Dv.In (m+1)<|L.flatMap Cr:=λx a=>by
 let(l,c,a):=ļ.mp a;exact US (b l c) x a
def NK{m:Nat}(d:m<=500){f:Db.Z}(c:Db.Nar (m+1) f){L:List<|Nat×Nat×Int}(b:Fq m L):Ef [zT (m+1) f,.lst<|L.map Aw]=↑(.ok<|oT (m+1)<|DL L f):=by
 have h:=mt_ok (K:=L.length) d c (l:=λk=>L.getD k (0,0,0)) λk hk=>by
  rw[Ó,Á hk];exact b _<|Ò hk
 rw[kS _<|Æ _,ĝ]at h
 have e:(mT L.length λk=>Aw<|L.getD k (0,0,0))=L.map Aw:=Eq.symm (ES (À _) λi a=>by
  rw[È,Á a,Ó,Á a]
  rfl)
 rw[e]at h;unfold DL;cases q:Dk.met (L.flatMap Cr) f with
 |none=>exact h.2 q|some g=>exact h.1 g q
theorem NL{m:Nat}{f:Db.Z}(b:Db.Nar (m+1) f){L:List<|Nat×Nat×Int}(a:Fq m L){g:Db.Z}(e:DL L f=↑g):Db.Nar (m+1) g:=((Dk.met_ok _ f b<|J4 a).1 g e).1
open Classical in
def HU(n:Nat)(f:Db.Z):Option Db.Z:=if Db.Sound n f then ↑(Db.fw f n) else none
def zpa{n:Nat}(c:n<=100000)(f:Db.Z):Gw [zT n f]=↑(.ok<|oT n<|HU n f):=by
 let(a,b):=S9 c f;unfold HU;split;exact a ‹_›;exact b ‹_›
def zlj{n:Nat}{f g:Db.Z}(e:HU n f=↑g):Db.Nar n g:=by
 unfold HU at e;split at e;cases e;exact Db.nar ‹_›;cases e
open Classical in
def HD(n:Nat)(f g:Db.Z):Bool:=decide (∀i j,i<n->j<n->Db.le (f i j) (g i j))
open Classical in
def zmu{n:Nat}(f g:Db.Z):Ij [zT n f,zT n g]=↑(.ok<|.bl<|HD n f g):=by
 let(a,b):=wi_ok (n:=n) f g;unfold HD;by_cases h:∀i j,i<n->j<n->Db.le (f i j) (g i j);rw[Ç h];exact a h;rw[Õ h];exact b h
def Gf(L:List<|Nat×Nat×Int):A3 (L.map Aw)=true:=EM λϊ ϊ=>rfl
def DV(y:Str):Nat:=if y=Str.ofString "<" then 0 else if y=Str.ofString "<=" then 1 else if y=Str.ofString ">" then 2 else if y=Str.ofString ">=" then 3 else 4
def MD:∀y∈CM,FG (DV y)=y/\DV y<5:=by decide +kernel
def BY(ws:ki)(t:T):Nat×Nat×Int:=((C7 ws<|DB t).getD 0+1,DV<|Ce t,BJ t)
def SO{ws:ki}{l:qB}(h:BX ws CM l):l.map (Be ws)=(l.map<|BY ws).map Aw:=by
 rw[è];refine Ă λt a=>?_;let(c,d,b,e):=Gg<|h t a;show Be ws t=Aw (BY ws t);unfold Be BY;rw[show Aw ((C7 ws<|DB t).getD 0+1,DV<|Ce t,BJ t)=.tup [.int (((C7 ws<|DB t).getD 0+1:Nat):Int),.str<|FG<|DV<|Ce t,.int<|BJ t] from rfl,(MD _ b).1,Int.natCast_add]
 rfl
theorem JP{ws:ki}{l:qB}(h:BX ws CM l):Fq ws.length<|l.map<|BY ws:=λx c=>by
 let(t,b,rfl):=Ð.mp c;let(g,d,e,i):=Gg<|h t b;let(j,a,f,_):=Gn d;refine{ğ _,?_,(MD _ e).2};show(C7 ws<|DB t).getD 0+1<_;rw[a,Ž]
 lia
theorem BX.wd{ws:ki}{l:qB}(h:BX ws D0 l):BX ws CM l:=λt c=>by
 let(x,y,n,e,a,d,b):=h t c;refine{x,y,n,e,a,?_,b};revert y;have:∀y∈D0,y∈CM:=by decide +kernel
 exact λy ϊ h=>this y h
def jJ{α:Type}{x:Str}{v:α}:∀{rs:List<|Str×α},(rs.map (·.1)).Nodup->(x,v)∈rs->rs.find? (λq=>decide (q.1=x))=↑(x,v)
 |[],ϊ,h=>by cases h|a::l,nd,h=>by
  rw[Ù,ľ]at nd;rcases Ì.mp h with rfl|h;rw[List.find?_cons_of_pos<|by simp];rw[List.find?_cons_of_neg λz=>nd.1 ?_];exact jJ nd.2 h;rw[ä z];exact Ð.mpr {_,h,rfl}
def BN(ws:ki)(rs:List<|Str×qB)(x:Str):List<|Nat×Nat×Int:=(((rs.find? λq=>decide (q.1=x)).map (·.2)).getD []).map (BY ws)
def Xc{ws:ki}{rs:List<|Str×qB}(nd:(rs.map (·.1)).Nodup){r:Str×qB}(h:r∈rs):BN ws rs r.1=r.2.map (BY ws):=by
 unfold BN;rw[jJ (v:=r.2) nd h];rfl
def K3{M:Mc}(h:McOk M)(x:Str):Fq M.ws.length<|BN M.ws M.rs x:=by
 unfold BN;cases e:M.rs.find? λq=>decide (q.1=x) with
 |none=>exact λl a=>by cases a|some r=>exact JP (h.r.lk r<|List.mem_of_find?_eq_some e).1.wd
abbrev QX:Stmt:=top 58
def Sw:AG:=
 (AF (A8 (B0 (BW<|m1 (DP "tuple")<|AA 2)<|m2 Cd (m1 BO<|AA 2)<|mC<|.int 2) (Cw "NoMark"<|AB (mC<|.str "a mark is a tuple of a room and a guard") AE) A7)
 (AF (A8 (m2 GC (AJ (AA 2)<|mC<|.int 0)<|AA 1) (Cw "NoMark"<|AB (mC<|.str "a mark is in a room of the machine") AE) A7)
 (AO<|BV<|AB (AJ (AA 2)<|mC<|.int 0)<|AB (AN GS<|AB (AA 0)<|AB (AJ (AA 2)<|mC<|.int 1) AE) AE)))
def O8:qB->Option Ru:=AW 3 3 Sw
abbrev gM:=fA 6 3 QX O8
abbrev zbh:Gm:=gA QX 5 [("placed",LN)] ["isinstance","tuple","len"] (ex:=["NoMark"])
theorem zbn:Ck zbh gM QX Sw:={}
def Eg(ws rn:ki)(gl:List<|Str×qB):Prop:=∀g∈gl,g.1∈rn/\BX ws CM g.2/\g.2.length<=2
def Eg.sh{ws rn:ki}{gl:List<|Str×qB}(h:Eg ws rn gl):A3 (gl.map A9)=true:=by
 rw[DI,Ö];intro t b;let(g,a,rfl):=Ð.mp b;have:=(h g a).2.1.sh
 simp![this]
set_option tactic.hygienic true in
def zi4{ys:ki}{x:Str}{o:Bool}{k:Kd}(h:CA ys)(a:PyData.strOk x=true):GC (.str x) (.nd o k<|ys.map T.str)=↑(.bl<|!decide (x∈ys)):=by
 have e:=Jc (o:=o) (k:=k) h a;unfold De at e;unfold GC;simp only at e ⊢;split at e;rename_i hk;rw[if_pos hk];erw[ţ,T.bl.injEq]at e ⊢;rw[e];cases e
def pm_ok{M:Mc}(h:McOk M){g:Str×qB}(d:g.1∈M.rs.map (·.1)/\BX M.ws CM g.2/\g.2.length<=2):O8 [CO M,.lst ((M.rs.map (·.1)).map T.str),A9 g]=↑(.ok<|.tup [.str g.1,.lst<|g.2.map<|Be M.ws]):=by
 let(g1,g2,i):=d;have a:=zi4 (o:=false) (k:=.lst) h.tn<|h.tn _ g1;rw[Ç g1]at a;have c:=Ke h g2 (λy f=>f)<|by lia
 have b:=g2.sh
 have ps:A3 (g.2.map<|Be M.ws)=true:=by
  rw[DI,Ö];intro t e;let(u,_,rfl):=Ð.mp e
  rfl
 unfold O8 Sw
 simp![Ga,AX,AV,h.ss,h.sd,AK _ h.ss,AK _ h.sd,a,c,b,AK _ b,ps,AK _ ps]
abbrev QY:Stmt:=top 57
def V9:AI:=
 (AN O8<|AB (AA 1)<|AB (AA 2)<|AB (AA 0) AE)
def Sx:AG:=
 (AF (A8 (BW<|m1 (DP "list")<|AA 1) (Cw "NoMark"<|AB (mC<|.str "a goal is a list of marks") AE) A7)
 (AF (AS (Bm Al An GU (AA 0) AE)<|AD 2)
 (AO<|Az 1 [0,2] (Aq<|AA 1) (AD 0) (mC<|.bl true) V9)))
def Jr:qB->Option Ru:=AW 2 3 Sx
abbrev Ul:=fA 7 2 QY Jr
abbrev zbe:Gx:={ Bz with mt:=[("rooms",Al,An,Jj)] }
abbrev zbi:Gm:=gA QY 6 [("placed_mark",gM)] ["isinstance","list"] (ex:=["NoMark"]) (ox:=zbe)
theorem zbo:Ck zbi Ul QY Sx:={}
def Y7{M:Mc}(h:McOk M){gl:List<|Str×qB}(a:Eg M.ws (M.rs.map (·.1)) gl)(l:gl.length<=1000):Jr [CO M,.lst<|gl.map A9]=↑(.ok<|.own<|gl.map λg=>.tup [.str g.1,.lst<|g.2.map<|Be M.ws]):=by
 have gs:=a.sh
 have i:=GJ (b:=AD 0) (me:=V9) A9 (λg=>.tup [.str g.1,.lst<|g.2.map<|Be M.ws]) (λY=>∃x,Y=[x,↑(CO M),↑(.lst ((M.rs.map (·.1)).map T.str))]) gl [none,↑(CO M),↑(.lst ((M.rs.map (·.1)).map T.str))] {(none),rfl} λg f Y d=>by
  let(x,rfl):=d;have k:=a g f;have e:=pm_ok h k;have c:=k.2.1.sh;refine{[↑(A9 g),↑(CO M),↑(.lst ((M.rs.map (·.1)).map T.str))],by simp![],?_,_,rfl}
  unfold V9
  simp![AX,AV,h.ss,h.sd,AK _ h.ss,AK _ h.sd,e,c,AK _ c]
 have j:=Kn h;have l1:gl.length<=100000:=by lia
 unfold Jr Sx
 simp![AX,AV,h.ss,h.sd,AK _ h.ss,AK _ h.sd,j,gs,AK _ gs,À,l1,i]
abbrev RG:Stmt:=top 60
def Vt:AI:=
 (AA 1)
def Vs:AI:=
 (AN GS<|AB (AA 1)<|AB (Bm Al An KA (AA 1)<|AB (AA 0) AE) AE)
def Vr:AI:=
 (AN GS<|AB (AA 1)<|AB (Bm BU B7 KG (AA 0) AE) AE)
def Ti:AG:=
 (AF (CU 2<|Az 2 [] (Aq<|AN Jr<|AB (AA 0)<|AB (AA 1) AE) (Ad 2<|AH (AD 0)<|AH (AD 1) Ah) (mC<|.bl true) Vt)
 (AF (JK 2<|Az 1 [0] (Aq<|Bm Al An GU (AA 0) AE) (AD 0) (mC<|.bl true) Vs)
 (AF (JK 2<|Az 1 [0] (Aq<|Bm Al An KC (AA 0) AE) (AD 0) (mC<|.bl true) Vr)
 (AO<|AA 2))))
def Ou:qB->Option Ru:=AW 2 3 Ti
abbrev iO:=fA 8 2 RG Ou
abbrev zcc:Gx:={ Bz with mt:=[("rooms",Al,An,Jj),("stay",Al,An,Uw),("doors",Al,An,Uy),("asks",BU,B7,VF)] }
abbrev zcn:Gm:=gA RG 7 [("placed_goal",Ul),("placed",LN)] [] ["told"] (ox:=zcc)
theorem zcz:Ck zcn iO RG Ti:={}
def F7(M:Mc)(gl:List<|Str×qB):List<|qB:=gl.map (·.2)++(M.rs.map (·.2)++M.ds.map (·.g))
def Xb:∀y∈D0,y∈CM:=by decide +kernel
def JQ(ws:ki)(l:qB):A3 (l.map<|Be ws)=true:=by
 rw[DI,Ö];intro t a;let(u,_,rfl):=Ð.mp a
 rfl
def QN{α:Type}(ws:ki)(f:α->qB)(o:Bool)(L:List α):BP (L.map λx=>T.nd o .lst<|(f x).map (Be ws))=(L.map f).map λl=>T.lst<|l.map<|Be ws:=by
 rw[EL,è,è];refine Ă λx ϊ=>?_;show T.nd false .lst (BP _)=_;rw[AK _<|JQ ws _];rfl
def al_ok{M:Mc}(h:McOk M){gl:List<|Str×qB}(m:Eg M.ws (M.rs.map (·.1)) gl)(u:gl.length<=1000):Ou [CO M,.lst<|gl.map A9]=↑(.ok<|.own<|(F7 M gl).map λl=>.lst<|l.map<|Be M.ws):=by
 have gs:=m.sh;have pg:=Y7 h m u;have D:=Kn h;have md:=cY h;have v:=h.r.l64;have q:=h.dl
 have Cq:=GJ (b:=Ad 2<|AH (AD 0)<|AH (AD 1) Ah) (me:=Vt) (λg:Str×qB=>.tup [.str g.1,.lst<|g.2.map<|Be M.ws]) (λg=>.lst<|g.2.map<|Be M.ws) (λY=>∃x y,Y=[x,y]) gl [none,none] {(none),none,rfl} λg e Y c=>by
  let(x,y,rfl):=c;refine{[↑(.str g.1),↑(.lst<|g.2.map<|Be M.ws)],by simp![],?_,_,_,rfl};unfold Vt
  simp![JQ]
 have Fm:=GJ (b:=AD 0) (me:=Vs) (λr:Str×qB=>.str r.1) (λr=>.own<|r.2.map<|Be M.ws) (λY=>∃x,Y=[x,↑(CO M)]) M.rs [none,↑(CO M)] {(none),rfl} λr e Y c=>by
  let(x,rfl):=c;let(i,s,rfl):=Ŏ.mp e;have ms:=cK h s;have k:=h.r.lk _ e;have j:=Ke h k.1 Xb k.2;have a:=k.1.sh;refine{[↑(.str M.rs[i].1),↑(CO M)],by simp![],?_,_,rfl}
  unfold Vs
  simp![AX,AV,h.ss,h.sd,AK _ h.ss,AK _ h.sd,ms,a,AK _ a,j]
 have f:=GJ (b:=AD 0) (me:=Vr) BF (λd=>.own<|d.g.map<|Be M.ws) (λY=>∃x,Y=[x,↑(CO M)]) M.ds [none,↑(CO M)] {(none),rfl} λd e Y c=>by
  let(x,rfl):=c;have k:=h.d d e;have a:A3 d.g=true:=k.g.sh;have n:=j4 a;have j:=Ke h k.g (λy z=>z) k.gl
  have sd:=OH k;refine{[↑(BF d),↑(CO M)],by simp![],?_,_,rfl};unfold Vr
  simp![AX,AV,h.ss,h.sd,AK _ h.ss,AK _ h.sd,n,a,AK _ a,j]
 have H:A3 (gl.map λg=>T.tup [.str g.1,.lst<|g.2.map<|Be M.ws])=true:=by
  rw[DI,Ö];intro t w;let(g,_,rfl):=Ð.mp w
  simp![JQ]
 have p:(M.rs.map (·.1)).map T.str=M.rs.map λr=>T.str r.1:=by rw[è];rfl
 rw[<- p]at Fm;have l1:gl.length<=100000:=by lia
 have l2:M.rs.length<=100000:=by lia
 have A:M.ds.length<=100000:=by lia
 have B:gl.length+M.rs.length<=100000:=by lia
 have C:gl.length+M.rs.length+M.ds.length<=100000:=by lia
 have E:=QN M.ws (λg:Str×qB=>g.2) false gl;have F:=QN M.ws (λg:Str×qB=>g.2) true M.rs;have G:=QN M.ws (λd:Dr=>d.g) true M.ds;have o:(gl.map λg=>T.lst<|g.2.map<|Be M.ws)=(gl.map (·.2)).map λl=>T.lst<|l.map<|Be M.ws:=by rw[è];rfl
 unfold Ou Ti F7;rw[á,á,<- ø]
 simp![AX,AV,h.ss,h.sd,AK _ h.ss,AK _ h.sd,gs,AK _ gs,pg,D,md,Cq,Fm,f,E,F,G,o,AK _ H,À,ë,l1,l2,A,B,C]
abbrev Qo:Stmt:=top 59
def kO:AI:=
 (mC<|.int 0)
def MG:AG:=
 (IH 2 (m2 EB (AA 4)<|mC<|.int 1)<|B5 Hl<|AB (AJ (AA 2)<|m2 EB (AA 4)<|mC<|.int 1)<|AB (AA 6) AE)
def MH:AG:=
 (BE (Aq<|AA 3) (Ad 3<|AH (AD 4)<|AH (AD 5)<|AH (AD 6) Ah) MG)
def T4:AG:=
 (AF (CU 2<|Az 1 [] (Aq<|Bm Al An Lk (AA 0) AE) (AD 0) (mC<|.bl true) kO)
 (AF (BE (Aq<|AN Ou<|AB (AA 0)<|AB (AA 1) AE) (AD 3) MH)
 (AO<|AA 2)))
def Lh:qB->Option Ru:=AW 2 7 T4
abbrev iE:=fA 9 2 Qo Lh
abbrev zdc:Gx:={ Bz with mt:=[("watches",Al,An,Uv)] }
abbrev zdm:Gm:=gA Qo 8 [("all_looks",iO)] ["max"] ["numbers"] (ox:=zdc)
theorem ze2:Ck zdm iE Qo T4:={}
def CW(x:Str):qB->Int
 |[]=>0|t::r=>if DB t=x then max (BJ t) (CW x r) else CW x r
def Sl(x:Str):∀l:qB,0<=CW x l
 |[]=>ó 0|t::r=>by
  have:=Sl x r;unfold CW;split;lia;exact this
theorem Sn(x:Str)(t:T)(r:qB):CW x (t::r)=if DB t=x then max (BJ t) (CW x r) else CW x r:=rfl
def cG(x:Str)(m:qB):∀l:qB,CW x (l++m)=max (CW x l) (CW x m)
 |[]=>by
  have:=Sl x m;rw[Ĺ];show _=max 0 _
  lia
 |t::r=>by
  have:=cG x m r;rw[ō,Sn,Sn];split;rw[this];lia;exact this
abbrev E7(ws:ki)(f:Str->Int):qB:=ws.map λx=>.int<|f x
def zpg{ws:ki}(hd:ws.Nodup)(f:Str->Int){j:Nat}(hj:j<ws.length){v:Int}:(E7 ws f).set j (.int v)=E7 ws λx=>if x=ws[j] then v else f x:=by
 apply Ź;intro i;by_cases a:i<ws.length;rw[È,Á a];by_cases e:i=j;subst e;rw[ê (by rw[À];exact a)];simp;rw[å<|Í e,È,Á a];have:ws[i]≠ws[j]:=λq=>e<|(Ą hd).mp q
 simp[this];rw[ý (by rw[Ī,À];lia),ý (by rw[À];lia)]
def ix_lt{n i:Nat}(h:i<n):CZ n (i:Int)=↑i:=by unfold CZ;simp;lia
def fQ{M:Mc}(h:McOk M){wd:ki}{l:qB}(c:BX M.ws wd l){a0 a1 a3:kr}:∀(m:qB) (f:Str->Int) (x4 x5 x6:kr),(∀x,0<=f x)->(∀t∈m,t∈l)->∃y4 y5 y6,Ar (Ad 3<|AH (AD 4)<|AH (AD 5)<|AH (AD 6) Ah) MG (m.map<|Be M.ws) [a0,a1,↑(.own<|E7 M.ws f),a3,x4,x5,x6]=↑(.nx [a0,a1,↑(.own<|E7 M.ws λx=>max (f x)<|CW x m),a3,y4,y5,y6])
 |[],f,x4,x5,x6,a,ϊ=>{x4,x5,x6,by
  have e:(λx=>max (f x)<|CW x [])=f:=funext λx=>by
   have:=a x;show max (f x) 0=f x
   lia
  rw[e]
  rfl}
 |t::m,f,x4,x5,x6,a,d=>by
  let(B,y,C,D):=Gg<|c t<|d t (Ë ..);let(j,n,b,p):=Gn y
  let(y4,y5,y6,e):=fQ h c (a0:=a0) (a1:=a1) (a3:=a3) m (λx=>if x=M.ws[j] then (if BJ t > f M.ws[j] then BJ t else f M.ws[j]) else f x) (↑(.int<|(j:Int)+1)) (↑(.str<|Ce t)) (↑(.int<|BJ t)) (λx=>by
   have r:=a x;have A:=a M.ws[j];split
   split<;>lia
   exact r) λu s=>d u<|Ê _ s
  refine{y4,y5,y6,?_};have g:((j:Int)+1 - 1)=j:=by lia
  have i:AZ (E7 M.ws f) (j:Int)=↑(.int<|f M.ws[j]):=DC (by rw[È,Á b];rfl);have v:=ix_lt b
  have w:MG [a0,a1,↑(.own<|E7 M.ws f),a3,↑(.int<|(j:Int)+1),↑(.str<|Ce t),↑(.int<|BJ t)]=↑(.nx [a0,a1,↑(.own (E7 M.ws λx=>if x=M.ws[j] then (if BJ t > f M.ws[j] then BJ t else f M.ws[j]) else f x)),a3,↑(.int<|(j:Int)+1),↑(.str<|Ce t),↑(.int<|BJ t)]):=by
   rw[<- zpg h.wd f b];unfold MG
   simp![g,i,v,À]
  have o:Be M.ws t=.tup [.int<|(j:Int)+1,.str<|Ce t,.int<|BJ t]:=by
   unfold Be;rw[n];rfl
  have k:(λx=>max (if x=M.ws[j] then (if BJ t > f M.ws[j] then BJ t else f M.ws[j]) else f x)<|CW x m)=λx=>max (f x)<|CW x<|t::m:=funext λx=>by
   rw[Sn,<- p];by_cases q:x=M.ws[j];subst q;rw[if_pos rfl,if_pos rfl];split<;>lia;rw[if_neg q,if_neg<|λz=>q z.symm]
  rw[k]at e;rw[Ù,o]
  conv=>lhs;unfold Ar
  simp![w,e]
def fP{M:Mc}(h:McOk M){a0 a1:kr}:∀(L:List<|qB) (f:Str->Int) (x3 x4 x5 x6:kr),(∀x,0<=f x)->(∀l∈L,BX M.ws CM l)->∃y3 y4 y5 y6,Ar (AD 3) MH (L.map λl=>.lst<|l.map<|Be M.ws) [a0,a1,↑(.own<|E7 M.ws f),x3,x4,x5,x6]=↑(.nx [a0,a1,↑(.own<|E7 M.ws λx=>max (f x)<|CW x L.flatten),y3,y4,y5,y6])
 |[],f,x3,x4,x5,x6,a,ϊ=>{x3,x4,x5,x6,by
  have e:(λx=>max (f x)<|CW x ([]:List<|qB).flatten)=f:=funext λx=>by
   have:=a x;show max (f x) 0=f x
   lia
  rw[e]
  rfl}
 |l::L,f,x3,x4,x5,x6,a,c=>by
  let(d,g,i,j):=fQ h (c l (Ë ..)) (a0:=a0) (a1:=a1) (a3:=↑(.lst<|l.map<|Be M.ws)) l f x4 x5 x6 a λt n=>n;let(y3,y4,y5,y6,b):=fP h (a0:=a0) (a1:=a1) L (λx=>max (f x)<|CW x l) (↑(.lst<|l.map<|Be M.ws)) d g i (λx=>by have:=a x;lia) λl m=>c l<|Ê _ m
  refine{y3,y4,y5,y6,?_}
  have w:MH [a0,a1,↑(.own<|E7 M.ws f),↑(.lst<|l.map<|Be M.ws),x4,x5,x6]=↑(.nx [a0,a1,↑(.own<|E7 M.ws λx=>max (f x)<|CW x l),↑(.lst<|l.map<|Be M.ws),d,g,i]):=by
   unfold MH
   simp![JQ,AK _<|JQ _ _,j]
  have k:(λx=>max (max (f x)<|CW x l)<|CW x L.flatten)=λx=>max (f x)<|CW x (l::L).flatten:=funext λx=>by
   rw[List.flatten_cons,cG];lia
  rw[k]at b;rw[Ù]
  conv=>lhs;unfold Ar
  simp![w,b]
def gr_ok{M:Mc}(h:McOk M){gl:List<|Str×qB}(f:Eg M.ws (M.rs.map (·.1)) gl)(s:gl.length<=1000):Lh [CO M,.lst<|gl.map A9]=↑(.ok<|.own<|E7 M.ws λx=>CW x (F7 M gl).flatten):=by
 have gs:=f.sh;have j:=al_ok h f s;have w:=cH h;have u:=h.wl
 have v:=GJ (b:=AD 0) (me:=kO) T.str (λϊ=>.int 0) (λY=>∃x,Y=[x]) M.ws [none] {(none),rfl} λg c Y q=>by
  let(x,rfl):=q;exact{[↑(.str g)],by simp![],rfl,_,rfl}
 let(z,A,B,C,e):=fP h (a0:=↑(CO M)) (a1:=↑(.lst<|gl.map A9)) (F7 M gl) (λϊ=>0) none none none none (λϊ=>ó 0) λl a=>by
  unfold F7 at a;rcases ß.mp a with a|a;let(g,c,rfl):=Ð.mp a;exact(f g c).2.1;rcases ß.mp a with a|a;let(r,c,rfl):=Ð.mp a;intro t i;let(x,y,n,e,m,o,p):=(h.r.lk r c).1 t i;exact{x,y,n,e,m,Xb y o,p}
  let(d,c,rfl):=Ð.mp a;exact(h.d d c).g
 have k:(λx=>max 0<|CW x (F7 M gl).flatten)=λx=>CW x (F7 M gl).flatten:=funext λx=>by
  have:=Sl x (F7 M gl).flatten;lia
 rw[k]at e;have l1:M.ws.length<=100000:=by lia
 have sa:A3 ((F7 M gl).map λl=>T.lst<|l.map<|Be M.ws)=true:=by
  rw[DI,Ö];intro t i;let(l,_,rfl):=Ð.mp i
  simp![JQ]
 unfold Lh T4
 simp![AX,AV,h.ss,h.sd,AK _ h.ss,AK _ h.sd,w,gs,AK _ gs,À,l1,v,j,AK _ sa,e]
abbrev QW:Stmt:=top 62
def Pb:AG:=
 (JL 1 (AA 2)<|AN GS<|AB (AA 0)<|AB (Bm Al An KA (AA 0)<|AB (AA 2) AE) AE)
def Sv:AG:=
 (AF (CU 1 IU)
 (AF (BE (Aq<|Bm Al An GU (AA 0) AE) (AD 2) Pb)
 (AO<|AA 1)))
def O7:qB->Option Ru:=AW 1 3 Sv
abbrev gL:=fA 6 1 QW O7
abbrev zax:Gx:={ Bz with mt:=[("rooms",Al,An,Jj),("stay",Al,An,Uw)] }
abbrev zb1:Gm:=gA QW 5 [("placed",LN)] [] ["stays"] (ox:=zax) (dc:=["stays"])
theorem zb8:Ck zb1 gL QW Sv:={}
def zo9{M:Mc}(h:McOk M):O7 [Ay M]=↑(.ok<|.osd M.nm<|M.nm.map λx=>.own<|(BN M.ws M.rs x).map Aw):=by
 have a:=H9 h;have nd:M.nm.Nodup:=h.r.nd;have l64:=h.r.l64;have s:M.nm.length=M.rs.length:=À _;have o:GU [Ay M]=↑(.ok<|.own<|M.nm.map T.str):=Kn h
 let(Y,e,y,rfl):=Du (b:=AD 2) (body:=Pb) (ts:=M.nm.map T.str) (Y:=[↑(Ay M),↑(.osd [] []),none]) (λi Y=>∃y,Y=[↑(Ay M),↑(.osd (M.nm.take i)<|(M.nm.take i).map λx=>.own<|(BN M.ws M.rs x).map Aw),y]) {(none),rfl} λi t Y c n=>by
  let(y,rfl):=n;have g:i<M.nm.length:=by simpa using (Î.mp c).1
  have d:i<M.rs.length:=by lia
  rw[È,Á g]at c;have m:=(Û c).symm;subst m;have en:M.nm[i]=M.rs[i].1:=Ļ _;have lk:=h.r.lk _<|Ò d
  have ms:KA [Ay M,.str M.nm[i]]=↑(.ok<|.own M.rs[i].2):=by
   rw[en];exact cK h d
  have q:GS [Ay M,.lst M.rs[i].2]=↑(.ok<|.own<|(BN M.ws M.rs M.nm[i]).map Aw):=by
   rw[en,Xc nd<|Ò d,<- SO lk.1.wd];exact Ke h lk.1.wd (λϊ h=>h) lk.2
  have p:M.nm[i]∉M.nm.take i:=λz=>by
   let(j,r,e):=List.mem_take_iff_getElem.mp z;have:=(Ą nd).mp e
   lia
  have f:(M.nm.take i).length<100000:=by rw[ù];lia
  have sr:=lk.1.sh;refine{[↑(Ay M),↑(.osd (M.nm.take i)<|(M.nm.take i).map λx=>.own<|(BN M.ws M.rs x).map Aw),↑(.str M.nm[i])],by simp![],[↑(Ay M),↑(.osd (M.nm.take i++[M.nm[i]])<|(M.nm.take i).map (λx=>.own<|(BN M.ws M.rs x).map Aw)++[.own<|(BN M.ws M.rs M.nm[i]).map Aw]),↑(.str M.nm[i])],?_,↑(.str M.nm[i]),?_};unfold Pb;have k:=Gf<|BN M.ws M.rs M.nm[i];change (BN M.ws M.rs M.nm[i]).map Aw=LK;change M.rs[i].2=RS;change ((M.nm.take i).map λx=>T.own<|(BN M.ws M.rs x).map Aw)=V
  change M.nm[i]=x;change M.nm.take i=l
  simp![-BQ,JW,a,Av _ a,ms,sr,AK _ sr,q,k,AK _ k,ŭ,Ů,p,f,not_false_eq_true]
  rw[ņ g,á];rfl
 rw[À,ĝ]at e;have l1:M.nm.length<=100000:=by lia
 change (M.nm.map λx=>T.own<|(BN M.ws M.rs x).map Aw)=V;unfold O7 Sv
 simp![-BQ,JW,a,Av _ a,o,AX,AV,À,l1,e]
abbrev Qv:Stmt:=top 64
def Pd:AG:=
 (JL 1 (AA 2)<|BI AE)
def MI:AG:=
 (A8 (m2 Au (Ax BU B7 4<|AA 4)<|mC<|.str "") (AF (AS (BV<|AB (AA 3)<|AB (Ax BU B7 1<|AA 4)<|AB (AN GS<|AB (AA 0)<|AB (Bm BU B7 KG (AA 4) AE) AE)<|AB (AN O9<|AB (AA 0)<|AB (AA 4) AE) AE)<|AD 5)
 (K6 1 (Ax BU B7 0<|AA 4)<|AA 5)) A7)
def T8:AG:=
 (AF (CU 1 IU)
 (AF (BE (Aq<|Bm Al An GU (AA 0) AE) (AD 2) Pd)
 (AF (BE (EH<|AB (Bm Al An KC (AA 0) AE) AE) (Ad 2<|AH (AD 3)<|AH (AD 4) Ah) MI)
 (AO<|AA 1))))
def Ol:qB->Option Ru:=AW 1 6 T8
abbrev iJ:=fA 6 1 Qv Ol
abbrev zcb:Gx:={ Bz with cl:=[("Door",BU,B7)],mt:=[("rooms",Al,An,Jj),("doors",Al,An,Uy),("asks",BU,B7,VF)] }
abbrev zcm:Gm:=gA Qv 5 [("placed",LN),("nought_places",gQ)] ["enumerate"] ["told"] (ox:=zcb) (dc:=["told"])
theorem zcy:Ck zcm iJ Qv T8:={}
abbrev gK(ws:ki)(d:Dr):List<|Nat×Nat×Int:=d.g.map<|BY ws
def Ct(ws:ki)(p:Nat×Dr):T:=.tup [.int (p.1:Nat),.str p.2.e,.lst<|(gK ws p.2).map Aw,.lst<|E8<|As ws p.2.n]
def Bj(x:Str):Nat->ku->List (Nat×Dr)
 |ϊ,[]=>[]|k,d::l=>(if d.z=Str.ofString ""/\d.s=x then [(k,d)] else [])++Bj x (k+1) l
def Wj(x:Str)(b:ku):∀(a:ku) (k:Nat),Bj x k (a++b)=Bj x k a++Bj x (k+a.length) b
 |[],k=>rfl|d::a,k=>by
  rw[ō];unfold Bj;rw[Wj x b a<|k+1,ø,show k+1+a.length=k+(d::a).length by rw[ì];lia];cases b<;>rfl
def KN{x:Str}{p:Nat×Dr}:∀{l:ku} {k:Nat},p∈Bj x k l->p.2∈l
 |[],ϊ,h=>by cases h|d::l,k,h=>by
  unfold Bj at h;rcases ß.mp h with h|h;split at h;rw[Ï.mp h];exact .head _;cases h;exact .tail _<|KN h
def PZ(x:Str):∀(l:ku) (k:Nat),(Bj x k l).length<=l.length
 |[],ϊ=>Æ _|d::l,k=>by
  unfold Bj;rw[ë,ì];have:=PZ x l<|k+1;split<;>simp<;>lia
def PY(ws:ki)(p:Nat×Dr):(Ct ws p).sh=true:=by
 have a:=Sf<|As ws p.2.n;have b:=Gf<|gK ws p.2;unfold Ct;change E8 (As ws p.2.n)=A;change (gK ws p.2).map Aw=B
 simp![a,b]
def zk5{s:Str}{A:Str->qB}{w:T}{l:ki}{j:Nat}{hj:j<l.length}(a:l[j]=s)(nd:l.Nodup):(l.map λx=>T.own<|A x).set j (.own<|A s++[w])=l.map λx=>.own (A x++if s=x then [w] else []):=by
 refine List.ext_getElem (by simp) λi b c=>?_;rw[Ļ];by_cases q:i=j;subst q;rw[List.getElem_set_self,if_pos a.symm,a];rw[List.getElem_set_ne<|Í q,Ļ,if_neg λz=>q<|(Ą nd).mp (z.symm.trans a.symm),Þ]
def zmh(d:Dr):BQ BU B7 (BF d)=↑[.str d.s,.str d.e,.lst d.g,.lst<|d.n.map T.str,.str d.z]:=(show BQ BU B7 (BF d)=(if BU=BU/\B7=B7 then ↑[.str d.s,.str d.e,.lst d.g,.lst<|d.n.map T.str,.str d.z] else none) from rfl).trans (if_pos {(rfl),rfl})
def CQ(M:Mc)(i:Nat):qB:=M.nm.map λx=>.own<|(Bj x 0<|M.ds.take i).map (Ct M.ws)
def zhb{M:Mc}{i:Nat}(a:i<M.ds.length):CQ M (i+1)=M.nm.map λx=>.own ((Bj x 0<|M.ds.take i).map (Ct M.ws)++if M.ds[i].z=Str.ofString ""/\M.ds[i].s=x then [Ct M.ws (i,M.ds[i])] else []):=by
 unfold CQ;refine Ă λx ϊ=>?_;rw[ņ a,Wj,á,ù,Nat.min_eq_left<|by lia]
 congr 2
 unfold Bj;split;unfold Bj;rw[Nat.zero_add];rfl;rfl
def do_ok{M:Mc}(h:McOk M):Ol [Ay M]=↑(.ok<|.osd M.nm<|CQ M M.ds.length):=by
 have k:=H9 h;have nd:M.nm.Nodup:=h.r.nd;have l64:=h.r.l64;have dl:=h.dl;have S:M.nm.length=M.rs.length:=À _;have K:GU [Ay M]=↑(.ok<|.own<|M.nm.map T.str):=Kn h;have md:KC [Ay M]=↑(.ok<|.own<|M.ds.map BF):=cY h;have sd:=h.sd
 let(Y,e,y,rfl):=Du (b:=AD 2) (body:=Pd) (ts:=M.nm.map T.str) (Y:=[↑(Ay M),↑(.osd [] []),none,none,none,none]) (λi Y=>∃y,Y=[↑(Ay M),↑(.osd (M.nm.take i)<|(M.nm.take i).map λϊ=>.own []),y,none,none,none]) {(none),rfl} λi t Y c r=>by
  let(y,rfl):=r;have d:i<M.nm.length:=by simpa using (Î.mp c).1
  rw[È,Á d]at c;have p:=(Û c).symm;subst p
  have O:M.nm[i]∉M.nm.take i:=λz=>by
   let(j,g,e):=List.mem_take_iff_getElem.mp z;have:=(Ą nd).mp e
   lia
  have lk:(M.nm.take i).length<100000:=by rw[ù];lia
  refine{[↑(Ay M),↑(.osd (M.nm.take i)<|(M.nm.take i).map λϊ=>.own []),↑(.str M.nm[i]),none,none,none],by simp![],[↑(Ay M),↑(.osd (M.nm.take i++[M.nm[i]])<|(M.nm.take i).map (λϊ=>.own [])++[.own []]),↑(.str M.nm[i]),none,none,none],?_,↑(.str M.nm[i]),?_};unfold Pd;change M.nm[i]=x;change M.nm.take i=l
  simp![ŭ,Ů,O,lk,not_false_eq_true]
  rw[ņ d,á];rfl
 rw[À,ĝ,show(M.nm.map λϊ=>T.own [])=CQ M 0 by unfold CQ;rw[œ];rfl]at e;have l1:M.nm.length<=100000:=by lia
 have l2:M.ds.length<=100000:=by lia
 let(Y,B,m,n,f,rfl):=Du (b:=Ad 2<|AH (AD 3)<|AH (AD 4) Ah) (body:=MI) (ts:=Ez 0<|M.ds.map BF) (Y:=[↑(Ay M),↑(.osd M.nm<|CQ M 0),y,none,none,none]) (λi Y=>∃m n f,Y=[↑(Ay M),↑(.osd M.nm<|CQ M i),y,m,n,f]) {_,_,_,rfl} λi t Y c r=>by
  let(m,n,f,rfl):=r
  have d:i<M.ds.length:=by
   have:=(Î.mp c).1;rw[OE,À]at this;exact this
  have hd:=Ò d;rw[VJ _ 0 i (BF M.ds[i]) (by rw[È,Á d];rfl),Nat.zero_add]at c;have p:=(Û c).symm;subst p;have ws:=zhb d;have D:=h.d _ hd;have a:(BF M.ds[i]).sh=true:=OH D;have s:A3 M.ds[i].g=true:=D.g.sh
  have Q:GS [Ay M,.lst M.ds[i].g]=↑(.ok<|.own<|(gK M.ws M.ds[i]).map Aw):=by
   unfold gK;rw[<- SO D.g];exact Ke h D.g (λϊ h=>h) D.gl
  have P:=np_ok h hd;have H:KG [BF M.ds[i]]=↑(.ok<|.own M.ds[i].g):=j4 s;let(j,I,g,v):=Gn (ws:=M.nm) (x:=M.ds[i].s) D.s;have o:Au (.str M.ds[i].z) (.str "")=↑(.bl<|decide (M.ds[i].z=Str.ofString "")):=GK (zna D.z) VL;have u:=zmh M.ds[i]
  have F:Ad 2 (AH (AD 3)<|AH (AD 4) Ah) (.tup [.int (i:Nat),BF M.ds[i]]) [↑(Ay M),↑(.osd M.nm<|CQ M i),y,m,n,f]=↑[↑(Ay M),↑(.osd M.nm<|CQ M i),y,↑(.int (i:Nat)),↑(BF M.ds[i]),f]:=by
   change BF M.ds[i]=DD
   simp![a,Av _ a]
  refine{_,F,?_};by_cases z:M.ds[i].z=Str.ofString "";rw[Ç z]at o
  have ow:HP (CQ M i) j=↑((Bj M.ds[i].s 0<|M.ds.take i).map (Ct M.ws)):=by
   unfold HP CQ;rw[È,Á g,v];rfl
  have J:((Bj M.ds[i].s 0<|M.ds.take i).map (Ct M.ws)).length<100000:=by
   have:=PZ M.ds[i].s (M.ds.take i) 0;rw[ù]at this;rw[À];lia
  have R:=zk5 (A:=λx=>(Bj x 0<|M.ds.take i).map (Ct M.ws)) (w:=Ct M.ws (i,M.ds[i])) (hj:=g) v nd
  have ws:CQ M (i+1)=(CQ M i).set j (.own<|(Bj M.ds[i].s 0<|M.ds.take i).map (Ct M.ws)++[Ct M.ws (i,M.ds[i])]):=by
   rw[ws];unfold CQ;refine(Ă λx ϊ=>?_).trans R.symm;erw[eq_true z,true_and]
  have E:=Sf<|As M.ws M.ds[i].n;have C:=Gf<|gK M.ws M.ds[i];refine{[↑(Ay M),↑(.osd M.nm<|CQ M<|i+1),y,↑(.int (i:Nat)),↑(BF M.ds[i]),↑(Ct M.ws (i,M.ds[i]))],?_,_,_,_,rfl};rw[ws];change (Bj M.ds[i].s 0<|M.ds.take i).map (Ct M.ws)=WL;unfold Ct;unfold MI;simp only at *;change E8 (As M.ws M.ds[i].n)=N;change (gK M.ws M.ds[i]).map Aw=G;change BF M.ds[i]=DD;change M.ds[i].g=DG;change CQ M i=L
  simp![-BQ,-HP,JW,u,k,Av _ k,a,Av _ a,o,H,s,AK _ s,Q,P,E,AK _ E,C,AK _ C,I,ow,J,ŭ,Ů]
  rw[Õ z]at o
  have ws:CQ M (i+1)=CQ M i:=by
   rw[ws];unfold CQ;refine Ă λx ϊ=>?_;rw[if_neg<|λq=>z q.1,Þ]
  refine{[↑(Ay M),↑(.osd M.nm<|CQ M i),y,↑(.int (i:Nat)),↑(BF M.ds[i]),f],?_,_,_,_,by rw[ws]};unfold MI;change BF M.ds[i]=DD;change CQ M i=L
  simp![-BQ,u,a,Av _ a,o]
 rw[OE,À]at B;change CQ M M.ds.length=L2;change CQ M 0=L0;unfold Ol T8;change M.ds.map BF=DS
 simp![-BQ,JW,k,Av _ k,K,md,AX,AV,sd,AK _ sd,À,l1,e,EH,B]
abbrev Qm:Stmt:=top 68
def Pc:AG:=
 (A8 (Bg (m2 Au (AJ (AA 2)<|mC<|.int 0)<|AJ (AA 1)<|mC<|.int 0)<|AN Ij<|AB (AJ (AA 1)<|mC<|.int 1)<|AB (AJ (AA 2)<|mC<|.int 1) AE) (AO<|mC<|.bl true) A7)
def TZ:AG:=
 (AF (BE (Gq<|AB (AA 0) AE) (AD 2) Pc)
 (AO<|mC<|.bl false))
def Of:qB->Option Ru:=AW 2 3 TZ
abbrev iC:=fA 3 2 Qm Of
abbrev zbv:Gm:=gA Qm 2 [("within",gG)] ["reversed"]
theorem zc1:Ck zbv iC Qm TZ:={}
structure Nd where
 r:Str
 z:Db.Z
 p:Option Nat
 k:Option Nat
def Bk:Option Nat->T
 |some i=>.int (i:Int)|none=>.non
def AL(m:Nat)(n:Nd):T:=.tup [.str n.r,zT (m+1) n.z,Bk n.p,Bk n.k]
def E6(o:Option Nat):(Bk o).sh=true:=by cases o<;>rfl
def Gb(m:Nat)(n:Nd):(AL m n).sh=true:=by
 have a:=E6 n.p;have b:=E6 n.k;have c:=Dy (n:=m+1) (f:=n.z);unfold AL;change Bk n.p=P;change Bk n.k=K;change zT (m+1) n.z=Z
 simp![a,b,c]
def Eu(m:Nat)(L:List Nd):A3 (L.map<|AL m)=true:=EM λn ϊ=>Gb m n
def EX(m:Nat)(L:List Nd)(n:Nd):Bool:=L.any λo=>decide (o.r=n.r) && HD (m+1) n.z o.z
def Ui{α:Type}{b:T->AM->Option AM}{body:AG}(f:α->T)(p:α->Bool)(a:T)(I:AM->Prop):∀(L:List α) (Y:AM),I Y->(∀x∈L,∀Y,I Y->∃τ1,b (f x) Y=↑τ1/\(p x=false->∃τ2,body τ1=↑(.nx τ2)/\I τ2)/\(p x=true->body τ1=↑(.rt a)))->(L.any p=false->∃Y',Ar b body (L.map f) Y=↑(.nx Y')/\I Y')/\(L.any p=true->Ar b body (L.map f) Y=↑(.rt a))
 |[],Y,h,ϊ=>{λϊ=>{(Y),rfl,h},λz=>by cases z}|x::L,Y,h,d=>by
  let(τ1,e,i,j):=d x (Ë ..) Y h;rw[Ù,Į];unfold Ar;rw[e];cases c:p x with
  |true=>simp[j c]|false=>let(τ2,g,l):=i c;erw[g,Ŵ];exact Ui f p a I L τ2 l λy k=>d y<|Ê _ k
def zq5{m:Nat}{L:List Nd}{n:Nd}(A:L.length<=100000)(y:∀o∈L,PyData.strOk o.r=true)(B:PyData.strOk n.r=true):Of [.lst<|L.map<|AL m,AL m n]=↑(.ok<|.bl<|EX m L n):=by
 have l:=Eu m L;have r:=AK _ l;have p:=Gb m n;have en:=Av _ p
 have g:=Ui (b:=AD 2) (body:=Pc) (AL m) (λo=>decide (o.r=n.r) && HD (m+1) n.z o.z) (.bl true) (λY=>∃x,Y=[↑(.lst<|L.map<|AL m),↑(AL m n),x]) L.reverse [↑(.lst<|L.map<|AL m),↑(AL m n),none] {(none),rfl} λo C Y w=>by
  let(x,rfl):=w;have q:=zmu (n:=m+1) n.z o.z;have s:=GK (y o<|List.mem_reverse.mp C) B;have d:=Dy (m+1) n.z;have f:=Dy (m+1) o.z;have f1:=Av _ d;have f2:=Av _ f;have h:=E6 n.p;have i:=E6 n.k;have j:=E6 o.p;have k:=E6 o.k;refine{[↑(.lst<|L.map<|AL m),↑(AL m n),↑(AL m o)],rfl,?_};change L.map (AL m)=LT;change HD (m+1) n.z o.z=bb;unfold AL at *;change zT (m+1) n.z=Z1;change zT (m+1) o.z=Z2;change Bk n.p=P1;change Bk n.k=P2;change Bk o.p=P3;change Bk o.k=P4;unfold Pc
  by_cases c:o.r=n.r;have a:Au (.str o.r) (.str n.r)=↑(.bl true):=by rw[s,Ç c]
  rw[Ç c,Ŷ];cases bb with
  |true=>exact{λz=>(by cases z),λϊ=>by simp![h,i,j,k,d,f,f1,f2,a,q]}|false=>exact{λϊ=>{_,by simp![h,i,j,k,d,f,f1,f2,a,q];rfl,_,rfl},λz=>by cases z}
  have a:Au (.str o.r) (.str n.r)=↑(.bl false):=by rw[s,Õ c]
  rw[Õ c,Ĭ];exact{λϊ=>{_,by simp![h,i,j,k,d,f,f1,f2,a,q];rfl,_,rfl},λz=>by cases z}
 have v:L.reverse.any (λo=>decide (o.r=n.r) && HD (m+1) n.z o.z)=EX m L n:=List.any_reverse;rw[v]at g;have u:(L.map<|AL m).reverse=L.reverse.map (AL m):=List.map_reverse.symm;have t:(L.map<|AL m).length<=100000:=by rw[À];exact A
 unfold Of TZ;cases c:EX m L n with
 |true=>
  have e:=g.2 c;rw[<- u]at e;change L.map (AL m)=LT;change AL m n=NT
  simp![Gq,l,r,p,en,t,e]
 |false=>
  let(D,e,x,rfl):=g.1 c;rw[<- u]at e;change L.map (AL m)=LT;change AL m n=NT
  simp![Gq,l,r,p,en,t,e]
abbrev RM:Stmt:=By 66 1
def NZ:AG:=
 (AF (AS (Ew (Cj (Ax Al An 1<|AA 0)<|Ax Ak Am 3<|AA 0)<|AA 1)<|AD 3)
 (AF (AS (AN Ef<|AB (AA 2)<|AB (AA 3) AE)<|AD 4)
 (AF (A8 (m2 (BD false) (AA 4)<|mC .non) (AO<|mC .non) A7)
 (AF (AS (AN Oj<|AB (AN Ef<|AB (AN O6<|AB (AA 4) AE)<|AB (AA 3) AE)<|AB (Ax Ak Am 1<|AA 0) AE)<|AD 5)
 (AF (A8 (m2 (BD false) (Ax Ak Am 5<|AA 0)<|mC .non) (AO<|AA 5) A7)
 (AO<|AN lO<|AB (AA 5)<|AB (Ax Ak Am 5<|AA 0) AE))))))
def Im:qB->Option Ru:=AW 3 6 NZ
abbrev Uu:=fA 5 3 RM Im
abbrev zay:Gx:={ Bz with cl:=[("Machine",Al,An),("Walk",Ak,Am)] }
abbrev zb4:Gm:=gA RM 4 [("met",Nv),("folded",iI),("waited",gH),("freed",iF)] [] (ox:=zay)
theorem zbb:Ck zb4 Uu RM NZ:={}
def HI{k n:Nat}{u:AG}{ts:qB}{t:T}(hk:ts.length=k)(h:u (ts.map some++List.replicate (n - ts.length) none)=↑(.rt t)):AW k n u ts=↑(.ok t):=by
 unfold AW JO;lia
def Fx(M:Mc)(x:Str):T:=.lst<|(BN M.ws M.rs x).map Aw
def Fd(M:Mc)(x:Str):T:=.lst<|(Bj x 0 M.ds).map (Ct M.ws)
def FE(M:Mc)(mk:qB)(mo:Nat->Db.B):qB:=[.lst mk,rT M.ws.length mo,.str<|M.nm.headD "",.obj (.sdc M.nm)<|M.nm.map<|Fx M,.obj (.sdc M.nm)<|M.nm.map<|Fd M,.non]
def Hx(M:Mc)(mk:qB)(mo:Nat->Db.B):T:=.obj (.ins Ak Am)<|FE M mk mo
def Xh(M:Mc)(x:Str):(Fx M x).sh=true:=by
 have:=Gf<|BN M.ws M.rs x;unfold Fx;change (BN M.ws M.rs x).map Aw=L
 simp![this]
def Xg(M:Mc)(x:Str):(Fd M x).sh=true:=by
 have:A3 ((Bj x 0 M.ds).map (Ct M.ws))=true:=EM λp ϊ=>PY _ p;unfold Fd;change (Bj x 0 M.ds).map (Ct M.ws)=L
 simp![this]
structure WkK(M:Mc)(mk:qB)(mo:Nat->Db.B)(S:T):Prop where
 i:BQ Ak Am S=↑(FE M mk mo)
 n:BQ Al An S=none
 s:S.sh=true
 k:A3 mk=true
 o:(rT M.ws.length mo).sh=true
 t:A3 (M.nm.map<|Fx M)=true
 w:A3 (M.nm.map<|Fd M)=true
def YV(m:Nat)(mo:Nat->Db.B):(rT m mo).sh=true:=by
 have:A3 (mT m λi=>bT<|mo i)=true:=Fe λi=>L4 _;show((!false) && A3 (mT m λi=>bT<|mo i))=true;rw[this];rfl
def wkK(M:Mc){mk:qB}(hk:A3 mk=true)(mo:Nat->Db.B):WkK M mk mo<|Hx M mk mo:=by
 have a:=YV M.ws.length mo;have b:A3 (M.nm.map<|Fx M)=true:=EM λx ϊ=>Xh M x
 have c:A3 (M.nm.map<|Fd M)=true:=EM λx ϊ=>Xg M x
 refine{(show BQ Ak Am (Hx M mk mo)=(if Ak=Ak/\Am=Am then ↑(FE M mk mo) else none) from rfl).trans (if_pos {(rfl),rfl}),(show BQ Al An (Hx M mk mo)=(if Ak=Al/\Am=An then ↑(FE M mk mo) else none) from rfl).trans (if_neg λz=>by
  have:=z.1;revert this
  decide),?_,hk,a,b,c}
 unfold Hx FE;change rT M.ws.length mo=A;change M.nm.map (Fx M)=B;change M.nm.map (Fd M)=C
 simp![a,b,c,hk]
def fN{m mk:AI}{Y:AM}{a:ki}{f:Str->T}{r:Str}{b b2:Bool}(g:m Y=↑(.v (.obj (.sdc a)<|a.map f) b))(h:mk Y=↑(.v (.str r) b2))(l:r∈a)(i:(f r).sh=true):Ew m mk Y=↑(.v (f r) false):=by
 let(j,d,k,e):=Gn l;have c:(a.map f)[j]?=↑(f r):=by rw[È,Á k,e];rfl
 unfold Ew;erw[g,h,d,c,i,Ä]
section
variable {M:Mc}{mk:qB}{mo:Nat->Db.B}{S:T}(k:WkK M mk mo S)
include k
def WkK.f0{Y:AM}{m:AI}{b:Bool}(e:m Y=↑(.v S b)):Ax Ak Am 0 m Y=↑(.v (.lst mk) false):=by simp![-BQ,e,k.i,FE,k.k]
def WkK.f1{Y:AM}{m:AI}{b:Bool}(e:m Y=↑(.v S b)):Ax Ak Am 1 m Y=↑(.v (rT M.ws.length mo) false):=by
 have o:=k.o;have i:=k.i;unfold FE at i;change rT M.ws.length mo=A
 simp![-BQ,e,i,o]
def WkK.f2{Y:AM}{m:AI}{b:Bool}(e:m Y=↑(.v S b)):Ax Ak Am 2 m Y=↑(.v (.str<|M.nm.headD "") false):=by simp![-BQ,e,k.i,FE]
def WkK.f3{Y:AM}{m:AI}{b:Bool}(e:m Y=↑(.v S b)):Cj (Ax Al An 1 m) (Ax Ak Am 3 m) Y=↑(.v (.obj (.sdc M.nm)<|M.nm.map<|Fx M) false):=by simp![-BQ,e,k.i,k.n,FE,k.t]
def WkK.f4{Y:AM}{m:AI}{b:Bool}(e:m Y=↑(.v S b)):Ax Ak Am 4 m Y=↑(.v (.obj (.sdc M.nm)<|M.nm.map<|Fd M) false):=by simp![-BQ,e,k.i,FE,k.w]
def WkK.f5{Y:AM}{m:AI}{b:Bool}(e:m Y=↑(.v S b)):Ax Ak Am 5 m Y=↑(.v .non false):=by simp![-BQ,e,k.i,FE]
end
def Wp{m:Nat}{L:List<|Nat×Nat×Int}(a:Fq m L){f h:Db.Z}(l:Db.Nar (m+1) f)(e:DL L f=↑h):∃g,DL L (Dm.wtd h)=↑g/\Db.Nar (m+1) g/\Dk.Und (m+1) h g:=by
 let(b,_,d,_):=(Dk.met_ok _ f l<|J4 a).1 h e;have k:=Dm.wtd_nar b;have u:Dk.Und (m+1) h<|Dm.wtd h:=λi j ϊ ϊ=>Dm.wtd_le h i j
 cases c:DL L (Dm.wtd h) with
 |none=>exact((Dk.met_ok _ _ k<|J4 a).2 c h b u d).elim|some g=>let(n,_,_,w):=(Dk.met_ok _ _ k<|J4 a).1 g c;exact{g,rfl,n,w h b u d}
def zgd{m:Nat}{g:Db.Z}(n:Db.Nar (m+1) g)(mo:Nat->Db.B):Db.Sound (m+1)<|Db.fld g<|Db.zm mo:=by
 let(h,v):=Dv.low_feas n<|by lia
 let(q,s,c):=Dv.vals_of n h (u:=((m+1:Nat):Int))<|ó _;generalize t:(λi=>Dv.low g i * ((m+1:Nat):Int)+q i)=w at *
 have f:(0:Int)<((m+1:Nat):Int):=by lia
 refine Db.lie_sound (D:=((m+1:Nat):Int)) (X:=λk=>w k - w 0) f (Int.sub_self _) (λk hk=>?_) λi j p r=>?_;have a:=n.row k hk;have b:=c 0 k (by lia) hk
 cases e:g 0 k with
 |none=>rw[e]at a;exact a.elim|some d=>
  rw[e]at a b;have l:d<=1:=a;have o:w 0 - w k<=d / 2 * ((m+1:Nat):Int) - 1+d % 2:=b;have:d / 2 * ((m+1:Nat):Int)<=0:=Ε (by lia)<|by lia
  show 0<=w k - w 0;lia
 have:=Db.sat_le f (c i j p r)<|Db.fld_le g (Db.zm mo) i j
 rwa[show w i - w 0 - (w j - w 0)=w i - w j by lia]
def DR(M:Mc)(mo:Nat->Db.B)(x:Str)(f:Db.Z):Option Db.Z:=(DL (BN M.ws M.rs x) f).bind λh=>(DL (BN M.ws M.rs x)<|Dm.wtd h).bind λg=>HU (M.ws.length+1)<|Db.fld g<|Db.zm mo
def lE{M:Mc}(h:McOk M){mk:qB}{mo:Nat->Db.B}{S:T}(k:WkK M mk mo S){r:Str}(G:r∈M.nm){f:Db.Z}(u:Db.Nar (M.ws.length+1) f):Im [S,.str r,zT (M.ws.length+1) f]=↑(.ok<|oT (M.ws.length+1)<|DR M mo r f):=by
 have N:=h.wl;have B:=k.s;have L:=Av _ B;have w:=Dy (M.ws.length+1) f;have z:=Av _ w;have q:=K3 h r;have mt:=NK (m:=M.ws.length) (by lia) u q
 have b:=Gf<|BN M.ws M.rs r;have d:=AK _ b;have y:∀n o p,AA 0 [↑S,↑(.str r),↑(zT (M.ws.length+1) f),n,o,p]=↑(.v S false):=λϊ ϊ ϊ=>by simp![B]
 have J:AA 1 [↑S,↑(.str r),↑(zT (M.ws.length+1) f),none,none,none]=↑(.v (.str r) false):=by simp![]
 have g2:=fN (k.f3<|y none none none) J G<|Xh M r;unfold Fx at g2;unfold Im;refine HI rfl ?_;show NZ [↑S,↑(.str r),↑(zT (M.ws.length+1) f),none,none,none]=_;unfold NZ;unfold DR;cases c:DL (BN M.ws M.rs r) f with
 |none=>
  rw[c]at mt;have a:Ef [zT (M.ws.length+1) f,.lst<|(BN M.ws M.rs r).map Aw]=↑(.ok .non):=mt;change (BN M.ws M.rs r).map Aw=SL;refine sq (by simp![-Ew,g2,b,d];rfl)<|sq (by simp![w,z,b,d,a];rfl)<|sr ?_
  simp![]
  rfl
 |some hh=>
  rw[c]at mt;let(g,A,O,_):=Wp q u c;have I:=NL u q c;have K:=zmw (m:=M.ws.length) (by lia) hh
  have e:(T.own<|oZ (M.ws.length+1)<|Dm.wtd hh).share=zT (M.ws.length+1) (Dm.wtd hh):=by rw[T.share,SW]
  have j:=NK (m:=M.ws.length) (by lia) (Dm.wtd_nar I) q;rw[A]at j;have fo:=fo_ok (m:=M.ws.length) (by lia) g mo
  rw[zpa<|by lia]at fo;rw[Ď,A,Ď];have a:Ef [zT (M.ws.length+1) f,.lst<|(BN M.ws M.rs r).map Aw]=↑(.ok<|zT (M.ws.length+1) hh):=mt;have l:Ef [zT (M.ws.length+1)<|Dm.wtd hh,.lst<|(BN M.ws M.rs r).map Aw]=↑(.ok<|zT (M.ws.length+1) g):=j;have sh:=Dy (M.ws.length+1) hh;have t:=Av _ sh;have D:=Dy (M.ws.length+1)<|Dm.wtd hh;have F:=Av _ D;have C:=Dy (M.ws.length+1) g;have s:=Av _ C;have x:=HS (M.ws.length+1)<|HU (M.ws.length+1)<|Db.fld g<|Db.zm mo;have E:=Av _ x;have H:BD false (zT (M.ws.length+1) hh) .non=↑(.bl false):=Ki (M.ws.length+1) ↑hh false;have f1:=λn o p=>k.f1<|y n o p
  have f5:=λn o p=>k.f5<|y n o p
  have i:=k.o;have v:=Av _ i;change oT (M.ws.length+1) (HU (M.ws.length+1)<|Db.fld g<|Db.zm mo)=OT;change T.own (oZ (M.ws.length+1)<|Dm.wtd hh)=OW;change zT (M.ws.length+1) (Dm.wtd hh)=ZW;change zT (M.ws.length+1) hh=ZH;change zT (M.ws.length+1) g=ZG;change zT (M.ws.length+1) f=ZF;change rT M.ws.length mo=MO;change (BN M.ws M.rs r).map Aw=SL;refine sq (by simp![-Ew,g2,b,d];rfl)<|sq (by simp![w,z,b,d,a,sh,t];rfl)<|Di (by simp![-BD,sh,t,H]) ?_
  refine sq (by simp![-Ax,f1,sh,t,K,e,D,F,b,d,l,C,s,i,v,fo,x,E];rfl)<|sr ?_
  simp![-Ax,f5,x]
abbrev RL:Stmt:=By 66 2
def NY:AG:=
 (AF (AS (Bm Ak Am Im (AA 0)<|AB (Ax Ak Am 2<|AA 0)<|AB (AN Lc<|AB (m1 BO<|Ax Ak Am 1<|AA 0) AE) AE)<|AD 1)
 (AO<|EG (m2 (BD false) (AA 1)<|mC .non) (BI AE)<|BI<|BA (BV<|AB (Ax Ak Am 2<|AA 0)<|AB (AA 1)<|AB (mC .non)<|AB (mC .non) AE) AE))
def Lj:qB->Option Ru:=AW 1 2 NY
abbrev iS:=fA 6 1 RL Lj
abbrev za3:Gx:={ Bz with cl:=[("Walk",Ak,Am)],mt:=[("arrived",Ak,Am,Uu)] }
abbrev za4:Gm:=gA RL 5 [("nought",gR)] ["len"] (ox:=za3)
theorem za5:Ck za4 iS RL NY:={}
def b7{M:Mc}(h:McOk M):M.nm.headD ""∈M.nm:=by
 have l1:=h.r.l1;have b:M.nm.length=M.rs.length:=À _;cases e:M.nm with
 |nil=>rw[e,č]at b;lia|cons a r=>exact .head _
def nN:Db.Z:=λϊ ϊ=>↑1
theorem Sk(n:Nat):Db.Nar n nN:={λϊ ϊ=>rfl,λϊ ϊ=>ó _,λϊ ϊ ϊ ϊ ϊ ϊ=>ó _}
def C9(M:Mc)(mo:Nat->Db.B):List Nd:=match DR M mo (M.nm.headD "") nN with
 |some z=>[{M.nm.headD "",z,none,none}]|none=>[]
def zqe{M:Mc}(h:McOk M){mk:qB}{mo:Nat->Db.B}{S:T}(k:WkK M mk mo S):Lj [S]=↑(.ok<|.own<|(C9 M mo).map (AL M.ws.length)):=by
 have u:=h.wl;have g:=k.s;have q:=Av _ g;have no:Lc [.int (M.ws.length:Int)]=_:=zpe (m:=M.ws.length)<|by lia
 have e:(T.own<|mT (M.ws.length+1) λϊ=>T.own<|mT (M.ws.length+1) λϊ=>T.int 1).share=zT (M.ws.length+1) nN:=by
  show(T.own<|oZ (M.ws.length+1) nN).share=_;rw[T.share,SW]
 have f:=lE h k (b7 h)<|Sk<|M.ws.length+1;have t:∀d,AA 0 [↑S,d]=↑(.v S false):=λϊ=>by simp![g]
 have f1:=λd=>k.f1<|t d
 have f2:=λd=>k.f2<|t d
 have le:BO (rT M.ws.length mo)=↑(.int (M.ws.length:Int)):=by
  show ↑(T.int ((mT M.ws.length λi=>bT<|mo i).length:Int))=_;rw[CI]
 have a:=k.o;have b:=Av _ a;have sz:=Dy (M.ws.length+1) nN;have r:=Av _ sz;have j:=HS (M.ws.length+1)<|DR M mo (M.nm.headD "") nN;have n:=Av _ j;have o:=Ki (M.ws.length+1) (DR M mo (M.nm.headD "") nN) false;have s:=k.i;unfold Lj;refine HI rfl ?_;show NY [↑S,none]=_;unfold NY C9;change (T.own<|mT (M.ws.length+1) λϊ=>T.own<|mT (M.ws.length+1) λϊ=>T.int 1)=NO
 change zT (M.ws.length+1) nN=ZN;change rT M.ws.length mo=MO;cases c:DR M mo (M.nm.headD "") nN with
 |none=>
  rw[c]at f o;have l:Im [S,.str<|M.nm.headD "",ZN]=↑(.ok .non):=f;refine sq (by simp![-Ax,-BQ,-BO,f1,f2,a,b,le,no,e,sz,r,g,q,s,l];rfl) ?_
  simp![]
 |some z=>
  rw[c]at f o j n;have p:BD false (oT (M.ws.length+1) ↑z) .non=↑(.bl false):=o;show _=↑(Out.rt<|.own [.tup [.str<|M.nm.headD "",oT (M.ws.length+1) ↑z,.non,.non]]);change oT (M.ws.length+1) ↑z=OT;refine sq (by simp![-Ax,-BQ,-BO,f1,f2,a,b,le,no,e,sz,r,g,q,s,f,j,n];rfl) ?_
  simp![-Ax,-BD,f2,j,n,p]
abbrev RI:Stmt:=By 66 3
def Iu:AG:=
 (AF (AS (AN Ef<|AB (AJ (AA 1)<|mC<|.int 1)<|AB (AA 6) AE)<|AD 8)
 (AF (A8 (m2 (BD true) (AA 8)<|mC .non) (AS (Bm Ak Am Im (AA 0)<|AB (AA 5)<|AB (AN La<|AB (AA 8)<|AB (AA 7) AE) AE)<|AD 8) A7)
 (A8 (m2 (BD true) (AA 8)<|mC .non) (Cb 3<|BV<|AB (AA 5)<|AB (AA 8)<|AB (AA 2)<|AB (AA 4) AE) A7)))
def NV:AG:=
 (AF (CU 3<|BI AE)
 (AF (BE (Aq<|Ew (Ax Ak Am 4<|AA 0)<|AJ (AA 1)<|mC<|.int 0) (Ad 4<|AH (AD 4)<|AH (AD 5)<|AH (AD 6)<|AH (AD 7) Ah) Iu)
 (AO<|AA 3)))
def Li:qB->Option Ru:=AW 3 9 NV
abbrev iQ:=fA 6 3 RI Li
abbrev za6:Gx:={ Bz with cl:=[("Walk",Ak,Am)],mt:=[("arrived",Ak,Am,Uu)] }
abbrev za9:Gm:=gA RI 5 [("met",Nv),("put_back",gJ)] [] ["told"] (ox:=za6)
theorem zac:Ck za9 iQ RI NV:={}
theorem Ye{m:Nat}{f:Db.Z}(a:Db.Nar (m+1) f)(ps:kq):Db.Nar (m+1)<|Dm.pbk f<|Ba ps:=Dm.pbk_nar a (λi b=>by unfold Ba;split<;>lia) (by unfold Ba;split<;>rfl)
def S6(M:Mc)(mo:Nat->Db.B)(f:Db.Z)(d:Dr):Option Db.Z:=(DL (gK M.ws d) f).bind λz=>DR M mo d.e<|Dm.pbk z<|Ba<|As M.ws d.n
def G9(M:Mc)(mo:Nat->Db.B)(f:Db.Z)(a:Nat)(p:Nat×Dr):Option Nd:=(S6 M mo f p.2).map λz=>{p.2.e,z,↑a,↑p.1}
def Fh(M:Mc)(mo:Nat->Db.B)(n:Nd)(a:Nat):List Nd:=(Bj n.r 0 M.ds).flatMap λp=>(G9 M mo n.z a p).toList
abbrev Kj(S N:T)(a:Nat)(A:qB)(b x5 c x7 d:kr):AM:=[↑S,↑N,↑(.int (a:Int)),↑(.own A),b,x5,c,x7,d]
def zi1{M:Mc}(h:McOk M){mk:qB}{mo:Nat->Db.B}{S:T}(k:WkK M mk mo S){n:Nd}(H:Db.Nar (M.ws.length+1) n.z){a:Nat}{p:Nat×Dr}(L:p.2∈M.ds){A:List Nd}(K:A.length<100000)(U:kr) :
  ∃y8,Iu (Kj S (AL M.ws.length n) a (A.map<|AL M.ws.length) (↑(.int (p.1:Nat))) (↑(.str p.2.e)) (↑(.lst<|(gK M.ws p.2).map Aw)) (↑(.lst<|E8<|As M.ws p.2.n)) U)=↑(.nx<|Kj S (AL M.ws.length n) a ((A++(G9 M mo n.z a p).toList).map (AL M.ws.length)) (↑(.int (p.1:Nat))) (↑(.str p.2.e)) (↑(.lst<|(gK M.ws p.2).map Aw)) (↑(.lst<|E8<|As M.ws p.2.n)) y8):=by
 have V:=h.wl;have x:=k.s;have C:=Av _ x;have D:=h.d _ L;have O:p.2.e∈M.nm:=D.e;have l:=Dy (M.ws.length+1) n.z;have s:=Av _ l;have F:Fq M.ws.length<|gK M.ws p.2:=JP D.g;have m1:=NK (m:=M.ws.length) (by lia) H F
 have o:=Gf<|gK M.ws p.2;have t:=AK _ o;have c:=Sf<|As M.ws p.2.n;have en:=AK _ c;have v:=E6 n.p;have w:=E6 n.k;have J:=k.i;have X:=Eu M.ws.length A;have P:(A.map<|AL M.ws.length).length<100000:=by rw[À];exact K
 unfold G9 S6;cases r:DL (gK M.ws p.2) n.z with
 |none=>
  rw[r]at m1;have m1:Ef [zT (M.ws.length+1) n.z,.lst<|(gK M.ws p.2).map Aw]=↑(.ok .non):=m1;rw[Option.bind_none,Option.map_none,Option.toList_none,Þ];refine{↑.non,?_};change A.map (AL M.ws.length)=AT;unfold AL;change zT (M.ws.length+1) n.z=Z;change (gK M.ws p.2).map Aw=G;change E8 (As M.ws p.2.n)=N;change Bk n.p=P1;change Bk n.k=P2;unfold Iu
  simp![v,w,l,s,o,t,c,en,m1]
 |some g=>
  rw[r]at m1;have Q:=NL H F r;have j:=pb_ok (n:=M.ws.length+1) (by lia) (by lia) g<|As M.ws p.2.n
  have R:=Ye Q<|As M.ws p.2.n;have e:(T.own<|oZ (M.ws.length+1)<|Dm.pbk g<|Ba<|As M.ws p.2.n).share=zT (M.ws.length+1) (Dm.pbk g<|Ba<|As M.ws p.2.n):=by rw[T.share,SW]
  have b:=lE h k O R;have y:=Dy (M.ws.length+1)<|Dm.pbk g<|Ba<|As M.ws p.2.n;have E:=Av _ y;have j:La [oT (M.ws.length+1) ↑g,.lst<|E8<|As M.ws p.2.n]=↑(.ok<|.own<|oZ (M.ws.length+1)<|Dm.pbk g<|Ba<|As M.ws p.2.n):=j;have d:=HS (M.ws.length+1) ↑g;have f:=Av _ d;have I:BD true (oT (M.ws.length+1) ↑g) .non=↑(.bl true):=Ki (M.ws.length+1) ↑g true;rw[Ď];have q:=HS (M.ws.length+1)<|DR M mo p.2.e<|Dm.pbk g<|Ba<|As M.ws p.2.n;have u:=Av _ q;have i:=Ki (M.ws.length+1) (DR M mo p.2.e<|Dm.pbk g<|Ba<|As M.ws p.2.n) true;change zT (M.ws.length+1) (Dm.pbk g<|Ba<|As M.ws p.2.n)=W;generalize T.own (oZ (M.ws.length+1)<|Dm.pbk g<|Ba<|As M.ws p.2.n)=σ at *;change oT (M.ws.length+1) ↑g=G1;cases B:DR M mo p.2.e (Dm.pbk g<|Ba<|As M.ws p.2.n) with
  |none=>
   rw[B]at b;have b:Im [S,.str p.2.e,W]=↑(.ok .non):=b;rw[Option.map_none,Option.toList_none,Þ];refine{↑.non,?_};change A.map (AL M.ws.length)=AT;unfold AL;change zT (M.ws.length+1) n.z=Z;change (gK M.ws p.2).map Aw=G;change E8 (As M.ws p.2.n)=N;change Bk n.p=P1;change Bk n.k=P2;unfold Iu;refine sq (by simp![v,w,l,s,o,t,c,en,m1,d,f];rfl)<|sq (by simp![-BD,-BQ,I,d,f,c,en,j,e,y,E,x,C,J,b];rfl) ?_
   simp![]
  |some z=>
   rw[B]at b i q u;have i:BD true (oT (M.ws.length+1) ↑z) .non=↑(.bl true):=i;refine{↑(oT (M.ws.length+1) ↑z),?_};rw[ă,Option.toList_some,á,show [({p.2.e,z,↑a,↑p.1}:Nd)].map (AL M.ws.length)=[.tup [.str p.2.e,oT (M.ws.length+1) ↑z,.int (a:Int),.int (p.1:Int)]] from rfl];change A.map (AL M.ws.length)=AT;unfold AL;change oT (M.ws.length+1) ↑z=OT;change zT (M.ws.length+1) n.z=Z;change (gK M.ws p.2).map Aw=G;change E8 (As M.ws p.2.n)=N;change Bk n.p=P1;change Bk n.k=P2;unfold Iu;refine sq (by simp![v,w,l,s,o,t,c,en,m1,d,f];rfl)<|sq (by simp![-BD,-BQ,I,d,f,c,en,j,e,y,E,x,C,J,b,q,u];rfl) ?_
   simp![-BD,i,q,u,P]
def zp8{M:Mc}(h:McOk M){mk:qB}{mo:Nat->Db.B}{S:T}(k:WkK M mk mo S){n:Nd}(t:n.r∈M.nm)(q:Db.Nar (M.ws.length+1) n.z)(a:Nat):Li [S,AL M.ws.length n,.int (a:Int)]=↑(.ok<|.own<|(Fh M mo n a).map (AL M.ws.length)):=by
 have j:=k.s;have F:=Av _ j;have y:=Gb M.ws.length n;have E:=Av _ y;have l1:=PZ n.r M.ds 0;have l2:=h.dl
 have J:(Fh M mo n a).length<=M.ds.length:=by
  refine Ú ?_ l1;unfold Fh;generalize Bj n.r 0 M.ds=L
  induction L with
  |nil=>exact Æ _|cons x r I=>
   rw[List.flatMap_cons,ë,ì];have:((G9 M mo n.z a x).toList).length<=1:=by cases G9 M mo n.z a x<;>simp
   lia
 let(D,e,d,f,g,i,c,rfl):=gC (b:=Ad 4<|AH (AD 4)<|AH (AD 5)<|AH (AD 6)<|AH (AD 7) Ah) (body:=Iu) (Ct M.ws) (λ(B:List Nd) Y=>∃d f g i c,Y=Kj S (AL M.ws.length n) a (B.map<|AL M.ws.length) d f g i c) (λp=>(G9 M mo n.z a p).toList) 99999 (Bj n.r 0 M.ds) [] (Kj S (AL M.ws.length n) a [] none none none none none) {_,_,_,_,_,rfl} (by
   show 0+(Fh M mo n a).length<=99999
   lia) λp s B Y o H=>by
  let(d,f,g,i,c,rfl):=o;let(K,e):=zi1 h k q (a:=a) (p:=p) (KN s) (A:=B) (by lia) c
  exact{_,by unfold Ct;change (gK M.ws p.2).map Aw=G;change E8 (As M.ws p.2.n)=N;simp![],_,e,_,_,_,_,_,rfl}
 rw[Ĺ]at e
 have gt:Ew (Ax Ak Am 4<|AA 0) (AJ (AA 1)<|mC<|.int 0) [↑S,↑(AL M.ws.length n),↑(.int (a:Int)),↑(.own []),none,none,none,none,none]=↑(.v (Fd M n.r) false):=by
  have C:AA 0 [↑S,↑(AL M.ws.length n),↑(.int (a:Int)),↑(.own []),none,none,none,none,none]=↑(.v S false):=by simp![j]
  refine fN (b2:=false) (k.f4 C) ?_ t<|Xg M n.r;have u:=Dy (M.ws.length+1) n.z;have v:=E6 n.p;have w:=E6 n.k;unfold AL;change zT (M.ws.length+1) n.z=Z;change Bk n.p=P1;change Bk n.k=P2
  simp![u,v,w]
 have l:A3 ((Bj n.r 0 M.ds).map (Ct M.ws))=true:=EM λp ϊ=>PY _ p;have m:=AK _ l;unfold Fd at gt;unfold Fh;unfold Li;refine HI rfl ?_;show NV [↑S,↑(AL M.ws.length n),↑(.int (a:Int)),none,none,none,none,none,none]=_;unfold NV;have z:=Eu M.ws.length<|(Bj n.r 0 M.ds).flatMap λp=>(G9 M mo n.z a p).toList
 unfold Kj at e;change ((Bj n.r 0 M.ds).flatMap λp=>(G9 M mo n.z a p).toList).map (AL M.ws.length)=RT;change (Bj n.r 0 M.ds).map (Ct M.ws)=WT;change AL M.ws.length n=NT;refine sq (by simp![];rfl)<|sq (by simp![-Ew,gt,l,m,e];rfl) ?_
 simp![z]
abbrev RK:Stmt:=By 66 4
def Nk:AI:=
 (m2 Au (AA 0)<|AJ (AA 2)<|mC<|.int 0)
def OP:AI:=
 (AN Ef<|AB (AJ (AA 2)<|mC<|.int 1)<|AB (AA 1) AE)
def Nj:AI:=
 (m2 (BD true) (AA 0)<|mC .non)
def OO:AI:=
 (AA 0)
def NX:AG:=
 (AF (AS (Az 2 [1] (Aq<|Ax Ak Am 0<|AA 0) (Ad 2<|AH (AD 0)<|AH (AD 1) Ah) Nk OP)<|AD 2)
 (AO<|Az 1 [] (Aq<|AA 2) (AD 0) Nj OO))
def Ov:qB->Option Ru:=AW 2 3 NX
abbrev iR:=fA 5 2 RK Ov
abbrev zae:Gx:={ Bz with cl:=[("Walk",Ak,Am)] }
abbrev zaf:Gm:=gA RK 4 [("met",Nv)] [] (ox:=zae)
theorem zag:Ck zaf iR RK NX:={}
abbrev Dd(k:Str×List (Nat×Nat×Int)):T:=.tup [.str k.1,.lst<|k.2.map Aw]
def Hv(m:Nat)(K:List<|Str×List (Nat×Nat×Int)):Prop:=∀k∈K,PyData.strOk k.1=true/\Fq m k.2
def EU(K:List<|Str×List (Nat×Nat×Int))(n:Nd):List<|Option Db.Z:=(K.filter λk=>decide (k.1=n.r)).map λk=>DL k.2 n.z
def Sq(K:List<|Str×List (Nat×Nat×Int)):A3 (K.map Dd)=true:=EM λk ϊ=>by
 have:=Gf k.2;show((!false) && (true && ((((!false) && A3 (k.2.map Aw))) && true)))=true;rw[this]
 rfl
def hz_ok{M:Mc}(h:McOk M){K:List<|Str×List (Nat×Nat×Int)}(i:Hv M.ws.length K)(J:K.length<=1000){mo:Nat->Db.B}{S:T}(k:WkK M (K.map Dd) mo S){n:Nd}(C:PyData.strOk n.r=true)(B:Db.Nar (M.ws.length+1) n.z):Ov [S,AL M.ws.length n]=↑(.ok<|.own<|((EU K n).filter Option.isSome).map (oT<|M.ws.length+1)):=by
 have H:=h.wl;have F:=k.s;have E:=Gb M.ws.length n;have g:=Dy (M.ws.length+1) n.z;have v:=Av _ g;have p:=E6 n.p;have r:=E6 n.k
 have Cq:CJ (Ad 2<|AH (AD 0)<|AH (AD 1) Ah) Nk OP (K.map Dd) [none,none,↑(AL M.ws.length n)]=↑((EU K n).map (oT<|M.ws.length+1)):=by
  have c:=UQ (b:=Ad 2<|AH (AD 0)<|AH (AD 1) Ah) (mt:=Nk) (me:=OP) Dd (λk=>oT (M.ws.length+1)<|DL k.2 n.z) (λk=>decide (k.1=n.r)) (λY=>∃x y,Y=[x,y,↑(AL M.ws.length n)]) K [none,none,↑(AL M.ws.length n)] {_,_,rfl} λq j Y d=>by
   let(x,y,rfl):=d;have A:=GK (i q j).1 C;have mt:=NK (m:=M.ws.length) (by lia) B (i q j).2
   have t:=Gf q.2;have w:=AK _ t;have a:=HS (M.ws.length+1)<|DL q.2 n.z;refine{[↑(.str q.1),↑(.lst<|q.2.map Aw),↑(AL M.ws.length n)],false,by unfold AL;change zT (M.ws.length+1) n.z=Z;change Bk n.p=P1;change Bk n.k=P2;simp![],?_,λϊ=>?_,_,_,rfl}
   unfold AL Nk;change q.2.map Aw=L;change zT (M.ws.length+1) n.z=Z;change Bk n.p=P1;change Bk n.k=P2;change decide (q.1=n.r)=bb
   simp![p,r,g,A]
   unfold AL OP;generalize oT (M.ws.length+1) (DL q.2 n.z)=σ at *;change q.2.map Aw=L;change zT (M.ws.length+1) n.z=Z;change Bk n.p=P1;change Bk n.k=P2
   simp![p,r,g,v,t,w,mt,a]
  rw[c];unfold EU;rw[è];rfl
 have Fm:CJ (AD 0) Nj OO ((EU K n).map (oT<|M.ws.length+1)) [none]=↑(((EU K n).filter Option.isSome).map (oT<|M.ws.length+1)):=
  UQ (b:=AD 0) (mt:=Nj) (me:=OO) (oT<|M.ws.length+1) (oT<|M.ws.length+1) Option.isSome (λY=>∃x,Y=[x]) (EU K n) [none] {_,rfl} λo I Y d=>by
   let(x,rfl):=d;have a:=HS (M.ws.length+1) o;have z:=Av _ a;have l:=Ki (M.ws.length+1) o true;have e:(true != o.isNone)=o.isSome:=by cases o<;>rfl
   rw[e]at l;refine{[↑(oT (M.ws.length+1) o)],false,rfl,?_,λϊ=>?_,_,rfl};unfold Nj;generalize oT (M.ws.length+1) o=σ at *
   simp![-BD,a,z,l]
   unfold OO;generalize oT (M.ws.length+1) o=σ at *
   simp![a]
 have s:=Sq K;have u:=AK _ s;have D:(K.map Dd).length<=100000:=by rw[À];lia
 have f:A3 ((EU K n).map (oT<|M.ws.length+1))=true:=EM λo ϊ=>HS _ o;have c:=AK _ f
 have l1:((EU K n).map (oT<|M.ws.length+1)).length<=100000:=by
  have:=List.length_filter_le (λk:Str×List (Nat×Nat×Int)=>decide (k.1=n.r)) K;unfold EU;rw[À,À];lia
 have G:∀x2,AA 0 [↑S,↑(AL M.ws.length n),x2]=↑(.v S false):=λϊ=>by simp![F]
 have f0:=λx2=>k.f0<|G x2
 unfold Ov;refine HI rfl ?_;show NX [↑S,↑(AL M.ws.length n),none]=_;unfold NX;change ((EU K n).filter Option.isSome).map (oT<|M.ws.length+1)=R2;change (EU K n).map (oT<|M.ws.length+1)=R1;change AL M.ws.length n=NT;change K.map Dd=KT;refine sq (by simp![-Ax,f0,s,u,D,E,Cq,f,c];rfl) ?_
 simp![f,c,l1,Fm]
abbrev RJ:Stmt:=By 66 5
def Tn:AG:=
 (AO<|m2 (Br λi j=>decide (j<i)) (m1 BO<|Bm Ak Am Ov (AA 0)<|AB (AA 1) AE)<|mC<|.int 0)
def Jz:qB->Option Ru:=AW 2 2 Tn
abbrev Ut:=fA 6 2 RJ Jz
abbrev zce:Gx:={ Bz with mt:=[("hit_zones",Ak,Am,iR)] }
abbrev zcp:Gm:=gA RJ 5 [] ["len"] (ox:=zce)
theorem zd1:Ck zcp Ut RJ Tn:={}
def C8(K:List<|Str×List (Nat×Nat×Int))(n:Nd):Bool:=K.any λk=>decide (k.1=n.r) && (DL k.2 n.z).isSome
def zq9(K:List<|Str×List (Nat×Nat×Int))(n:Nd):decide (0<(((EU K n).filter Option.isSome).length:Int))=C8 K n:=by
 unfold EU C8
 induction K with
 |nil=>rfl|cons q K a=>
  rw[Į,<- a,ż];by_cases c:q.1=n.r;rw[Ç c,if_pos rfl,Ù,ż];cases (DL q.2 n.z).isSome with
  |true=>rw[if_pos rfl,ì];simp|false=>simp
  rw[Õ c];simp
def U7{M:Mc}(h:McOk M){K:List<|Str×List (Nat×Nat×Int)}(i:Hv M.ws.length K)(q:K.length<=1000){mo:Nat->Db.B}{S:T}(k:WkK M (K.map Dd) mo S){n:Nd}(l:PyData.strOk n.r=true)(j:Db.Nar (M.ws.length+1) n.z):Jz [S,AL M.ws.length n]=↑(.ok<|.bl<|C8 K n):=by
 have m:=hz_ok h i q k l j;have c:=k.s;have g:=Av _ c;have b:=Gb M.ws.length n;have e:=Av _ b;have p:=k.i;have le:=zq9 K n;have a:A3 (((EU K n).filter Option.isSome).map (oT<|M.ws.length+1))=true:=EM λo ϊ=>HS _ o
 have d:=AK _ a;rw[<- À (f:=oT<|M.ws.length+1)]at le;unfold Jz Tn;change ((EU K n).filter Option.isSome).map (oT<|M.ws.length+1)=R2;change AL M.ws.length n=NT;change C8 K n=bb
 simp![-BQ,c,g,b,e,p,m,a,d,le]
abbrev Qa:Stmt:=top 67
def LY:AI:=
 (Bm Ak Am Jz (AA 1)<|AB (AA 0) AE)
def JE:AI:=
 (m2 (Br λi j=>decide (i<j)) (AA 4)<|m1 BO<|AA 3)
def FH:AG:=
 (AF (A8 (AN Of<|AB (AA 3)<|AB (AA 5) AE) Ml A7)
 (AF (A8 (m2 (Br λi j=>decide (j<=i)) (m1 BO<|AA 3)<|AA 1) (Cw "TooMany"<|AB (mC<|.str "the search would list more nodes than told") AE) A7)
 (AF (Cb 3<|AA 5)
 (A8 (Bg (AA 2)<|Bm Ak Am Jz (AA 0)<|AB (AA 5) AE) (AO<|AA 3) A7))))
def KQ:AG:=
 (AF (BE (Aq<|Bm Ak Am Li (AA 0)<|AB (AJ (AA 3)<|AA 4)<|AB (AA 4) AE) (AD 5) FH)
 (K8 4<|mC<|.int 1))
def JX:AG:=
 (AF (CU 3<|Bm Ak Am Lj (AA 0) AE)
 (AF (A8 (Ds 3<|Bg (AA 2)<|m1 Ii<|Az 1 [0] (Aq<|AA 3) (AD 0) (mC<|.bl true) LY) (AO<|AA 3) A7)
 (AF (AS (mC<|.int 0)<|AD 4)
 (AF (El JE KQ)
 (AO<|AA 3)))))
def Hr:qB->Option Ru:=AW 3 6 JX
abbrev gY:=fA 7 3 Qa Hr
abbrev zfx:Gx:={ Bz with mt:=[("first_nodes",Ak,Am,iS),("hits",Ak,Am,Ut),("next_nodes",Ak,Am,iQ)] }
abbrev zg2:Gm:=gA Qa 6 [("is_covered",iC)] ["any","len"] ["nodes"] (ex:=["TooMany"]) (ox:=zfx) (mv:=["nodes"]) (N:=["walk","most","ends","nodes","at","node"])
theorem zgn:Ck zg2 gY Qa JX:={}
def wh_ex{mc:AI}{body:AG}(I:AM->Prop)(Q:Out->Prop)(μ:AM->Nat){Y:AM}(f:I Y)(i:∀Y,I Y->(∃bb,mc Y=↑(.v (.bl true) bb)/\((∃τ2,body Y=↑(.nx τ2)/\I τ2/\μ τ2<μ Y)\/(∃t,body Y=↑(.rt t)/\Q (.rt t))\/∃c τ2,body Y=↑(.xc c τ2)/\Q (.xc c τ2)))\/∃bb,mc Y=↑(.v (.bl false) bb)/\Q (.nx Y)):∃o,El mc body Y=↑o/\Q o:=by
 have d:∀(n:Nat) (Y:AM),μ Y<n->I Y->∃o,DH mc body n Y=↑o/\Q o:=by
  intro n
  induction n with
  |zero=>intro Y h;exact absurd h (Nat.not_lt_zero _)|succ n k=>
   intro Y l g;unfold DH;rcases i Y g with ⟨bb,a,⟨τ2,b,j,l2⟩|⟨t,b,q⟩|⟨c,τ2,b,q⟩⟩|⟨bb,a,q⟩;erw[a,b];exact k τ2 (by lia) j;erw[a,b];exact{_,rfl,q};erw[a,b];exact{_,rfl,q};erw[a];exact{_,rfl,q}
 let(o,e,q):=d (μ Y+1) Y (by lia) f;exact{o,Xy e,q}
def Uh{α:Type}{b:T->AM->Option AM}{body:AG}(f:α->T)(I:List α->AM->Prop)(Q:Out->Prop):∀(L D:List α) (Y:AM),I D Y->(∀x∈L,∀D Y,I D Y->∃τ1,b (f x) Y=↑τ1/\((∃τ2,(body τ1=↑(.nx τ2)\/body τ1=↑(.ct τ2))/\I (D++[x]) τ2)\/(∃t,body τ1=↑(.rt t)/\Q (.rt t))\/∃c τ2,body τ1=↑(.xc c τ2)/\Q (.xc c τ2)))->(∃Y',Ar b body (L.map f) Y=↑(.nx Y')/\I (D++L) Y')\/(∃t,Ar b body (L.map f) Y=↑(.rt t)/\Q (.rt t))\/∃c τ2,Ar b body (L.map f) Y=↑(.xc c τ2)/\Q (.xc c τ2)
 |[],D,Y,h,ϊ=>.inl {Y,rfl,by rw[Þ];exact h}|x::L,D,Y,h,d=>by
  let(τ1,i,k):=d x (Ë ..) D Y h;rw[Ù];unfold Ar;rw[i];rcases k with ⟨τ2,a|a,g⟩|⟨t,a,q⟩|⟨c,τ2,a,q⟩;erw[a];have:=Uh f I Q L (D++[x]) τ2 g λy e=>d y<|Ê _ e
  rwa[ø]at this;erw[a];have:=Uh f I Q L (D++[x]) τ2 g λy e=>d y<|Ê _ e
  rwa[ø]at this;erw[a];exact .inr<|.inl {(t),rfl,q}
  erw[a];exact .inr<|.inr {(c),τ2,rfl,q}
structure NdOk(M:Mc)(n:Nd):Prop where
 r:n.r∈M.nm
 z:Db.Nar (M.ws.length+1) n.z
def lF{M:Mc}{mo:Nat->Db.B}{x:Str}{f z:Db.Z}(e:DR M mo x f=↑z):Db.Nar (M.ws.length+1) z:=by
 unfold DR at e;let(h,_,e):=Ţ.mp e;let(g,_,e):=Ţ.mp e;exact zlj e
def zqf{M:Mc}(h:McOk M){mo:Nat->Db.B}:∀n∈C9 M mo,NdOk M n:=λn a=>by
 unfold C9 at a;cases e:DR M mo (M.nm.headD "") nN with
 |none=>rw[e]at a;cases a|some z=>rw[e]at a;rw[Ï.mp a];exact{b7 h,lF e}
def zp9{M:Mc}(h:McOk M){mo:Nat->Db.B}{n:Nd}{a:Nat}:∀s∈Fh M mo n a,NdOk M s:=λs b=>by
 let(p,c,b):=ļ.mp b;have b:=Option.mem_toList.mp b;let(z,e,rfl):=Ý.mp b;let(g,_,e):=Ţ.mp e;exact{(h.d _<|KN c).e,lF e}
def MA(M:Mc)(mo:Nat->Db.B)(L:List Nd)(a:Nat):Prop:=∀i n,i<a->L[i]?=↑n->∀s∈Fh M mo n i,EX M.ws.length L s=true
def j8{m:Nat}{L:List Nd}{s:Nd}(A:List Nd)(e:EX m L s=true):EX m (L++A) s=true:=by
 unfold EX at *;rw[List.any_append,e];rfl
def PD(M:Mc)(mo:Nat->Db.B)(L:List Nd):Prop:=C9 M mo <+: L/\(C9 M mo=[]->L=[])
structure Lst45(M:Mc)(K:List<|Str×List (Nat×Nat×Int))(mo:Nat->Db.B)(L:List Nd):Prop where
 ok:∀n∈L,NdOk M n
 fr:PD M mo L
 hit:(∃n,L.getLast?=↑n/\C8 K n=true)\/((∀n∈L,C8 K n=false)/\MA M mo L L.length)
abbrev CY(m:Nat)(S:T)(mx:Nat)(L:List Nd)(a:Nat)(x:kr):AM:=[↑S,↑(.int (mx:Int)),↑(.bl true),↑(.own<|L.map<|AL m),↑(.int (a:Int)),x]
def zlq{M:Mc}(h:McOk M){K:List<|Str×List (Nat×Nat×Int)}(w:Hv M.ws.length K)(C:K.length<=1000){mo:Nat->Db.B}{S:T}(k:WkK M (K.map Dd) mo S){mx:Nat}{L:List Nd}(y:∀n∈L,NdOk M n)(E:L.length<100000){a:Nat}{s:Nd}(l:NdOk M s) :
  (EX M.ws.length L s=true->FH (CY M.ws.length S mx L a<|↑(AL M.ws.length s))=↑(.ct<|CY M.ws.length S mx L a<|↑(AL M.ws.length s)))/\(EX M.ws.length L s=false->(mx<=L.length->∃Y,FH (CY M.ws.length S mx L a<|↑(AL M.ws.length s))=↑(.xc "TooMany" Y))/\(L.length<mx->(C8 K s=true->FH (CY M.ws.length S mx L a<|↑(AL M.ws.length s))=↑(.rt<|.own<|(L++[s]).map (AL M.ws.length)))/\(C8 K s=false->FH (CY M.ws.length S mx L a<|↑(AL M.ws.length s))=↑(.nx<|CY M.ws.length S mx (L++[s]) a<|↑(AL M.ws.length s))))):=by
 have tn:∀x∈M.nm,PyData.strOk x=true:=λx B=>h.tn x B;have g:=zq5 (m:=M.ws.length) (L:=L) (n:=s) (by lia) (λo A=>tn _ (y o A).r)<|tn _ l.r
 have j:=U7 h w C k (tn _ l.r) l.z;have r:=k.s;have t:=Av _ r;have b:=Gb M.ws.length s;have e:=Av _ b;have i:=Eu M.ws.length L;have f:=AK _ i;have u:=k.i;have D:(L.map<|AL M.ws.length).length=L.length:=À _;have l1:(L.map<|AL M.ws.length).length<100000:=by lia
 have p:=Eu M.ws.length<|L++[s];have v:(L++[s]).map (AL M.ws.length)=L.map (AL M.ws.length)++[AL M.ws.length s]:=á;unfold CY;rw[v]at p ⊢;change L.map (AL M.ws.length)=LT;change AL M.ws.length s=ST;unfold FH;refine{λc=>?_,λc=>?_}
 rw[c]at g
 simp![i,f,b,e,g]
 rw[c]at g;refine{λq=>?_,λq=>?_};have d:decide ((mx:Int)<=(LT.length:Int))=true:=Ç<|by lia
 refine{_,Di (by simp![i,f,b,e,g]) (by simp![f,d];rfl)};have d:decide ((mx:Int)<=(LT.length:Int))=false:=Õ<|by lia
 refine{λz=>?_,λz=>?_};rw[z]at j;refine Di (by simp![i,f,b,e,g])<|Di (by simp![f,d])<|sq (by simp![b,e,l1];rfl) ?_
 simp![-BQ,r,t,b,e,u,j,p]
 rw[z]at j;refine Di (by simp![i,f,b,e,g])<|Di (by simp![f,d])<|sq (by simp![b,e,l1];rfl) ?_
 simp![-BQ,r,t,b,e,u,j,p]
def Wm(n:Nat)(f:Db.Z):HD n f f=true:=by
 unfold HD;exact @decide_eq_true _ (Classical.propDecidable _) λi j ϊ ϊ=>Db.le_refl _
def zj3{m:Nat}(L:List Nd)(s:Nd):EX m (L++[s]) s=true:=by
 unfold EX;rw[List.any_append,Į,Ç rfl,Wm];simp
def QL(M:Mc)(K:List<|Str×List (Nat×Nat×Int))(mo:Nat->Db.B)(S:T)(mx:Nat):Out->Prop
 |.rt t=>∃L,t=.own (L.map<|AL M.ws.length)/\L.length<=max mx 1/\Lst45 M K mo L|.xc c ϊ=>c="TooMany"|.nx Y=>∃L a x,Y=CY M.ws.length S mx L a x/\L.length<=max mx 1/\Lst45 M K mo L|ϊ=>False
def zpo{M:Mc}(h:McOk M){K:List<|Str×List (Nat×Nat×Int)}(G:Hv M.ws.length K)(I:K.length<=1000){mo:Nat->Db.B}{S:T}(k:WkK M (K.map Dd) mo S){mx:Nat}(P:mx<=1000){L:List Nd}(H:∀n∈L,NdOk M n)(fr:PD M mo L)(ne:C9 M mo≠[])(N:∀n∈L,C8 K n=false)(J:L.length<=max mx 1){a:Nat}(W:List Nd)(r:∀s∈W,NdOk M s)(x:kr) :
  (∃A y,Ar (AD 5) FH (W.map<|AL M.ws.length) (CY M.ws.length S mx L a x)=↑(.nx<|CY M.ws.length S mx (L++A) a y)/\(∀n∈L++A,NdOk M n)/\(∀n∈L++A,C8 K n=false)/\(L++A).length<=max mx 1/\∀s∈W,EX M.ws.length (L++A) s=true)\/(∃t,Ar (AD 5) FH (W.map<|AL M.ws.length) (CY M.ws.length S mx L a x)=↑(.rt t)/\QL M K mo S mx (.rt t))\/∃c τ2,Ar (AD 5) FH (W.map<|AL M.ws.length) (CY M.ws.length S mx L a x)=↑(.xc c τ2)/\QL M K mo S mx (.xc c τ2):=by
 have o:=Uh (b:=AD 5) (body:=FH) (AL M.ws.length) (λD Y=>∃A y,Y=CY M.ws.length S mx (L++A) a y/\(∀n∈L++A,NdOk M n)/\(∀n∈L++A,C8 K n=false)/\(L++A).length<=max mx 1/\∀s∈D,EX M.ws.length (L++A) s=true) (QL M K mo S mx) W [] (CY M.ws.length S mx L a x) {[],x,by rw[Þ],by rw[Þ];exact H,by rw[Þ];exact N,by rw[Þ];exact J,λs g=>by cases g} λs g D Y F=>by
  let(A,y,rfl,i,j,m,l):=F;let(u,v):=zlq h G I k (mx:=mx) i (by lia) (a:=a)<|r s g
  refine{CY M.ws.length S mx (L++A) a<|↑(AL M.ws.length s),rfl,?_};cases c:EX M.ws.length (L++A) s with
  |true=>
   refine .inl {_,.inr<|u c,A,_,rfl,i,j,m,λp d=>?_};rcases ß.mp d with d|d;exact l p d;rw[Ï.mp d];exact c
  |false=>
   let(w,B):=v c;by_cases q:mx<=(L++A).length;let(τ2,e):=w q;exact .inr<|.inr {_,_,e,rfl}
   let(C,E):=B<|by lia
   have l2:(L++A++[s]).length<=max mx 1:=by
    rw[ë];show _+1<=_
    lia
   have o2:∀n∈L++A++[s],NdOk M n:=λn f=>by
    rcases ß.mp f with f|f;exact i n f;rw[Ï.mp f];exact r s g
   cases z:C8 K s with
   |true=>exact .inr (.inl {_,C z,_,rfl,l2,o2,by rw[ø];exact{List.IsPrefix.trans fr.1 (List.prefix_append ..),λz=>absurd z ne},.inl {s,by simp,z}})|false=>
    refine .inl {_,.inl<|E z,A++[s],_,by rw[<- ø],by rw[<- ø];exact o2,?_,by rw[<- ø];exact l2,λp d=>?_};rw[<- ø];intro n f;rcases ß.mp f with f|f;exact j n f;rw[Ï.mp f];exact z;rw[<- ø];rcases ß.mp d with d|d;exact j8 _<|l p d
    rw[Ï.mp d];exact zj3 _ _
 rcases o with ⟨O,e,A,y,rfl,i,j,m,l⟩|q;exact .inl {A,y,e,i,j,m,λs g=>l s (by rw[Ĺ];exact g)};exact .inr q
def ls_wh{M:Mc}(h:McOk M){K:List<|Str×List (Nat×Nat×Int)}(Q:Hv M.ws.length K)(Z:K.length<=1000){mo:Nat->Db.B}{S:T}(k:WkK M (K.map Dd) mo S){mx:Nat}(V:mx<=1000){L:List Nd}(R:∀n∈L,NdOk M n)(fr:PD M mo L)(nh:∀n∈L,C8 K n=false)(ll:L.length<=max mx 1) :
  ∃o,El JE KQ (CY M.ws.length S mx L 0 none)=↑o/\QL M K mo S mx o:=by
 refine wh_ex (mc:=JE) (body:=KQ) (λY=>∃L a x,Y=CY M.ws.length S mx L a x/\(∀n∈L,NdOk M n)/\PD M mo L/\(∀n∈L,C8 K n=false)/\L.length<=max mx 1/\a<=L.length/\MA M mo L a) (QL M K mo S mx) (λY=>match Y with|[ϊ,ϋ,ό,ύ,↑(.int a),ώ]=>max mx 1+1 - a.toNat|ϊ=>0) {L,0,none,rfl,R,fr,nh,ll,é _,λi n U=>by lia} λY P=>?_;let(L,a,x,rfl,g,b,p,u,h5,v):=P;have D:=k.s;have H:=Av _ D;have B:=Eu M.ws.length L;have m:=AK _ B;have X:=k.i;have e1:(L.map<|AL M.ws.length).length=L.length:=À _
 by_cases c:a<L.length;left;have d:decide ((a:Int)<((L.map<|AL M.ws.length).length:Int))=true:=Ç<|by lia
 refine{false,by unfold JE CY;change L.map (AL M.ws.length)=LT;simp![m,d],?_};have w:=g _<|Ò c;have nx:=zp8 h k w.r w.z a;have C:=Gb M.ws.length L[a];have G:=Av _ C;have F6:AZ (L.map<|AL M.ws.length) (a:Int)=↑(AL M.ws.length L[a]):=DC (by rw[È,Á c];rfl)
 have E:=Eu M.ws.length<|Fh M mo L[a] a;have I:=AK _ E
 have ne:C9 M mo≠[]:=λz=>by
  rw[b.2 z]at c;exact absurd c<|Nat.not_lt_zero _
 have lf:=zpo h Q Z k V g b ne p u (a:=a) (Fh M mo L[a] a) (λs f=>zp9 h s f) x
 have head:∀r,Ar (AD 5) FH ((Fh M mo L[a] a).map (AL M.ws.length)) (CY M.ws.length S mx L a x)=↑r->BE (Aq<|Bm Ak Am Li (AA 0)<|AB (AJ (AA 3)<|AA 4)<|AB (AA 4) AE) (AD 5) FH (CY M.ws.length S mx L a x)=↑r:=λr J=>by
  unfold CY at *;change (Fh M mo L[a] a).map (AL M.ws.length)=WT;change AL M.ws.length L[a]=NT;change L.map (AL M.ws.length)=LT
  simp![-BQ,D,H,X,B,F6,C,G,nx,E,I,J]
 unfold KQ;rcases lf with ⟨A,y,e,g1,g2,N,O⟩|⟨t,e,q⟩|⟨F,l,e,q⟩;left;refine{CY M.ws.length S mx (L++A) (a+1) y,sq (head _ e) ?_,{L++A,a+1,y,rfl,g1,{List.IsPrefix.trans b.1 (List.prefix_append ..),λz=>absurd z ne},g2,N,by rw[ë];lia,λi n U j s f=>?_},?_};unfold CY;change (L++A).map (AL M.ws.length)=LT
 simp![K8]
 rfl;by_cases W:i<a;refine j8 _<|v i n W ?_ s f;rw[<- j,ú<|by lia]
 have:i=a:=by lia
 subst this;rw[ú c,Á c]at j;cases j;exact O s f;show max mx 1+1 - ((a+1:Nat):Int).toNat<max mx 1+1 - (a:Int).toNat;rw[ï,ï];lia;right;left;exact{t,by unfold AF;rw[head _ e],q};right;right;exact{F,l,by unfold AF;rw[head _ e],q};right;have d:decide ((a:Int)<((L.map<|AL M.ws.length).length:Int))=false:=Õ<|by lia
 have:a=L.length:=by lia
 subst this;refine{false,by unfold JE CY;change L.map (AL M.ws.length)=LT;simp![m,d],L,_,x,rfl,u,g,b,.inr {(p),v}}
def znm{k n:Nat}{u:AG}{ts:qB}{c:Str}{Y:AM}(hk:ts.length=k)(h:u (ts.map some++List.replicate (n - ts.length) none)=↑(.xc c Y)):AW k n u ts=↑(.exc c):=by
 subst hk;unfold AW JO;simp[h]
def zpm{M:Mc}(h:McOk M){K:List<|Str×List (Nat×Nat×Int)}(m:Hv M.ws.length K)(u:K.length<=1000){mo:Nat->Db.B}{S:T}(k:WkK M (K.map Dd) mo S){mx:Nat}(B:mx<=1000) :
  Hr [S,.int (mx:Int),.bl true]=↑(.exc "TooMany")\/∃L,Hr [S,.int (mx:Int),.bl true]=↑(.ok<|.own<|L.map<|AL M.ws.length)/\L.length<=max mx 1/\Lst45 M K mo L:=by
 have f:=k.s;have g:=Av _ f;have s:=k.i;have fs:=zqe h k;have fo:=zqf h (mo:=mo)
 have one:∃b:Bool,(b=(C9 M mo).any (C8 K))/\Ds 3 (Bg (AA 2)<|m1 Ii<|Az 1 [0] (Aq<|AA 3) (AD 0) (mC<|.bl true) LY) [↑S,↑(.int (mx:Int)),↑(.bl true),↑(.own<|(C9 M mo).map (AL M.ws.length)),none,none]=↑(.v (.bl b) false):=by
  unfold C9 at fo ⊢;cases e:DR M mo (M.nm.headD "") nN with
  |none=>
   refine{false,rfl,?_};show Ds 3 _ [↑S,↑(.int (mx:Int)),↑(.bl true),↑(.own []),none,none]=_;have j:CJ (AD 0) (mC<|.bl true) LY [] [none,↑S]=↑[]:=rfl
   simp![Ds,T.lnd,GG,T.lend,Hc,T.noR,f,g,j,List.any_nil]
   rfl
  |some z=>
   rw[e]at fo;have o:=fo _<|Ï.mpr rfl;have A:=U7 h m u k (n:={M.nm.headD "",z,none,none}) (h.tn _ o.r) o.z;have i:=Gb M.ws.length {M.nm.headD "",z,none,none};have l:=Av _ i;refine{C8 K {M.nm.headD "",z,none,none},by simp,?_}
   show Ds 3 _ [↑S,↑(.int (mx:Int)),↑(.bl true),↑(.own [AL M.ws.length {M.nm.headD "",z,none,none}]),none,none]=_
   have C:(AL M.ws.length {M.nm.headD "",z,none,none}).lnd=true:=by
    have:=i;unfold AL at this ⊢;rw[T.sh]at this;rw[T.lnd];exact(Ķ.mp this).2
   have le:(AL M.ws.length {M.nm.headD "",z,none,none}).lend=AL M.ws.length {M.nm.headD "",z,none,none}:=rfl;change C8 K {M.nm.headD "",z,none,none}=b;change AL M.ws.length {M.nm.headD "",z,none,none}=ST
   have j:CJ (AD 0) (mC<|.bl true) LY [ST] [none,↑S]=↑[.bl b]:=by
    unfold CJ LY
    simp![-BQ,f,g,i,l,s,A,CJ]
   cases b<;>(simp![Ds,T.lnd,GG,T.lend,Hc,T.noR,f,g,i,l,C,le,j];rfl)
 let(b,p,lt):=one
 have fl:(C9 M mo).length<=1:=by
  unfold C9;cases DR M mo (M.nm.headD "") nN with
  |none=>exact é _|some z=>exact Æ _
 have w:=Eu M.ws.length<|C9 M mo;have F:=AK _ w
 have v:CU 3 (Bm Ak Am Lj (AA 0) AE) [↑S,↑(.int (mx:Int)),↑(.bl true),none,none,none]=↑(.nx [↑S,↑(.int (mx:Int)),↑(.bl true),↑(.own<|(C9 M mo).map (AL M.ws.length)),none,none]):=by
  change (C9 M mo).map (AL M.ws.length)=FT
  simp![-BQ,f,g,s,fs]
 cases b with
 |true=>
  right;refine{C9 M mo,?_,by lia,fo,{List.prefix_refl _,id},.inl ?_};unfold Hr;refine HI rfl ?_;show JX [↑S,↑(.int (mx:Int)),↑(.bl true),none,none,none]=_;unfold JX;refine sq v<|sr ?_;unfold A8;rw[lt];change (C9 M mo).map (AL M.ws.length)=FT
  simp![w]
  let(n,d,hh):=ą.mp p.symm
  match hf:C9 M mo,d,fl with
  |[q],d,ϊ=>rw[Ï.mp d]at hh;exact{(q),rfl,hh}
 |false=>
  have D:∀n∈C9 M mo,C8 K n=false:=λn d=>by
   cases c:C8 K n with
   |false=>rfl|true=>exact absurd (ą.mpr {(n),d,c}) (by rw[<- p];decide)
  let(o,e,q):=ls_wh h m u k B fo {List.prefix_refl _,id} D<|by lia
  have pre:∀r,AF (El JE KQ) (AO<|AA 3) (CY M.ws.length S mx (C9 M mo) 0 none)=r->JX [↑S,↑(.int (mx:Int)),↑(.bl true),none,none,none]=r:=λr y=>by
   unfold JX;refine sq v<|Di ?_<|sq ?_ y
   unfold A8;rw[lt];rfl;unfold CY;change (C9 M mo).map (AL M.ws.length)=FT
   simp![]
  cases o with
  |rt t=>let(L,rfl,l1,l2):=q;right;refine{L,?_,l1,l2};unfold Hr;exact HI rfl<|pre _ (by unfold AF;rw[e])
  |xc c Y=>have q:c="TooMany":=q;subst q;left;unfold Hr;exact znm rfl (pre _ (by unfold AF;rw[e]))|nx Y=>
   let(L,a,x,rfl,l1,l2):=q;right;refine{L,?_,l1,l2};have E:=Eu M.ws.length L;unfold Hr;refine HI rfl<|pre _<|sq e ?_;unfold CY;change L.map (AL M.ws.length)=LT
   simp![E]
  |ct Y=>symm|bk Y=>symm
abbrev Xv:Stmt:=By 66 0
def NW:AG:=
 (AF (Cy Ak Am 0 0<|AN Jr<|AB (AA 1)<|AB (AA 2) AE)
 (AF (Cy Ak Am 1 0<|AN Lh<|AB (AA 1)<|AB (AA 2) AE)
 (AF (Cy Ak Am 2 0<|AJ (Bm Al An GU (AA 1) AE)<|mC<|.int 0)
 (AF (Cy Ak Am 3 0<|AN O7<|AB (AA 1) AE)
 (AF (Cy Ak Am 4 0<|AN Ol<|AB (AA 1) AE)
 (AF (Cy Ak Am 5 0<|mC .non)
 (A8 (m2 (BD true) (AA 3)<|mC .non) (AF (Cy Ak Am 5 0<|Bm Al An Io (AA 1)<|AB (AA 3) AE)
 (JM Ak Am 1 0 (m2 EB (Ax Ak Am 5<|AA 0)<|mC<|.int 1)<|mC .non)) A7)))))))
def WS:qB->Option Ru:=Em Ak Am 4 4 NW
abbrev Us:Fn:={10,["self","machine","goal","free"],WS}
abbrev zcd:Gx:={ Bz with cl:=[("Walk",Ak,Am)],mt:=[("rooms",Al,An,Jj),("watch_number",Al,An,OA)],sf:=↑(Ak,Am) }
abbrev zco:Gm:=gA Xv 9 [("placed_goal",Ul),("greatest",iE),("placed_stays",gL),("doors_out",iJ)] [] (ox:=zcd)
theorem zd0:Ck zco Us Xv NW:={}
def Xf{α:Type}(f g:α->T)(h:∀x,(f x).share=g x)(l:List α):BP (l.map f)=l.map g:=by
 rw[EL,è];exact Ă λx ϊ=>h x
def Bx(M:Mc)(gl:List<|Str×qB):List<|Str×List (Nat×Nat×Int):=gl.map λg=>(g.1,g.2.map<|BY M.ws)
def Ea(M:Mc)(gl:List<|Str×qB):Nat->Db.B:=λi=>↑(CW (M.ws.getD i Str.empty) (F7 M gl).flatten)
def zmt{M:Mc}(h:McOk M){gl:List<|Str×qB}(d:Eg M.ws (M.rs.map (·.1)) gl)(s:gl.length<=1000):WS [Ay M,.lst<|gl.map A9,.non]=↑(.ok<|Hx M ((Bx M gl).map Dd)<|Ea M gl):=by
 have b:=H9 h;have c:=Av _ b;have nd:M.nm.Nodup:=h.r.nd;have l1:=h.r.l1;have B:M.nm.length=M.rs.length:=À _;have C:GU [Ay M]=↑(.ok<|.own<|M.nm.map T.str):=Kn h;have ps:=zo9 h;have t:=do_ok h;have pg:Jr [Ay M,.lst<|gl.map A9]=↑(.ok<|.own<|gl.map λg=>.tup [.str g.1,.lst<|g.2.map<|Be M.ws]):=Y7 h d s
 have o:Lh [Ay M,.lst<|gl.map A9]=↑(.ok<|.own<|E7 M.ws λx=>CW x (F7 M gl).flatten):=gr_ok h d s;have m:=d.sh;have n:=AK _ m
 let(a,z,A):∃a,AZ (M.nm.map T.str) 0=↑(.str a)/\M.nm.headD ""=a:=by
  cases e:M.nm with
  |nil=>rw[e,č]at B;lia|cons a r=>exact{a,DC rfl,rfl}
 have f:(gl.map λg=>T.tup [.str g.1,.lst<|g.2.map<|Be M.ws])=(Bx M gl).map Dd:=by
  unfold Bx;rw[è];refine Ă λg k=>?_;show T.tup [.str g.1,.lst<|g.2.map<|Be M.ws]=.tup [.str g.1,.lst<|(g.2.map<|BY M.ws).map Aw];rw[SO (d g k).2.1]
 have j:(E7 M.ws λx=>CW x (F7 M gl).flatten)=mT M.ws.length λi=>bT<|Ea M gl i:=by
  refine ES (À _) λi q=>?_;rw[È,Á q];unfold Ea;rw[Ó,Á q];rfl
 rw[f]at pg;rw[j]at o;have D:=Sq<|Bx M gl;have u:=AK _ D;have E:A3 (mT M.ws.length λi=>bT<|Ea M gl i)=true:=Fe λi=>L4 _
 have v:=AK _ E;have w:BP (M.nm.map λx=>T.own<|(BN M.ws M.rs x).map Aw)=M.nm.map (Fx M):=Xf _ _ (λx=>by rw[T.share,AK _<|Gf _];rfl) _
 have y:BP (CQ M M.ds.length)=M.nm.map (Fd M):=Xf _ _ (λx=>by rw[ĝ,T.share,AK _<|EM λp ϊ=>PY _ p];rfl) _;refine SA λp=>?_
 have l:NW [↑(.oob p Ak Am []),↑(Ay M),↑(.lst<|gl.map A9),↑.non]=↑(.nx [↑(.oob p Ak Am [.own<|(Bx M gl).map Dd,.own<|mT M.ws.length λi=>bT<|Ea M gl i,.str a,.osd M.nm<|M.nm.map λx=>.own<|(BN M.ws M.rs x).map Aw,.osd M.nm<|CQ M M.ds.length,.non]),↑(Ay M),↑(.lst<|gl.map A9),↑.non]):=by
  unfold NW;change (M.nm.map λx=>T.own<|(BN M.ws M.rs x).map Aw)=SS;generalize CQ M M.ds.length=τ at *;change (Bx M gl).map Dd=MK;change (mT M.ws.length λi=>bT<|Ea M gl i)=MO;change gl.map A9=GT;refine sq (by simp![b,c,m,n,pg];rfl)<|sq (by simp![b,c,m,n,o];rfl)<|sq (by simp![-BQ,JW,b,c,C,z,AX,AV];rfl)<|sq (by simp![b,c,ps];rfl)<|sq (by simp![b,c,t];rfl)<|sq (by simp![];rfl) ?_
  simp![]
 unfold G5;unfold Hx FE;rw[A];show _=↑(Ru.ok<|.obj (.ins Ak Am) [.lst<|(Bx M gl).map Dd,.lst<|mT M.ws.length λi=>bT<|Ea M gl i,.str a,.obj (.sdc M.nm)<|M.nm.map<|Fx M,.obj (.sdc M.nm)<|M.nm.map<|Fd M,.non])
 change (M.nm.map λx=>T.own<|(BN M.ws M.rs x).map Aw)=SS;generalize CQ M M.ds.length=τ at *;change (Bx M gl).map Dd=MK;change (mT M.ws.length λi=>bT<|Ea M gl i)=MO
 simp![l,u,v,w,y]
abbrev Xp:Stmt:=top 69
def Kq:AG:=
 (AF (AS (IS WS []<|AB (AA 0)<|AB (AA 1)<|AB (AA 3) AE)<|AD 4)
 (AF (AS (AN Hr<|AB (AA 4)<|AB (AA 2)<|AB (mC<|.bl true) AE)<|AD 5)
 (AO<|BV<|AB (AA 5)<|AB (Bg (m2 (Br λi j=>decide (j<i)) (m1 BO<|AA 5)<|mC<|.int 0)<|Bm Ak Am Jz (AA 4)<|AB (AJ (AA 5)<|m1 FK<|mC<|.int 1) AE) AE)))
def GQ:qB->Option Ru:=AW 4 6 Kq
abbrev gI:Fn:={12,["machine","goal","most","free"],GQ}
abbrev zdb:Gx:={ Bz with mt:=[("hits",Ak,Am,Ut)],nw:=[("Walk",Us,[(3,[])])] }
abbrev zdd:Gm:=gA Xp 11 [("listed",gY)] ["len"] (ox:=zdb)
theorem zdt:Ck zdd gI Xp Kq:={}
def zh7{α:Type}{l:List α}{d:α}(e:l.getLast?=↑d):AZ l (-1)=↑d:=by
 have b:0<l.length:=by
  cases l with
  |nil=>cases e|cons a r=>simp
 unfold AZ CZ;rw[if_neg (by decide),if_pos (by lia),Ď,<- e,List.getLast?_eq_getElem?]
 congr 1
 lia
def EV(K:List<|Str×List (Nat×Nat×Int))(L:List Nd):Bool:=match L.getLast? with
 |some n=>C8 K n|none=>false
theorem cT{M:Mc}(h:McOk M){gl:List<|Str×qB}(b:Eg M.ws (M.rs.map (·.1)) gl):Hv M.ws.length<|Bx M gl:=λk hk=>by
 let(g,a,rfl):=Ð.mp hk;exact{h.tn _ (b g a).1,JP (b g a).2.1}
def znc{M:Mc}(h:McOk M){gl:List<|Str×qB}(l:Eg M.ws (M.rs.map (·.1)) gl)(t:gl.length<=1000){mx:Nat}(z:mx<=1000) :
  GQ [Ay M,.lst<|gl.map A9,.int (mx:Int),.non]=↑(.exc "TooMany")\/∃L,GQ [Ay M,.lst<|gl.map A9,.int (mx:Int),.non]=↑(.ok<|.tup [.lst<|L.map<|AL M.ws.length,.bl<|EV (Bx M gl) L])/\L.length<=max mx 1/\Lst45 M (Bx M gl) (Ea M gl) L:=by
 have g:=H9 h;have j:=Av _ g;have f:=l.sh;have i:=AK _ f;have r:=cT h l
 have u:(Bx M gl).length<=1000:=by
  unfold Bx;rw[À];exact t
 have p:=zmt h l t;have k:=wkK M (Sq<|Bx M gl)<|Ea M gl;have e:=zpm h r u k (mx:=mx) z;have a:=k.s;have b:=Av _ a;have A:=k.i;generalize C:Hx M ((Bx M gl).map Dd) (Ea M gl)=W at *
 rcases e with e|⟨L,e,l1,l2⟩;left;change gl.map A9=GT;unfold GQ Kq
 simp![g,j,f,i,p,a,b,e]
 right;refine{L,?_,l1,l2};have m:=Eu M.ws.length L;have q:=AK _ m;have B:(L.map<|AL M.ws.length).length=L.length:=À _;unfold GQ;refine HI rfl ?_;show Kq [↑(Ay M),↑(.lst<|gl.map A9),↑(.int (mx:Int)),↑.non,none,none]=_;unfold Kq EV;cases c:L.getLast? with
 |none=>
  have:L=[]:=List.getLast?_eq_none_iff.mp c;subst this;change gl.map A9=GT;refine sq (by simp![g,j,f,i,p,a,b];rfl)<|sq (by simp![a,b,e];rfl) ?_
  simp![]
 |some n=>
  have s:n∈L:=List.mem_of_getLast? c;have o:=l2.ok n s;have y:=U7 h r u k (h.tn _ o.r) o.z;have v:=Gb M.ws.length n;have x:=Av _ v;have w:AZ (L.map<|AL M.ws.length) (-1)=↑(AL M.ws.length n):=zh7 (by rw[List.getLast?_map,c];rfl)
  have d:decide (0<((L.map<|AL M.ws.length).length:Int))=true:=Ç (by
   have:=List.length_pos_of_mem s
   lia)
  show _=↑(Out.rt<|.tup [.lst<|L.map<|AL M.ws.length,.bl<|C8 (Bx M gl) n]);change gl.map A9=GT;change L.map (AL M.ws.length)=LT;change AL M.ws.length n=NT;change C8 (Bx M gl) n=bb;refine sq (by simp![g,j,f,i,p,a,b];rfl)<|sq (by simp![a,b,e,m,q];rfl) ?_
  simp![-BQ,a,b,A,m,q,d,w,v,x,y]
abbrev Rm:Stmt:=top 83
def KY:AI:=
 (m2 Cd (AA 1)<|mC<|.int 0)
def Po:AG:=
 (K5 0 1<|AB (AA 1)<|AB (m2 BH (AA 0)<|AA 1) AE)
def UE:AG:=
 (AF (El KY Po)
 (AO<|AA 0))
def PB:qB->Option Ru:=AW 2 2 UE
abbrev jB:=fA 1 2 Rm PB
abbrev zdo:Gm:=gA Rm 0 [] []
theorem ze4:Ck zdo jB Rm UE:={}
def BZ(ws:ki)(rs:List<|Str×qB)(dd:List Sd):Mc:={ws,rs,dd.map<|Ed rs}
structure SpK(ws:ki)(rs:List<|Str×qB)(dd:List Sd):Prop where
 sp:SpOk ws rs dd
 mc:McOk (BZ ws rs dd)
 z:∀d∈dd,WO d.z
 w2:ws.length<=2
 g2:∀d∈dd,d.g.length<=2
 l2:∀r∈rs,r.2.length<=2
def zqj{ws:ki}{rs:List<|Str×qB}{dd:List Sd}{sz:Nat}(D:DrwOk ws rs dd sz):SpK ws rs dd:=by
 have h:RsOk ws rs:={D.r1,by have:=D.r4;lia,λr a=>by
  have:=D.rn r a;have:=D.sz
  lia,D.rd,λr a=>{(D.rl r a).1,by have:=(D.rl r a).2;lia}}
 have b:∀d∈dd,DrOk ws (rs.map (·.1))<|Ed rs d:=λd hd=>by
  let(f,g,j,o,k,l,p,m):=D.d d hd;refine{?_,?_,j,by show d.g.length<=1000;lia,k,l,by show d.n.length<=100;lia,?_};show(rs.getD d.b (Str.empty,[])).1∈_;rw[Ó,Á f];exact ĩ<|Ò f
  show(rs.getD d.e (Str.empty,[])).1∈_;rw[Ó,Á g];exact ĩ<|Ò g
  rcases m with e|e;exact .inl e;exact .inr<|.inl e
 have wl:=D.wl;have dl:=D.dl;refine{{h,λd hd=>{(D.d d hd).1,(D.d d hd).2.1},b,D.dl},{λx n=>.inr<|D.w x n,D.wd,by show ws.length<=7;lia,h,λd hd=>?_,by show(dd.map _).length<=200;rw[À];lia},λd hd=>(D.d d hd).2.2.2.2.2.2.2,wl,λd hd=>(D.d d hd).2.2.2.1,λr a=>(D.rl r a).2}
 let(i,c,rfl):=Ð.mp hd;exact b i c
def Bw(rs:List<|Str×qB)(r:Nat):Str:=(rs.getD r (Str.empty,[])).1
def zpi{x y:Str}(a:PyData.strOk x=true)(b:PyData.strOk y=true):Cd (.str x) (.str y)=↑(.bl<|!decide (x=y)):=by
 have e:(x == y)=decide (x=y):=by rfl
 unfold Cd Hm EW Jk;erw[T.data,PyData.canLay0,a,b];rfl
def OD{b:T->AM->Option AM}{body:AG}{t:T}{ts:qB}{Y τ1 a:AM}(c:b t Y=↑τ1)(d:body τ1=↑(.nx a)):Ar b body (t::ts) Y=Ar b body ts a:=by
 conv=>lhs;unfold Ar
 lia
def LD:∀ks:kj,BP (ks.map T.int)=ks.map T.int
 |[]=>rfl|k::r=>by rw[Ù,BP,LD r];rfl
def LF:∀ks:kj,A3 (ks.map T.int)=true
 |[]=>rfl|k::r=>by rw[Ù,A3,LF r];rfl
def zme:FW (.lst []) (.lst [])=↑(.bl true):=by ext
def ziz{a:T}{l:qB}:FW (.lst<|a::l) (.lst [])=↑(.bl false):=rfl
def QO{dd:List Sd}{k:Nat}(hk:k<dd.length):AZ (dd.map Bd) (k:Int)=↑(Bd dd[k]):=DC<|by simp_all
def zq4{n i:Nat}(h:i<n):CZ n (i:Int)=↑i:=by unfold CZ;simp;lia
def zlz(a:Int){b:Int}(q:0<b):PB [.int a,.int b]=↑(.ok<|.int<|Zm.gd a b):=by
 have d:=zka (mc:=KY) (body:=Po)
  (λY=>∃(g l:Int),Y=[↑(.int g),↑(.int l)]/\Zm.gd g l=Zm.gd a b/\0<=l/\(l=0->0<g))
  (λY=>match Y with|[ϊ,↑(.int l)]=>l.natAbs|ϊ=>0)
  {_,_,rfl,rfl,by lia,λz=>by lia} (by
   rintro Y ⟨g,l,rfl,e,k,i⟩;by_cases f:l=0;right;exact{false,by unfold KY;simp![Ga,f]}
   left;exact{false,by unfold KY;simp![Ga];simp[f],[↑(.int l),↑(.int<|g.fmod l)],by unfold Po;simp![f],{_,_,rfl,Zm.gd_turn e,ü g (by lia),λϊ=>by lia},Zm.fmod_less g f})
 let(m,j,(g,l,rfl,e,k,i),n,o):=d
 have c:l=0:=by
  have p:KY [↑(.int g),↑(.int l)]=↑(.v (.bl<|!(l == 0)) false):=by rfl
  lia
 unfold PB UE;have h:=Zm.gd_end e c;have:=i c;rw[if_neg<|by lia]at h
 rw[<- h]
 simp![j]
abbrev R6:Stmt:=top 84
def Tv:AG:=
 (AF (AS (m2 BL (m2 Bl (AJ (AA 0)<|mC<|.int 0)<|AJ (AA 1)<|mC<|.int 1)<|m2 Bl (AJ (AA 1)<|mC<|.int 0)<|AJ (AA 0)<|mC<|.int 1)<|AD 2)
 (AF (AS (m2 Bl (AJ (AA 0)<|mC<|.int 1)<|AJ (AA 1)<|mC<|.int 1)<|AD 3)
 (AF (AS (AN PB<|AB (AA 2)<|AB (AA 3) AE)<|AD 4)
 (AO<|BV<|AB (m2 CK (AA 2)<|AA 4)<|AB (m2 CK (AA 3)<|AA 4) AE))))
def HA:qB->Option Ru:=AW 2 5 Tv
abbrev OB:=fA 2 2 R6 HA
abbrev zio:Gm:=gA R6 1 [("_law_divisor",jB)] []
theorem zjc:Ck zio OB R6 Tv:={}
def UK{t b u c:Int}(p:0<b)(r:0<c)(h:t * c=u * b):Zm.lt t b=Zm.lt u c/\Zm.lb t b=Zm.lb u c:=by
 have d:b≠0:=by lia
 have f:c≠0:=by lia
 have g1:=Zm.gd_low (t:=t) d;have g2:=Zm.gd_low (t:=u) f;have A:=Zm.lb_pos (t:=t) p;have B:=Zm.lb_pos (t:=u) r;have s:=Zm.gd_pos (a:=t) d;have v:=Zm.gd_pos (a:=u) f;have l:=Zm.lt_mul (t:=t) d;have m:=Zm.lb_mul (t:=t) d;have n:=Zm.lt_mul (t:=u) f;have o:=Zm.lb_mul (t:=u) f;change Zm.lt t b=x;change Zm.lb t b=y;change Zm.lt u c=z;change Zm.lb u c=w;change Zm.gd t b=g;change Zm.gd u c=k
 have e :=by
  have q :=by
   rw[<- l,<- m,<- n,<- o]at h
   calc (x * w) * (g * k)=x * g * (w * k):=by erw[đ,ě,þ]
    _=z * k * (y * g):=h
    _=(z * y) * (g * k):=by erw[đ,ě,þ]
  exact Int.eq_of_mul_eq_mul_right (Int.ne_of_gt<|ÿ s v) q
 unfold Zm.gd at g1 g2;have g1:Int.gcd x y=1:=by lia
 have g2:Int.gcd z w=1:=by lia
 have i :=by
  have:y ∣ x * w:={z,by rw[e,þ]};have:=Int.dvd_gcd_mul_iff_dvd_mul.mpr this;rw[Int.gcd_comm,g1]at this;simpa using this
 have j :=by
  have:w ∣ z * y:={x,by rw[<- e,þ]};have:=Int.dvd_gcd_mul_iff_dvd_mul.mpr this;rw[Int.gcd_comm,g2]at this;simpa using this
 have C:y=w:=by
  have:=Int.le_of_dvd B i;have:=Int.le_of_dvd A j
  lia
 subst C;exact{Int.eq_of_mul_eq_mul_right (by lia) e,rfl}
abbrev Cm(P v:Int):T:=fr (Zm.lt v P)<|Zm.lb v P
structure Bo(P:Int):Prop where
 p:0<P
 l:P<2 ^ 63
def Bo.s(h:Bo P):E4 P=true:=EC (by have:=h.p;lia) (by have:=h.l;lia)
theorem Bo.lb(h:Bo P)(v:Int):Bo<|Zm.lb v P:={Zm.lb_pos h.p,by have:=Zm.lb_le (t:=v) h.p;have:=h.l;lia}
def Ug{P:Int}(h:0<P):Cm P 0=fr 0 1:=by
 let(a,b):=UK (t:=0) (b:=P) (u:=0) (c:=1) h (by decide)<|by simp
 unfold Cm;rw[b];rfl
def dM{a b c d:Int}(e:Bo b)(hd:Bo d):HA [fr a b,fr c d]=↑(.ok<|fr (Zm.lt (a * d+c * b)<|b * d)<|Zm.lb (a * d+c * b)<|b * d):=by
 have f:0<b * d:=ÿ e.p hd.p;have k:b * d<10 ^ 70:=ů (Int.mul_le_mul (Ē e.l) (Ē hd.l) (Ē hd.p)<|by lia)<|by lia
 have g:0<Zm.gd (a * d+c * b) (b * d):=Zm.gd_pos<|by lia
 have g1:Zm.gd (a * d+c * b) (b * d)<=b * d:=Zm.gd_le f;have gs:Bu (Zm.gd (a * d+c * b)<|b * d)=true:=C6 (Int.lt_trans (by lia:(-(10 ^ 70):Int)<0) g)<|ů g1 k
 have j:(Zm.gd (a * d+c * b) (b * d)≠0)=True:=eq_true<|by lia
 have m1:CH a d=true:=E9 hd.s;have m2:CH c b=true:=E9 e.s;have i:CH b d=true:=E9 hd.s;have h:=zlz (a * d+c * b) f;unfold HA Tv
 simp![m1,m2,i,h,gs,j]
 rfl
def lplP{P v w a b:Int}(h:Bo P)(d:Bo b)(e:a * P=w * b):HA [Cm P v,fr a b]=↑(.ok<|Cm P<|v+w):=by
 have l:=dM (a:=Zm.lt v P) (c:=a) (h.lb v) d;have f:P≠0:=by have:=h.p;lia
 have g:=Zm.lt_mul (t:=v) f;have i:=Zm.lb_mul (t:=v) f
 have j:Zm.lt v P * P=v * Zm.lb v P:=by
  calc Zm.lt v P * P=Zm.lt v P * (Zm.lb v P * Zm.gd v P):=by rw[i]
   _=(Zm.lt v P * Zm.gd v P) * Zm.lb v P:=by erw[đ,ě,þ]
   _=v * Zm.lb v P:=by rw[g]
 have k:=UK (t:=Zm.lt v P * b+a * Zm.lb v P) (b:=Zm.lb v P * b) (u:=v+w) (c:=P) (ÿ (h.lb v).p d.p) h.p (by
  change Zm.lt v P=x;change Zm.lb v P=y
  calc (x * b+a * y) * P=(x * P) * b+(a * P) * y:=by lia
   _=(v * y) * b+(w * b) * y:=by rw[j,e]
   _=(v+w) * (y * b):=by lia)
 simp_all
abbrev Rf:Stmt:=top 82
def MN:AG:=
 (AF (AS (AJ (AA 2)<|IT (AA 1)<|AA 3)<|Ad 2<|AH (AD 7)<|AH (AD 8) Ah)
 (AF (AS (m2 EB (AA 7)<|m2 Bl (AA 5)<|AA 8)<|AD 6)
 (AF (A8 (B0 (Bg (m2 Au (AA 4)<|mC<|.str "<")<|m2 (Br λi j=>decide (j<=i)) (AA 6)<|mC<|.int 0)<|Bg (m2 Au (AA 4)<|mC<|.str "<=")<|m2 (Br λi j=>decide (j<i)) (AA 6)<|mC<|.int 0) (AO<|mC<|.bl false) A7)
 (A8 (B0 (Bg (m2 Au (AA 4)<|mC<|.str ">")<|m2 (Br λi j=>decide (i<=j)) (AA 6)<|mC<|.int 0)<|B0 (Bg (m2 Au (AA 4)<|mC<|.str ">=")<|m2 (Br λi j=>decide (i<j)) (AA 6)<|mC<|.int 0)<|Bg (m2 Au (AA 4)<|mC<|.str "=")<|m2 Cd (AA 6)<|mC<|.int 0) (AO<|mC<|.bl false) A7))))
def N6:AG:=
 (AF (BE (Aq<|AA 0) (Ad 3<|AH (AD 3)<|AH (AD 4)<|AH (AD 5) Ah) MN)
 (AO<|mC<|.bl true))
def Fb:qB->Option Ru:=AW 3 9 N6
abbrev OC:=fA 1 3 Rf Fb
abbrev zg8:Gm:=gA Rf 0 [] [] (N:=["_law_looks","_law_watches","_law_values","_law_watch","_law_word","_law_number_here","_law_left","_law_top","_law_bottom"])
theorem zgt:Ck zg8 OC Rf N6:={}
def Fy{k n:Nat}{u:AG}{ts:qB}{t:T}(hk:ts.length=k)(h:u (ts.map some++List.replicate (n - ts.length) none)=↑(.rt t)):AW k n u ts=↑(.ok t):=by
 unfold AW JO;lia
def Nu{α:Type}{b:T->AM->Option AM}{body:AG}(f:α->T)(p:α->Bool)(a:T)(I:AM->Prop):∀(L:List α) (Y:AM),I Y->(∀x∈L,∀Y,I Y->∃τ1,b (f x) Y=↑τ1/\(p x=true->∃τ2,body τ1=↑(.nx τ2)/\I τ2)/\(p x=false->body τ1=↑(.rt a)))->(L.all p=true->∃Y',Ar b body (L.map f) Y=↑(.nx Y')/\I Y')/\(L.all p=false->Ar b body (L.map f) Y=↑(.rt a))
 |[],Y,h,ϊ=>{λϊ=>{(Y),rfl,h},λz=>by cases z}|x::L,Y,h,c=>by
  let(τ1,d,g,l):=c x (Ë ..) Y h;rw[Ù,List.all_cons];unfold Ar;rw[d];cases i:p x with
  |false=>lia|true=>let(τ2,e,k):=g i;erw[e];exact Nu f p a I L τ2 k λy j=>c y<|Ê _ j
abbrev AU(m:Nat)(P:Int)(x:Nat->Int):qB:=mT m λj=>Cm P<|x<|j+1
def DW(m:Nat)(P:Int)(x:Nat->Int):A3 (AU m P x)=true:=Fe λϊ=>rfl
def DN(P x:Int)(w:Nat)(n:Int):Bool:=match w with
 |0=>decide (x<n * P)|1=>decide (x<=n * P)|2=>decide (n * P<x)|3=>decide (n * P<=x)|ϊ=>decide (x=n * P)
def BS(P:Int)(L:List<|Nat×Nat×Int)(x:Nat->Int):Bool:=L.all λl=>DN P (x l.1) l.2.1 l.2.2
def zk3{P v n:Int}(h:0<P):(0<=Zm.lt v P - n * Zm.lb v P ↔ n * P<=v)/\(0<Zm.lt v P - n * Zm.lb v P ↔ n * P<v)/\(Zm.lt v P - n * Zm.lb v P<=0 ↔ v<=n * P)/\(Zm.lt v P - n * Zm.lb v P<0 ↔ v<n * P)/\(Zm.lt v P - n * Zm.lb v P=0 ↔ v=n * P):=by
 have b:P≠0:=by lia
 have d:=Zm.lt_mul (t:=v) b;have f:=Zm.lb_mul (t:=v) b;have g:=Zm.gd_pos (a:=v) b;have e:(Zm.lt v P - n * Zm.lb v P) * Zm.gd v P=v - n * P:=by rw[ē,đ,d,f]
 clear d f;change Zm.lt v P - n * Zm.lb v P=l;change Zm.gd v P=k
 have q:(0<l/\0<l * k)\/(l=0/\l * k=0)\/(l<0/\l * k<0):=by
  rcases Ż l 0 with c|c|c;exact .inr<|.inr {c,Ĉ c g}
  exact .inr<|.inl {c,by rw[c,Ġ]}
  exact .inl {c,ÿ c g}
 have i:v=n * P+l * k:=by lia
 clear e;change l * k=m;change n * P=x;subst i;refine{?_,?_,?_,?_,?_}<;>lia
def zfm{P:Int}(h:Bo P){ws:ki}(wl:ws.length<=7)(x:Nat->Int){t:T}(u:∃x y n,t=.tup [.str x,.str y,.int n]/\x∈ws/\y∈CM/\0<=n)(a0:kr)(F x7 G:kr) :
  ∃y6 y7 y8,MN [a0,↑(.lst<|ws.map T.str),↑(.lst<|AU ws.length P x),↑(.str<|DB t),↑(.str<|Ce t),↑(.int<|BJ t),F,x7,G]=↑(if DN P (x (BY ws t).1) (BY ws t).2.1 (BY ws t).2.2=true then .nx [a0,↑(.lst<|ws.map T.str),↑(.lst<|AU ws.length P x),↑(.str<|DB t),↑(.str<|Ce t),↑(.int<|BJ t),y6,y7,y8] else .rt (.bl false)):=by
 let(J,B,C,K):=Gg u;let(j,o,s,_):=Gn B;have k:=DW ws.length P x;have p:AZ (AU ws.length P x) (j:Int)=↑(fr (Zm.lt (x<|j+1) P)<|Zm.lb (x<|j+1) P):=Bf s;have r:BY ws t=(j+1,DV<|Ce t,BJ t):=by unfold BY;rw[o];rfl
 let(D,E):=MD _ C;let(d,e,f,g,i):=P6 E;rw[D]at d e f g i;rw[r];have m1:CH (BJ t) (Zm.lb (x<|j+1) P)=true:=E9 (h.lb _).s;have m:ws.length<1000000:=by lia
 let(c1,c2,c3,H,I):=zk3 (v:=x<|j+1) (n:=BJ t) h.p;show ∃y6 y7 y8,_=↑(if DN P (x<|j+1) (DV<|Ce t) (BJ t)=true then _ else _)
 change AU ws.length P x=VT;change DB t=X;generalize Ce t=τ at *;change BJ t=n;change x (j+1)=v;change DV τ=w;refine{↑(.int<|Zm.lt v P - n * Zm.lb v P),↑(.int<|Zm.lt v P),↑(.int<|Zm.lb v P),?_};change Zm.lt v P=a;change Zm.lb v P=b;unfold MN;refine sq (by simp![AX,AV,k,JG,o,m,p];rfl) ?_;refine sq (by simp![m1];rfl) ?_;change a - n * b=l;have A:w=0\/w=1\/w=2\/w=3\/w=4:=by lia
 rcases A with rfl|rfl|rfl|rfl|rfl;by_cases z:v<n * P;have c:decide (0<=l)=false:=Õ<|by lia
 rw[if_pos (show DN P v 0 n=true from Ç z)]
 simp![d,e,f,g,i,c]
 have c:decide (0<=l)=true:=Ç<|by lia
 rw[if_neg (show ¬ DN P v 0 n=true from λq=>z<|ä q)]
 simp![d,e,f,g,i,c]
 by_cases z:v<=n * P;have c:decide (0<l)=false:=Õ<|by lia
 rw[if_pos (show DN P v 1 n=true from Ç z)]
 simp![d,e,f,g,i,c]
 have c:decide (0<l)=true:=Ç<|by lia
 rw[if_neg (show ¬ DN P v 1 n=true from λq=>z<|ä q)]
 simp![d,e,f,g,i,c]
 by_cases z:n * P<v;have c:decide (l<=0)=false:=Õ<|by lia
 rw[if_pos (show DN P v 2 n=true from Ç z)]
 simp![d,e,f,g,i,c]
 have c:decide (l<=0)=true:=Ç<|by lia
 rw[if_neg (show ¬ DN P v 2 n=true from λq=>z<|ä q)]
 simp![d,e,f,g,i,c]
 by_cases z:n * P<=v;have c:decide (l<0)=false:=Õ<|by lia
 rw[if_pos (show DN P v 3 n=true from Ç z)]
 simp![d,e,f,g,i,c]
 have c:decide (l<0)=true:=Ç<|by lia
 rw[if_neg (show ¬ DN P v 3 n=true from λq=>z<|ä q)]
 simp![d,e,f,g,i,c]
 by_cases z:v=n * P;have c:(l == 0)=true:=by rw[Ė];lia
 rw[if_pos (show DN P v 4 n=true from Ç z)]
 simp![d,e,f,g,i,c,Ga]
 have c:(l == 0)=false:=by rw[Δ];lia
 rw[if_neg (show ¬ DN P v 4 n=true from λq=>z<|ä q)]
 simp![d,e,f,g,i,c,Ga]
def LG{P:Int}(h:Bo P){ws:ki}(wl:ws.length<=7)(x:Nat->Int){l:qB}(j:BX ws CM l):Fb [.lst l,.lst<|ws.map T.str,.lst<|AU ws.length P x]=↑(.ok<|.bl<|BS P (l.map<|BY ws) x):=by
 have a:=DW ws.length P x;have p:=AK _ a;have k:=j.sh;have c:=AK _ k
 have i:=Nu (b:=Ad 3<|AH (AD 3)<|AH (AD 4)<|AH (AD 5) Ah) (body:=MN) (λt:T=>t) (λt=>DN P (x (BY ws t).1) (BY ws t).2.1 (BY ws t).2.2) (.bl false) (λY=>∃m n o d f g,Y=[↑(.lst l),↑(.lst<|ws.map T.str),↑(.lst<|AU ws.length P x),m,n,o,d,f,g]) l
  [↑(.lst l),↑(.lst<|ws.map T.str),↑(.lst<|AU ws.length P x),none,none,none,none,none,none] {(none),none,none,none,none,none,rfl} λt s Y v=>by
   let(m,n,o,d,f,g,rfl):=v;let(w,z,A,B):=Gg<|j t s;let(C,D,E,e):=zfm h wl x (j t s) (↑(.lst l)) d f g;refine{[↑(.lst l),↑(.lst<|ws.map T.str),↑(.lst<|AU ws.length P x),↑(.str<|DB t),↑(.str<|Ce t),↑(.int<|BJ t),d,f,g],by rw[w];simp![DB,Ce,BJ],λq=>?_,λq=>?_}
   rw[if_pos q]at e;exact{_,e,_,_,_,_,_,_,rfl};rw[if_neg (by rw[q];exact ö)]at e;exact e
 have u:BS P (l.map<|BY ws) x=l.all λt=>DN P (x (BY ws t).1) (BY ws t).2.1 (BY ws t).2.2:=by
  unfold BS;rw[List.all_map];rfl
 rw[u];rw[List.map_id']at i;cases r:l.all λt=>DN P (x (BY ws t).1) (BY ws t).2.1 (BY ws t).2.2 with
 |true=>
  let(y,e,m,n,o,d,f,g,rfl):=i.1 r;change AU ws.length P x=VT;unfold Fb N6
  simp![AX,AV,a,p,k,c,e]
 |false=>
  have e:=i.2 r;change AU ws.length P x=VT;unfold Fb N6
  simp![AX,AV,a,p,k,c,e]
abbrev RY:Stmt:=top 86
def OS:AI:=
 (BV<|AB (mC<|.int 0)<|AB (mC<|.int 1) AE)
def N3:AG:=
 (AF (AS (BV<|AB (mC<|.int 0)<|AB (Az 1 [] (Aq<|AJ (AA 0)<|mC<|.int 0) (AD 0) (mC<|.bl true) OS) AE)<|AD 1)
 (AF (A8 (BW<|AN Fb<|AB (AJ (AJ (AJ (AA 0)<|mC<|.int 1)<|mC<|.int 0)<|mC<|.int 1)<|AB (AJ (AA 0)<|mC<|.int 0)<|AB (AJ (AA 1)<|mC<|.int 1) AE) (AO<|mC .non) A7)
 (AO<|AA 1)))
def GV:qB->Option Ru:=AW 1 2 N3
abbrev VA:=fA 2 1 RY GV
abbrev zg5:Gm:=gA RY 1 [("_law_holds",OC)] []
theorem zgq:Ck zg5 VA RY N3:={}
abbrev DX(P:Int)(m r:Nat)(x:Nat->Int):T:=.tup [.int (r:Int),.lst<|AU m P x]
def JS(P:Int)(m:Nat):Option (Nat×(Nat->Int))->T
 |some s=>DX P m s.1 s.2|none=>.non
def EA(ws:ki)(rs:List<|Str×qB)(r:Nat):List<|Nat×Nat×Int:=(rs.getD r (Str.empty,[])).2.map (BY ws)
def K9{ws:ki}{rs:List<|Str×qB}(h:RsOk ws rs)(r:Nat):BX ws CM (rs.getD r (Str.empty,[])).2:=by
 by_cases a:r<rs.length;rw[Ó,Á a];exact(h.lk _<|Ò a).1.wd;rw[Ó,ý<|by lia];exact λt b=>by cases b
def Cv(P:Int)(ws:ki)(rs:List<|Str×qB):Option<|Nat×(Nat->Int):=if BS P (EA ws rs 0) (λϊ=>0)=true then ↑(0,λϊ=>0) else none
def X9{P:Int}(h:Bo P){ws:ki}{rs:List<|Str×qB}{dd:List Sd}(K:SpK ws rs dd):GV [Ao ws rs dd]=↑(.ok<|JS P ws.length<|Cv P ws rs):=by
 have d:=En K.sp.r;have f:=AK _ d;have sd:=K.sp.sd;have e:=AK _ sd;have w2:=K.w2;have r1:=K.sp.r.l1;have k:=K9 K.sp.r 0;have gs:=k.sh;have c:=LG h (by lia:ws.length<=7) (λϊ=>0) k
 have n:AZ (rs.map A9) 0=↑(.tup [.str (rs.getD 0 (Str.empty,[])).1,.lst (rs.getD 0 (Str.empty,[])).2]):=IK (i:=0)<|by lia
 have a:=DW ws.length P λϊ=>0;have g:=AK _ a
 have l:CJ (AD 0) (mC<|.bl true) OS (ws.map T.str) [none]=↑(AU ws.length P λϊ=>0):=by
  have:=GJ (b:=AD 0) (me:=OS) T.str (λϊ=>Cm P 0) (λY=>∃y,Y=[y]) ws [none] {(none),rfl} λx r Y o=>by
   let(y,rfl):=o;refine{[↑(.str x)],by simp![],?_,_,rfl};rw[Ug h.p];unfold OS
   simp![]
  rw[this];refine congrArg some<|ES (À _) λi p=>?_
  rw[È,Á p];rfl
 have m:ws.length<=100000:=by lia
 have q:Cv P ws rs=if BS P (EA ws rs 0) (λϊ=>0)=true then ↑(0,λϊ=>0) else none:=rfl
 rw[q];change Fb [.lst (rs.getD 0 (Str.empty,[])).2,.lst<|ws.map T.str,.lst<|AU ws.length P λϊ=>0]=↑(.ok<|.bl<|BS P (EA ws rs 0) λϊ=>0) at c;change (rs.getD 0 (Str.empty,[])).2=GT;cases j:BS P (EA ws rs 0) λϊ=>0 with
 |true=>
  rw[j]at c;erw[Ä];show _=↑(Ru.ok<|.tup [.int ((0:Nat):Int),.lst<|AU ws.length P λϊ=>0])
  rw[show((0:Nat):Int)=0 from rfl];change (AU ws.length P λϊ=>0)=VT;unfold GV N3
  simp![AX,AV,d,f,sd,e,l,À,m,a,g,n,gs,AK _ gs,c]
 |false=>
  rw[j]at c;erw[ę,Ã];show _=↑(Ru.ok .non);change (AU ws.length P λϊ=>0)=VT
  unfold GV N3
  simp![AX,AV,d,f,sd,e,l,À,m,a,g,n,gs,AK _ gs,c]
abbrev RW:Stmt:=top 85
def OQ:AI:=
 (AN HA<|AB (AA 0)<|AB (AA 1) AE)
def MJ:AG:=
 (A8 (m2 De (AJ (AA 6)<|AA 5)<|AA 13) (IH 4 (AA 5)<|BV<|AB (mC<|.int 0)<|AB (mC<|.int 1) AE) A7)
def N1:AG:=
 (AF (AS (AA 0)<|Ad 3<|AH (AD 6)<|AH (AD 7)<|AH (AD 8) Ah)
 (AF (AS (AA 1)<|Ad 2<|AH (AD 9)<|AH (AD 4) Ah)
 (AF (Ff 4) (AF (CU 4<|Az 1 [2] (Aq<|AA 4) (AD 0) (mC<|.bl true) OQ)
 (AF (A8 (BW<|AN Fb<|AB (AJ (AJ (AA 7)<|AA 9)<|mC<|.int 1)<|AB (AA 6)<|AB (AA 4) AE) (AO<|mC .non) A7)
 (AF (A8 (m2 (BD false) (AA 3)<|mC .non) (AF (Ff 4)<|AO<|BV<|AB (AA 9)<|AB (AA 4) AE) A7)
 (AF (AS (AJ (AA 8)<|AA 3)<|Ad 5<|AH (AD 10)<|AH (AD 11)<|AH (AD 12)<|AH (AD 13)<|AH (AD 14) Ah)
 (AF (A8 (B0 (m2 Cd (AA 10)<|AA 9)<|B0 (m2 Cd (AA 14)<|mC<|.str "")<|BW<|AN Fb<|AB (AA 12)<|AB (AA 6)<|AB (AA 4) AE) (AO<|mC .non) A7)
 (AF (BE (C0<|AB (m1 BO<|AA 6) AE) (AD 5) MJ)
 (AF (A8 (BW<|AN Fb<|AB (AJ (AJ (AA 7)<|AA 11)<|mC<|.int 1)<|AB (AA 6)<|AB (AA 4) AE) (AO<|mC .non) A7)
 (AF (Ff 4)<|AO<|BV<|AB (AA 11)<|AB (AA 4) AE)))))))))))
def Gy:qB->Option Ru:=AW 4 15 N1
abbrev Uz:=fA 3 4 RW Gy
abbrev zim:Gm:=gA RW 2 [("_law_plus",OB),("_law_holds",OC)] ["range","len"] ["_law_values"] (N:=["_law_spec","_law_stand","_law_wait","_law_number_here","_law_values","_law_k","_law_watches","_law_rooms","_law_doors","_law_room","_law_begin","_law_end","_law_guard_here","_law_noughts","_law_sign"])
theorem zja:Ck zim Uz RW N1:={}
def CN(P:Int)(ws:ki)(rs:List<|Str×qB)(dd:List Sd)(s:Nat×(Nat->Int))(w:Int)(k:Option Nat):Option<|Nat×(Nat->Int):=
 if BS P (EA ws rs s.1) (λp=>s.2 p+w)=true then (match k with
  |none=>↑(s.1,λp=>s.2 p+w)|some k=>(match dd[k]? with
   |some d=>if d.b=s.1/\d.z=Str.empty/\BS P (d.g.map<|BY ws) (λp=>s.2 p+w)=true/\BS P (EA ws rs d.e) (λp=>if p∈As ws d.n then 0 else s.2 p+w)=true then ↑(d.e,λp=>if p∈As ws d.n then 0 else s.2 p+w) else none
   |none=>none)) else none
def bR{ws:ki}(nd:ws.Nodup){ns:ki}(a:∀x∈ns,x∈ws){j:Nat}(hj:j<ws.length):ws[j]∈ns ↔ j+1∈As ws ns:=by
 unfold As;rw[Ð];constructor;intro h;refine{ws[j],h,?_};rw[fJ nd hj];rfl;rintro⟨x,b,e⟩;let(i,c,d,ex):=Gn<|a x b
 simp_all
def zK(k:Nat)(ps:kq)(y:Nat->Int):Nat->Int:=λp=>if p∈ps/\p<=k then 0 else y p
def zk0{P:Int}(h:Bo P){ws:ki}(tw:CA ws)(nd:ws.Nodup)(wl:ws.length<=2){ns:ki}(f:∀x∈ns,x∈ws)(y:Nat->Int){a0 a1 a2 a3 a7 a8 a9 a10 a11 a12 a14:kr}{x5:kr} :
  ∃y5,Ar (AD 5) MJ (mT ws.length λi=>.int (i:Int)) [a0,a1,a2,a3,↑(.own<|AU ws.length P y),x5,↑(.lst<|ws.map T.str),a7,a8,a9,a10,a11,a12,↑(.lst<|ns.map T.str),a14] =
   ↑(.nx [a0,a1,a2,a3,↑(.own (AU ws.length P λp=>if p∈As ws ns then 0 else y p)),y5,↑(.lst<|ws.map T.str),a7,a8,a9,a10,a11,a12,↑(.lst<|ns.map T.str),a14]):=by
 have a:=LM (b:=AD 5) (body:=MJ) (n:=ws.length) (g:=λi=>.int (i:Int)) (Y:=[a0,a1,a2,a3,↑(.own<|AU ws.length P y),x5,↑(.lst<|ws.map T.str),a7,a8,a9,a10,a11,a12,↑(.lst<|ns.map T.str),a14])
  (λk Y=>∃y5,Y=[a0,a1,a2,a3,↑(.own<|AU ws.length P<|zK k (As ws ns) y),y5,↑(.lst<|ws.map T.str),a7,a8,a9,a10,a11,a12,↑(.lst<|ns.map T.str),a14])
  {x5,by
   rw[show AU ws.length P (zK 0 (As ws ns) y)=AU ws.length P y from DM λi ϊ=>by
    unfold zK
    rw[if_neg<|by lia]]} (by
   rintro k Y hk ⟨y5,rfl⟩;refine{[a0,a1,a2,a3,↑(.own<|AU ws.length P<|zK k (As ws ns) y),↑(.int (k:Int)),↑(.lst<|ws.map T.str),a7,a8,a9,a10,a11,a12,↑(.lst<|ns.map T.str),a14],by simp![],[a0,a1,a2,a3,↑(.own<|AU ws.length P<|zK (k+1) (As ws ns) y),↑(.int (k:Int)),↑(.lst<|ws.map T.str),a7,a8,a9,a10,a11,a12,↑(.lst<|ns.map T.str),a14],?_,_,rfl};have l:AZ (ws.map T.str) (k:Int)=↑(.str ws[k]):=DC (by rw[È,Á hk];rfl);have tn:CA ns:=λx q=>tw x<|f x q
   have c:=Jc (o:=false) (k:=.lst) tn<|tw _<|Ò hk;have r:CZ (AU ws.length P<|zK k (As ws ns) y).length (k:Int)=↑k:=by rw[CI];exact zq4 hk
   have z0:fr 0 1=Cm P 0:=(Ug h.p).symm;unfold MJ;by_cases m:ws[k]∈ns;rw[Ç m]at c
   have st:(AU ws.length P<|zK k (As ws ns) y).set k (fr 0 1)=AU ws.length P (zK (k+1) (As ws ns) y):=by
    rw[z0];unfold AU;rw[N9];refine DM λj d=>?_;have:=bR nd f d;unfold zK;grind
   rw[<- st];change AU ws.length P (zK k (As ws ns) y)=VT
   simp![AX,AV,l,c,r]
   rw[Õ m]at c
   have st:AU ws.length P (zK k (As ws ns) y)=AU ws.length P (zK (k+1) (As ws ns) y):=DM λj d=>by
    have:=bR nd f d;unfold zK;grind
   rw[<- st];change AU ws.length P (zK k (As ws ns) y)=VT
   simp![AX,AV,l,c])
 let(s,e,y5,rfl):=a;refine{y5,e.trans ?_}
 rw[show AU ws.length P (zK ws.length (As ws ns) y)=AU ws.length P (λp=>if p∈As ws ns then 0 else y p) from DM λj d=>by
  unfold zK
  grind]
def Bb:Option Nat->T
 |some k=>.int (k:Int)|none=>.non
def QH{P:Int}(h:Bo P){ws:ki}{rs:List<|Str×qB}{dd:List Sd}(K:SpK ws rs dd){r:Nat}(Z:r<rs.length)(x:Nat->Int){w a b:Int}(Y:Bo b)(e:a * P=w * b){k:Option Nat}(hk:∀i∈k,i<dd.length):Gy [Ao ws rs dd,DX P ws.length r x,fr a b,Bb k]=↑(.ok<|JS P ws.length<|CN P ws rs dd (r,x) w k):=by
 have C:=En K.sp.r;have D:=AK _ C;have sd:=K.sp.sd;have M:=AK _ sd;have w2:=K.w2;have U:=K9 K.sp.r r;have gs:=U.sh;have t:=DW ws.length P x;have y:=AK _ t;have l:=DW ws.length P λp=>x p+w
 have m:=AK _ l
 have lc:CJ (AD 0) (mC<|.bl true) OQ (AU ws.length P x) [none,↑(fr a b)]=↑(AU ws.length P λp=>x p+w):=Cq (n:=ws.length) (me:=OQ) (x:=none) (cs:=[↑(fr a b)]) (g:=λj=>Cm P<|x<|j+1) (f:=λj=>Cm P<|x (j+1)+w) λj hj=>by
  unfold OQ
  simp![lplP (v:=x<|j+1) h Y e]
 have ll:(AU ws.length P x).length<=100000:=by rw[CI];lia
 have V:=IK Z;have O:Fb [.lst (rs.getD r (Str.empty,[])).2,.lst<|ws.map T.str,.lst<|AU ws.length P λp=>x p+w]=↑(.ok<|.bl<|BS P (EA ws rs r) λp=>x p+w):=LG h (by lia:ws.length<=7) (λp=>x p+w) U
 have oU:JS P ws.length (↑(r,λp=>x p+w))=.tup [.int (r:Int),.lst<|AU ws.length P λp=>x p+w]:=rfl;have L:JS P ws.length none=.non:=rfl;refine Fy rfl ?_;show N1 [↑(Ao ws rs dd),↑(.tup [.int (r:Int),.lst<|AU ws.length P x]),↑(fr a b),↑(Bb k),none,none,none,none,none,none,none,none,none,none,none]=_;unfold CN N1;dsimp only;change (rs.getD r (Str.empty,[])).2=GT;change (rs.getD r (Str.empty,[])).1=GN;generalize X:(AU ws.length P λp=>x p+w)=VU at *
 change AU ws.length P x=VT;change BS P (EA ws rs r) (λp=>x p+w)=B;refine sq (by simp![AX,AV,C,D,sd,M];rfl)<|sq (by simp![t,y];rfl)<|Di (by simp![t,y])<|sq (by simp![t,y,lc,ll];rfl) ?_
 cases B with
 |false=>exact sr (by simp![AX,AV,C,D,V,gs,AK _ gs,l,m,O,Ã,ę,L])|true=>
  refine Di (by simp![AX,AV,C,D,V,gs,AK _ gs,l,m,O]) ?_;rw[if_pos rfl];cases k with
  |none=>exact sr (by simp![Bb,l,m,oU])|some k=>
   have o:=hk k rfl;have R:=K.sp.d _<|Ò o;have S:BX ws CM dd[k].g:=R.g;have q:=S.sh;have u:=AK _ q;have W:=QO o
   have tz:PyData.strOk dd[k].z=true:=by
    rcases K.z _ (Ò o) with e|e<;>rw[e]<;>decide +kernel
   have J:=zpi tz VL;have H:=LG h (by lia:ws.length<=7) (λp=>x p+w) S
   have G:=IK (K.sp.b _<|Ò o).2;have F:=K9 K.sp.r dd[k].e;have s:=F.sh;have Q:Fb [.lst (rs.getD dd[k].e (Str.empty,[])).2,.lst<|ws.map T.str,.lst (AU ws.length P λp=>if p∈As ws dd[k].n then 0 else x p+w)]=↑(.ok<|.bl (BS P (EA ws rs dd[k].e) λp=>if p∈As ws dd[k].n then 0 else x p+w)):=LG h (by lia:ws.length<=7) (λp=>if p∈As ws dd[k].n then 0 else x p+w) F
   let(y5,N):=zk0 (ws:=ws) (ns:=dd[k].n) h K.mc.tw K.mc.wd w2 R.n (λp=>x p+w) (a0:=↑(Ao ws rs dd)) (a1:=↑(.tup [.int (r:Int),.lst VT])) (a2:=↑(fr a b)) (a3:=↑(.int (k:Int))) (a7:=↑(CV rs)) (a8:=↑(.lst<|dd.map Bd)) (a9:=↑(.int (r:Int))) (a10:=↑(.int (dd[k].b:Int))) (a11:=↑(.int (dd[k].e:Int))) (a12:=↑(.lst dd[k].g)) (a14:=↑(.str dd[k].z)) (x5:=none);have A:=DW ws.length P λp=>if p∈As ws dd[k].n then 0 else x p+w
   have E:=AK _ A;have oW:JS P ws.length (↑(dd[k].e,λp=>if p∈As ws dd[k].n then 0 else x p+w))=.tup [.int (dd[k].e:Int),.lst (AU ws.length P λp=>if p∈As ws dd[k].n then 0 else x p+w)]:=rfl
   have ok:CF (ws.length:Int)=true:=Et<|by lia
   have rg:Cc 0 ws.length=mT ws.length λi=>.int (i:Int):=Cz;erw[Á o];rw[X]at H N;change dd[k]=d;change (AU ws.length P λp=>if p∈As ws d.n then 0 else x p+w)=VW;change (rs.getD d.e (Str.empty,[])).2=G2;change (rs.getD d.e (Str.empty,[])).1=N2;refine Di (by simp![Bb])<|sq (by simp![Bb,sd,M,W,q,u,AX,AV];rfl) ?_
   have I:(!((d.b:Int) == (r:Int)))=!decide (d.b=r):=by grind
   by_cases c:d.b=r/\d.z=Str.empty/\BS P (d.g.map<|BY ws) (λp=>x p+w)=true;let(c1,c2,c3):=c;rw[c3]at H;rw[Ç c1]at I;rw[Ç (show d.z=Str.ofString "" from c2)]at J;refine Di (by simp![Ga,I,J,q,u,AX,AV,l,m,H])<|sq (by simp![AX,AV,À,ok,ï,rg,N];rfl) ?_
   change BS P (EA ws rs d.e) (λp=>if p∈As ws d.n then 0 else x p+w)=B2;cases B2 with
   |true=>
    rw[if_pos {(c1),c2,c3,rfl}]
    simp![AX,AV,C,D,G,s,AK _ s,A,E,Q,oW]
   |false=>
    rw[if_neg λz=>ö z.2.2.2];exact sr<|by simp![AX,AV,C,D,G,s,AK _ s,A,E,Q,L]
   rw[if_neg λz=>c {(z.1),z.2.1,z.2.2.1}];refine sr ?_;have c:¬ (decide (d.b=r)=true/\decide (d.z=Str.ofString "")=true/\BS P (d.g.map<|BY ws) (λp=>x p+w)=true):=λz=>c {ä z.1,ä z.2.1,z.2.2}
   change BS P (d.g.map<|BY ws) (λp=>x p+w)=B1;change decide (d.z=Str.ofString "")=B2;change decide (d.b=r)=B3
   cases B1<;>cases B2<;>cases B3<;>first
    |exact absurd ⟨rfl,rfl,rfl⟩ c
    |simp![Ga,I,J,q,u,AX,AV,l,m,H,L]
abbrev R5:Stmt:=top 80
def kQ:AI:=
 (AA 2)
def Ws:AG:=
 (AS (B5 Hl<|AB (m2 BL (BI<|BA (AA 1) AE)<|Az 3 [] (Aq<|AA 3) (Ad 3<|AH (AD 0)<|AH (AD 1)<|AH (AD 2) Ah) (mC<|.bl true) kQ) AE)<|AD 1)
def kP:AI:=
 (AA 2)
def Wq:AG:=
 (AS (B5 Hl<|AB (m2 BL (BI<|BA (AA 1) AE)<|Az 3 [] (Aq<|AA 6) (Ad 3<|AH (AD 0)<|AH (AD 1)<|AH (AD 2) Ah) (mC<|.bl true) kP) AE)<|AD 1)
def Tu:AG:=
 (AF (AS (mC<|.int 1)<|AD 1)
 (AF (BE (Aq<|AJ (AA 0)<|mC<|.int 1) (Ad 2<|AH (AD 2)<|AH (AD 3) Ah) Ws)
 (AF (BE (Aq<|AJ (AA 0)<|mC<|.int 2) (Ad 5<|AH (AD 4)<|AH (AD 5)<|AH (AD 6)<|AH (AD 7)<|AH (AD 8) Ah) Wq)
 (AO<|AA 1))))
def Ll:qB->Option Ru:=AW 1 9 Tu
abbrev VB:=fA 1 1 R5 Ll
abbrev zg6:Gm:=gA R5 0 [] ["max"]
theorem zgr:Ck zg6 VB R5 Tu:={}
def fE:∀ns:kj,IY (ns.map T.int)=↑ns
 |[]=>rfl|i::r=>by
  rw[Ù];unfold IY;rw[fE r];rfl
def zpl{ns:kj}(h:∀x∈ns,0<=x):0<=NP ns:=by
 unfold NP;rw[Ó];cases e:ns[argBest (λi j=>decide (ns.getD i 0 > ns.getD j 0))<|ns.length - 1]? with
 |none=>simp_all|some y=>exact h y<|õ e
def cF{ws wd:ki}{l:qB}(d:BX ws wd l)(s:l.length<=1000){a:Int}(a0:0<=a){j:Nat}{me:AI}(e:∀x y z,me [x,y,↑(.int z)]=↑(.v (.int z) false)){Y:AM}(p:Y[1]?=↑(↑(.int a)))(hj:Y[j]?=↑(↑(.lst l)))(c:1<Y.length) :
  ∃b,0<=b/\AS (B5 Hl<|AB (m2 BL (BI<|BA (AA 1) AE)<|Az 3 [] (Aq<|AA j) (Ad 3<|AH (AD 0)<|AH (AD 1)<|AH (AD 2) Ah) (mC<|.bl true) me) AE) (AD 1) Y=↑(.nx<|Y.set 1<|↑(.int b)):=by
 have h:=GJ (b:=Ad 3<|AH (AD 0)<|AH (AD 1)<|AH (AD 2) Ah) (me:=me) (λt:T=>t) (λt=>.int<|BJ t) (λY=>∃x y z,Y=[x,y,z]) l [none,none,none] {(none),none,none,rfl} λt f Y q=>by
  let(x,y,z,rfl):=q;let(r,u,v,w):=Gg<|d t f;refine{[↑(.str<|DB t),↑(.str<|Ce t),↑(.int<|BJ t)],by rw[r];simp![DB,Ce,BJ],e _ _ _,_,_,_,rfl}
 rw[List.map_id']at h;have k:=d.sh;have o:=AK _ k
 have nn:∀x∈a::l.map BJ,0<=x:=λx g=>by
  rcases Ì.mp g with rfl|g;exact a0;let(t,f,rfl):=Ð.mp g;exact(Gg<|d t f).2.2.2
 have n:IY (l.map λt=>T.int<|BJ t)=↑(l.map BJ):=by
  have:=fE<|l.map BJ;rw[è]at this;exact this
 have l1:l.length<=100000:=by lia
 have l2:1+l.length<=100000:=by lia
 have i:A3 (l.map λt=>T.int<|BJ t)=true:=EM λϊ ϊ=>rfl;have m:=AK _ i;refine{NP<|a::l.map BJ,zpl nn,?_}
 simp![p,hj,k,o,l1,h,À,l2,i,m,c,n]
def Xn{ws:ki}{rs:List<|Str×qB}{dd:List Sd}(sr:A3 (rs.map A9)=true)(sd:A3 (dd.map Bd)=true)(z:∀r∈rs,BX ws D0 r.2/\r.2.length<=2)(hd:∀d∈dd,BX ws CM d.g/\d.g.length<=2):∃m,0<=m/\Ll [Ao ws rs dd]=↑(.ok<|.int m):=by
 have y:=AK _ sr;have x:=AK _ sd
 let(Y,e,m,x2,a,rfl,c):=Du (b:=Ad 2<|AH (AD 2)<|AH (AD 3) Ah) (body:=Ws) (ts:=rs.map A9) (Y:=[↑(Ao ws rs dd),↑(.int 1),none,none,none,none,none,none,none])
  (λϊ Y=>∃m x2 a,Y=[↑(Ao ws rs dd),↑(.int m),x2,a,none,none,none,none,none]/\0<=m) {1,none,none,rfl,by decide} λi t Y g h=>by
  let(m,x2,a,rfl,c):=h;let(r,l,rfl):=Ð.mp<|õ g;let(n,A):=z r l;let(b,f,eb):=cF n (by lia) c (j:=3) (me:=kQ) (λϊ ϊ ϊ=>rfl) (Y:=[↑(Ao ws rs dd),↑(.int m),↑(.str r.1),↑(.lst r.2),none,none,none,none,none]) rfl rfl<|by simp
  exact{_,by simp![],_,eb,b,_,_,rfl,f}
 let(Y,w,m2,p,q,s,u,v,rfl,o):=Du (b:=Ad 5<|AH (AD 4)<|AH (AD 5)<|AH (AD 6)<|AH (AD 7)<|AH (AD 8) Ah) (body:=Wq) (ts:=dd.map Bd) (Y:=[↑(Ao ws rs dd),↑(.int m),x2,a,none,none,none,none,none])
  (λϊ Y=>∃m p q s u v,Y=[↑(Ao ws rs dd),↑(.int m),x2,a,p,q,s,u,v]/\0<=m) {(m),none,none,none,none,none,rfl,c} λi t Y g h=>by
  let(m,p,q,s,u,v,rfl,c):=h;let(d,k,rfl):=Ð.mp<|õ g;let(n,A):=hd d k;let(b,f,eb):=cF n (by lia) c (j:=6) (me:=kP) (λϊ ϊ ϊ=>rfl) (Y:=[↑(Ao ws rs dd),↑(.int m),x2,a,↑(.int (d.b:Int)),↑(.int (d.e:Int)),↑(.lst d.g),↑(.lst<|d.n.map T.str),↑(.str d.z)]) rfl rfl<|by simp
  exact{_,by simp![],_,eb,b,_,_,_,_,_,rfl,f}
 refine{m2,o,?_};unfold Ll Tu
 simp![AX,AV,sr,y,sd,x,e,w]
abbrev R8:Stmt:=top 87
def ML:AG:=
 (AF (AS (AJ (AA 2)<|IT (AA 1)<|AA 5)<|Ad 2<|AH (AD 9)<|AH (AD 10) Ah)
 (AF (AS (BV<|AB (m2 EB (m2 Bl (AA 7)<|AA 10)<|AA 9)<|AB (AA 10) AE)<|AD 8)
 (AF (A8 (m2 Au (AA 6)<|mC<|.str ">") (AS (AN HA<|AB (AA 8)<|AB (AA 3) AE)<|AD 8) A7)
 (A8 (Bg (m2 De (AA 6)<|BV<|AB (mC<|.str ">")<|AB (mC<|.str ">=")<|AB (mC<|.str "=") AE)<|m2 (Br λi j=>decide (j<i)) (m2 Bl (AJ (AA 8)<|mC<|.int 0)<|AJ (AA 4)<|mC<|.int 1)<|m2 Bl (AJ (AA 4)<|mC<|.int 0)<|AJ (AA 8)<|mC<|.int 1) (AS (AA 8)<|AD 4) A7))))
def Tw:AG:=
 (AF (AS (BV<|AB (mC<|.int 0)<|AB (mC<|.int 1) AE)<|AD 4)
 (AF (BE (Aq<|AA 0) (Ad 3<|AH (AD 5)<|AH (AD 6)<|AH (AD 7) Ah) ML)
 (AO<|AA 4)))
def Lm:qB->Option Ru:=AW 4 11 Tw
abbrev iX:=fA 3 4 R8 Lm
abbrev ziq:Gm:=gA R8 2 [("_law_plus",OB)] [] (N:=["_law_looks","_law_watches","_law_values","_law_little","_law_need_here","_law_watch","_law_word","_law_number_here","_law_least","_law_top","_law_bottom"])
theorem zjd:Ck ziq iX R8 Tw:={}
def dJ{P v w a b c d:Int}(h:Bo P)(e:Bo b)(hd:Bo d)(f:a * P=v * b)(g:c * P=w * d):HA [fr a b,fr c d]=↑(.ok<|Cm P<|v+w):=by
 have i:=dM (a:=a) (c:=c) e hd
 have k:=UK (t:=a * d+c * b) (b:=b * d) (u:=v+w) (c:=P) (ÿ e.p hd.p) h.p (by
  calc (a * d+c * b) * P=(a * P) * d+(c * P) * b:=by lia
   _=(v * b) * d+(w * d) * b:=by rw[f,g]
   _=(v+w) * (b * d):=by lia)
 lia
def UL{P v:Int}(h:0<P):Zm.lt v P * P=v * Zm.lb v P:=by
 have a:P≠0:=by lia
 have b:=Zm.lt_mul (t:=v) a;have c:=Zm.lb_mul (t:=v) a
 calc Zm.lt v P * P=Zm.lt v P * (Zm.lb v P * Zm.gd v P):=by rw[c]
  _=(Zm.lt v P * Zm.gd v P) * Zm.lb v P:=by erw[đ,ě,þ]
  _=v * Zm.lb v P:=by rw[b]
structure FP(P a b w:Int):Prop where
 o:Bo b
 e:a * P=w * b
theorem FP.low{P:Int}(h:Bo P)(v:Int):FP P (Zm.lt v P) (Zm.lb v P) v:={h.lb v,UL h.p}
def FP.nn{P a b w:Int}(h:FP P a b w)(d:0<P)(c:0<=a):0<=w:=by
 by_cases z:0<=w;exact z;exfalso;have e:w * b<0:=Ĉ (by lia) h.o.p;have f:=ŀ c<|Ē d;have:=h.e
 lia
def FP.top{P a b w:Int}(h:FP P a b w)(c:0<P)(d:0<=w):0<=a:=by
 by_cases z:0<=a;exact z;exfalso;have e:a * P<0:=Ĉ (by lia) c;have f:=ŀ d<|Ē h.o.p;have:=h.e
 lia
def in3{w:Nat}(h:w<5):De (.str<|FG w) (.tup [.str ">",.str ">=",.str "="])=↑(.bl<|decide (2<=w)):=by
 have:w=0\/w=1\/w=2\/w=3\/w=4:=by lia
 rcases this with rfl|rfl|rfl|rfl|rfl<;>ext
def zll{P:Int}(h:Bo P){ws:ki}(wl:ws.length<=7)(x:Nat->Int){g:qB}(R:BX ws CM g){c d u:Int}(U:FP P c d u):∃a b w,Lm [.lst g,.lst<|ws.map T.str,.lst<|AU ws.length P x,fr c d]=↑(.ok<|fr a b)/\FP P a b w/\0<=w:=by
 have o:=DW ws.length P x;have ev:=AK _ o;have W:=R.sh;have eg:=AK _ W;have Q:ws.length<1000000:=by lia
 have K:∀j:Nat,j<ws.length->AZ (AU ws.length P x) (j:Int)=↑(fr (Zm.lt (x<|j+1) P)<|Zm.lb (x<|j+1) P):=λj M=>Bf M;change AU ws.length P x=VT;let S (v:T) (D E F r s f:kr):AM:=[↑(.lst g),↑(.lst<|ws.map T.str),↑(.lst VT),↑(fr c d),↑v,D,E,F,r,s,f]
 let(Y,e,a,b,w,D,E,F,r,s,f,rfl,A,m):=Du (b:=Ad 3<|AH (AD 5)<|AH (AD 6)<|AH (AD 7) Ah) (body:=ML) (ts:=g) (Y:=S (fr 0 1) none none none none none none)
  (λϊ Y=>∃a b w D E F r s f,Y=S (fr a b) D E F r s f/\FP P a b w/\0<=w) {0,1,0,none,none,none,none,none,none,rfl,{{by decide,by decide +kernel},by rw[Ġ,Ġ]},ó _} λi t Y H y=>by
   let(a,b,w,D,E,F,r,s,f,rfl,A,m):=y;let(k1,k2,k3,k4):=Gg<|R t<|õ H;let(j,ej,M,_):=Gn k2;have K:=K j M;let(q1,V):=MD _ k3;let(_,_,O,_,_):=P6 V;have C:=in3 V;rw[q1]at O C;have N:=FP.low h<|x<|j+1
   have J:FP P (BJ t * Zm.lb (x<|j+1) P - Zm.lt (x<|j+1) P) (Zm.lb (x<|j+1) P)<|BJ t * P - x (j+1):={N.o,by
    have:=N.e;change Zm.lt (x<|j+1) P=p;change Zm.lb (x<|j+1) P=q;rw[ē,ē,this];erw[đ,ě,þ]}
   have u1:CH (BJ t) (Zm.lb (x<|j+1) P)=true:=E9 N.o.s;refine{S (fr a b) (↑(.str<|DB t)) (↑(.str<|Ce t)) (↑(.int<|BJ t)) r s f,by rw[k1];simp![S,DB,Ce,BJ],?_};change DB t=X;generalize Ce t=τ at *;change BJ t=n;change n * P - x (j+1)=w1;change Zm.lt (x<|j+1) P=p;change Zm.lb (x<|j+1) P=q
   let(k,l,w2,G,r2):∃k l w2,FP P k l w2/\A8 (m2 Au (AA 6)<|mC<|.str ">") (AS (AN HA<|AB (AA 8)<|AB (AA 3) AE)<|AD 8) A7 (S (fr a b) (↑(.str X)) (↑(.str τ)) (↑(.int n)) (↑(fr (n * q - p) q)) (↑(.int p))<|↑(.int q))=↑(.nx<|S (fr a b) (↑(.str X)) (↑(.str τ)) (↑(.int n)) (↑(fr k l)) (↑(.int p))<|↑(.int q)):=by
    by_cases m:DV τ=2;exact{_,_,_,FP.low h<|w1+u,by simp![S,O,m,î,dJ h J.o U.o J.e U.e]};exact{_,_,_,J,by simp![S,O,beq_eq_false_iff_ne.mpr m]}
   have Z:CH k b=true:=E9 A.o.s;have u3:CH a l=true:=E9 G.o.s
   have BK (v:T) (H:decide (2<=DV τ)=true/\a * l<k * b->fr k l=v) (y:¬ (decide (2<=DV τ)=true/\a * l<k * b)->fr a b=v):ML (S (fr a b) (↑(.str X)) (↑(.str τ)) (↑(.int n)) r s f)=↑(.nx<|S v (↑(.str X)) (↑(.str τ)) (↑(.int n)) (↑(fr k l)) (↑(.int p))<|↑(.int q)):=by
    unfold ML;refine sq (by simp![S,AX,AV,o,JG,ej,Q,K];rfl)<|sq (by simp![S,u1])<|sq r2 ?_
    change decide (2<=DV τ)=B;by_cases I:a * l<k * b<;>cases B;rw[<- y<|by simp]
    simp![S,C]
    rw[<- H {(rfl),I}]
    simp![S,C,Z,u3,I,decide_true]
    rw[<- y<|by simp]
    simp![S,C]
    rw[<- y λz=>I z.2]
    simp![S,C,Z,u3,I,decide_false]
   by_cases L:decide (2<=DV τ)=true/\a * l<k * b
   exact{_,BK _ (λϊ=>rfl)<|λz=>absurd L z,k,l,w2,_,_,_,_,_,_,rfl,G,G.nn h.p (by
    have:=A.top h.p m;by_cases z:0<=k;exact z;exfalso;have H:k * b<0:=Ĉ (by lia) A.o.p;have y:=ŀ this<|Ē G.o.p;have:=L.2
    lia)}
   exact{_,BK _ (λz=>absurd z L)<|λϊ=>rfl,a,b,w,_,_,_,_,_,_,rfl,A,m}
 refine{a,b,w,?_,A,m};unfold Lm Tw
 simp![S,AX,AV,o,ev,W,eg,e]
abbrev Rj:Stmt:=top 81
def MP:AG:=
 (AF (AS (AN F9<|AB (AA 3)<|AB (mC<|.int 6) AE)<|AD 7)
 (Cb 2<|BV<|AB (AJ (AJ (AA 5)<|m2 BH (AJ (AA 7)<|mC<|.int 0)<|m1 BO<|AA 5)<|mC<|.int 0)<|AB (AN Ht<|AB (Cj (FO (AA 7) (↑(mC<|.int 1)) none)<|Fj (AA 7) (↑(mC<|.int 1)) none)<|AB (m2 BL (m2 CK (AN Ll<|AB (AA 1) AE)<|mC<|.int 4)<|mC<|.int 1)<|AB (AA 4) AE) AE))
def UC:AG:=
 (AF (AS (AA 1)<|Ad 3<|AH (AD 4)<|AH (AD 5)<|AH (AD 6) Ah)
 (AF (CU 2<|BI AE)
 (AF (BE (Aq<|AA 0) (AD 3) MP)
 (AO<|AA 2))))
def Oy:qB->Option Ru:=AW 2 8 UC
abbrev i8:=fA 3 2 Rj Oy
abbrev ziu:Gm:=gA Rj 2 [("_law_stream",LO),("_law_guard",VD),("_law_scale",VB)] ["len"] ["_law_goal_here"] (N:=["_law_cells","_law_spec","_law_goal_here","_law_cell","_law_watches","_law_rooms","_law_doors","_law_xs"])
theorem zjh:Ck ziu i8 Rj UC:={}
def zm7{ws:ki}{rs:List<|Str×qB}{dd:List Sd}(K:SpK ws rs dd)(a:kj)(hk:a.length<=63):∃gl:List (Str×qB),Oy [.lst<|a.map T.int,Ao ws rs dd]=↑(.ok<|.own<|gl.map A9)/\Eg ws (rs.map (·.1)) gl/\gl.length<=a.length:=by
 have q:=En K.sp.r;have C:=AK _ q;have sd:=K.sp.sd;have B:=AK _ sd;have v:=K.sp.r.l1;have tw:CA ws:=K.mc.tw;let(sc,X,x):=Xn (ws:=ws) (rs:=rs) (dd:=dd) q sd (λr v=>{(K.sp.r.lk r v).1,K.l2 r v}) λd hd=>{(K.sp.d d hd).g,K.g2 d hd}
 have Z:Bu 4=true:=C6 (by decide)<|by decide
 have u0:0<=sc.fdiv 4+1:=by
  rw[fd<|by decide];have:=Int.ediv_nonneg X<|show(0:Int)<=4 by decide
  lia
 have nr:((rs.length:Int)=0)=False:=ā<|by lia
 let S (G:qB) (u j:kr):AM:=[↑(.lst<|a.map T.int),↑(Ao ws rs dd),↑(.own G),u,↑(.lst<|ws.map T.str),↑(CV rs),↑(.lst<|dd.map Bd),j]
 let(Y,e,gl,u,j,rfl,g1,g2):=Du (b:=AD 3) (body:=MP) (ts:=a.map T.int) (Y:=S [] none none)
  (λi Y=>∃gl:List (Str×qB),∃u j,Y=S (gl.map A9) u j/\Eg ws (rs.map (·.1)) gl/\gl.length<=i) {[],none,none,rfl,(λg c=>by cases c),é _} λi t Y z P=>by
  let(gl,u,j,rfl,g1,g2):=P;have Q:i<a.length:=by simpa using (Î.mp z).1
  rw[È,Á Q]at z;have O:t=.int a[i]:=(Û z).symm;subst O;let(xs,N):=M9 a[i] (m:=6)<|by decide
  have w:F9 [.int a[i],.int 6]=↑(.ok<|.own<|mT 6 λi=>.int<|xs i):=N;have E:AZ (mT 6 λi=>T.int<|xs i) 0=↑(.int<|xs 0):=Bf (n:=6) (g:=λi=>T.int<|xs i) (k:=0)<|by lia
  have H:Bi (mT 6 λi=>T.int<|xs i) ↑1 none=mT 5 λi=>.int<|xs<|i+1:=by
   have I:HT.sIx 6 0 ↑1=1:=by decide
   have J:HT.sIx 6 6 none=6:=by decide
   unfold Bi;rw[CI,I,J];rfl
  let(l,M,l1,l2):=fU (xs:=λi=>xs<|i+1) u0 tw;have U:=HZ (xs 0) v;have h:((xs 0).fmod rs.length).toNat<rs.length:=by lia
  have F:AZ (rs.map A9) ((xs 0).fmod rs.length)=↑(.tup [.str (rs[((xs 0).fmod rs.length).toNat]).1,.lst (rs[((xs 0).fmod rs.length).toNat]).2]):=L5 U.1 (by rw[È,Á h];rfl);have W:gl.length<100000:=by lia
  have o:=l1.sh;have y:=AK _ o
  have p:A3 (rs[((xs 0).fmod rs.length).toNat]).2=true:=by
   have s:=q;rw[DI,Ö]at s;simpa[T.sh,A3] using s _ (ĩ<|Ò h)
  have A:A3 (mT 6 λi=>T.int<|xs i)=true:=JI _;have ex:=AK _ A;have D:A3 (mT 5 λi=>T.int<|xs<|i+1)=true:=JI _
  have L:=AK _ D;refine{S (gl.map A9) (↑(.int a[i])) j,by simp![S],_,?_,gl++[(rs[((xs 0).fmod rs.length).toNat].1,l)],↑(.int a[i]),↑(.lst<|mT 6 λi=>.int<|xs i),rfl,λg c=>?_,by rw[ë,Ũ];lia};rw[á,ų];show MP _=↑(.nx<|S (gl.map A9++[.tup [.str (rs[((xs 0).fmod rs.length).toNat]).1,.lst l]]) _ _);have V:(gl.map A9).length<100000:=by rw[À];exact W
  change (mT 6 λi=>T.int<|xs i)=XT;change (mT 5 λi=>T.int<|xs<|i+1)=XU;change rs[((xs 0).fmod rs.length).toNat]=R;change gl.map A9=GT;unfold MP;refine sq (by simp![S,w,A,ex];rfl) ?_
  simp![S,AX,AV,q,C,sd,B,A,ex,E,À,nr,F,H,D,L,x,Z,M,o,y,V,p]
  rcases ß.mp c with c|c;exact g1 g c;rw[Ï.mp c];exact{ĩ (f:=(·.1))<|Ò h,l1,l2}
 rw[À]at g2;refine{gl,?_,g1,g2};have lk:(a.map T.int).length<=100000:=by rw[À];lia
 unfold Oy UC
 simp![S,AX,AV,q,C,sd,B,IG,JH,e,lk]
abbrev Rk:Stmt:=top 88
def U4:AI:=
 (Bg (m2 Au (AJ (AJ (AA 1)<|AA 0)<|mC<|.int 0)<|AJ (AA 2)<|mC<|.int 0)<|m2 Au (AJ (AJ (AA 1)<|AA 0)<|mC<|.int 4)<|mC<|.str "")
def Vy:AI:=
 (AA 0)
def MQ:AG:=
 (AF (AS (AN Gy<|AB (AA 0)<|AB (AA 2)<|AB (AA 14)<|AB (AA 12) AE)<|AD 15)
 (A8 (m2 (BD true) (AA 15)<|mC .non) (AF (Cb 4<|BV<|AB (AA 14)<|AB (AA 12) AE)
 (AF (AS (AA 15)<|AD 2)
 K7)) A7))
def JB:AG:=
 (AF (A8 (m2 (BD false) (AA 2)<|mC .non) K7 A7)
 (AF (AS (AN F9<|AB (AA 5)<|AB (mC<|.int 5) AE)<|AD 9)
 (AF (AS (Az 1 [8,2] (C0<|AB (m1 BO<|AA 8) AE) (AD 0) U4 Vy)<|AD 10)
 (AF (AS (BV<|AB (AJ (BI<|BA (mC<|.int 0)<|BA (mC<|.int 0)<|BA (m2 BH (AJ (AA 9)<|mC<|.int 2)<|mC<|.int 3)<|BA (m2 BH (AJ (AA 9)<|mC<|.int 2)<|m2 BL (mC<|.int 1)<|AA 3) AE)<|m2 BH (AJ (AA 9)<|mC<|.int 3)<|mC<|.int 4)<|AB (m2 BL (mC<|.int 1)<|m2 BH (m2 CK (AJ (AA 9)<|mC<|.int 3)<|mC<|.int 4)<|mC<|.int 3) AE)<|AD 11)
 (AF (AS (mC .non)<|AD 12)
 (AF (AS (BV<|AB (mC<|.int 0)<|AB (mC<|.int 1) AE)<|AD 13)
 (AF (A8 (Bg (m2 Cd (AA 10)<|BI AE)<|m2 (Br λi j=>decide (j<i)) (m2 BH (AJ (AA 9)<|mC<|.int 0)<|mC<|.int 8)<|mC<|.int 0) (AF (AS (AJ (AA 10)<|m2 BH (m2 CK (AJ (AA 9)<|mC<|.int 0)<|mC<|.int 8)<|m1 BO<|AA 10)<|AD 12)
 (AS (AN Lm<|AB (AJ (AJ (AA 8)<|AA 12)<|mC<|.int 2)<|AB (AA 6)<|AB (AJ (AA 2)<|mC<|.int 1)<|AB (BV<|AB (mC<|.int 1)<|AB (m2 BL (mC<|.int 1)<|m2 BH (AJ (AA 9)<|mC<|.int 1)<|mC<|.int 3) AE) AE)<|AD 13)) A7)
 (BE (Aq<|BI<|BA (AN HA<|AB (AA 13)<|AB (AA 11) AE)<|BA (AA 13) AE) (AD 14) MQ))))))))
def J2:AG:=
 (AF (AS (AA 0)<|Ad 3<|AH (AD 6)<|AH (AD 7)<|AH (AD 8) Ah)
 (AF (AS (AN GV<|AB (AA 0) AE)<|AD 2)
 (AF (AS (AN Ll<|AB (AA 0) AE)<|AD 3)
 (AF (CU 4<|BI AE)
 (AF (BE (Aq<|AA 1) (AD 5) JB)
 (AO<|AA 4))))))
def Oz:qB->Option Ru:=AW 2 16 J2
abbrev i9:=fA 4 2 Rk Oz
abbrev zga:Gm:=gA Rk 3 [("_law_start",VA),("_law_scale",VB),("_law_stream",LO),("_law_need",iX),("_law_plus",OB),("_law_step",Uz)] ["range","len"] ["_law_steps"] (N:=["_law_spec","_law_cells","_law_stand","_law_scale_here","_law_steps","_law_cell","_law_watches","_law_rooms","_law_doors","_law_xs","_law_ways","_law_more","_law_number_here","_law_need_here","_law_wait","_law_after"])
theorem zgv:Ck zga i9 Rk J2:={}
def Dj(P:Int)(ws:ki)(rs:List<|Str×qB)(dd:List Sd):Option (Nat×(Nat->Int))->List (Int×Option Nat)->Option (Nat×(Nat->Int))
 |s,[]=>s|none,ϊ=>none|some s,x::r=>Dj P ws rs dd (CN P ws rs dd s x.1 x.2) r
def Mp{P:Int}{ws:ki}{rs:List<|Str×qB}{dd:List Sd}:∀l,Dj P ws rs dd none l=none
 |[]=>rfl|ϊ::ϋ=>rfl
structure Tp where
 w:Int
 a:Int
 b:Int
 k:Option Nat
structure TpOk(P:Int)(n:Nat)(t:Tp):Prop where
 b:Bo t.b
 e:t.a * P=t.w * t.b
 k:∀i∈t.k,i<n
abbrev Ci(t:Tp):T:=.tup [fr t.a t.b,Bb t.k]
set_option tactic.hygienic true in
def QJ{P:Int}{ws:ki}{rs:List<|Str×qB}{dd:List Sd}(K:SpK ws rs dd){s s':Nat×(Nat->Int)}{w:Int}{k:Option Nat}(a:s.1<rs.length)(e:CN P ws rs dd s w k=↑s'):s'.1<rs.length:=by
 unfold CN at e;split at e;split at e;lia;split at e;rename_i d hd;split at e;cases e;exact(K.sp.b d<|õ hd).2;cases e;cases e;cases e
def os_sh(P:Int)(m:Nat)(s:Option<|Nat×(Nat->Int)):(JS P m s).sh=true:=by
 cases s with
 |none=>rfl|some s=>
  show((!false) && (true && (((!false) && A3 (AU m P s.2)) && true)))=true;rw[DW];rfl
def YE{P:Int}{ws:ki}{rs:List<|Str×qB}{dd:List Sd}{x:Int×Option Nat}:∀(l:List<|Int×Option Nat) (s:Option<|Nat×(Nat->Int)),Dj P ws rs dd s (l++[x])=(Dj P ws rs dd s l).bind λs=>CN P ws rs dd s x.1 x.2
 |[],none=>rfl|[],↑s=>by
  show Dj P ws rs dd (CN P ws rs dd s x.1 x.2) []=CN P ws rs dd s x.1 x.2;cases CN P ws rs dd s x.1 x.2<;>rfl
 |y::l,none=>by
  rw[Mp,Mp];rfl
 |y::l,↑s=>YE l<|CN P ws rs dd s y.1 y.2
def VG{b:T->AM->Option AM}{body:AG}{t:T}{ts:qB}{Y τ1 a:AM}(c:b t Y=↑τ1)(d:body τ1=↑(.bk a)):Ar b body (t::ts) Y=↑(.nx a):=by
 conv=>lhs;unfold Ar
 lia
def cC{o:Bool}{l:qB}{n:Nat}(c:n<=60)(h:Fit (.nd o .lst l) n):Cd (.nd o .lst l) (.lst [])=↑(.bl<|!decide (l.length=0)):=by
 rw[(jP h (Fit.nd (o:=false) (k:=.lst) (l:=[]) (n:=0) λϊ z=>by cases z) c).2];cases l with
 |nil=>
  rw[@decide_eq_true _ (Classical.propDecidable _)<|by rfl];rfl
 |cons a r=>
  have e:¬ ((T.nd o .lst<|a::r).data=(T.lst []).data):=λz=>by
   have b:PyData.list (B8<|a::r)=PyData.list (B8 []):=z;injection b with b;cases b
  rw[@decide_eq_false _ (Classical.propDecidable _) e,Õ<|by simp]
theorem GO:Bo 6:={by decide,by decide +kernel}
theorem WA{d:Int}(a:1<=d)(b:d<=3):Bo d:={by lia,by lia}
def Nr{c d:Int}(a:1<=d)(b:d<=3):∃w,FP 6 c d w:=by
 have:d=1\/d=2\/d=3:=by lia
 rcases this with rfl|rfl|rfl;exact{c * 6,WA (by decide) (by decide),by lia};exact{c * 3,WA (by decide) (by decide),by lia};exact{c * 2,WA (by decide) (by decide),by lia}
def dH(i:Int):1<=1+i.fmod 3/\1+i.fmod 3<=3:=by
 lia
def FD(dd:List Sd)(r:Nat):kq:=(List.range dd.length).filter λk=>match dd[k]? with
 |some d=>decide (d.b=r) && decide (d.z=Str.ofString "")|none=>false
def zjr{ws:ki}{rs:List<|Str×qB}{dd:List Sd}(h:SpK ws rs dd){r:Nat}{V:qB}(m:A3 V=true){x:kr}:CJ (AD 0) U4 Vy (Cc 0 dd.length) [x,↑(.lst<|dd.map Bd),↑(.tup [.int (r:Int),.lst V])]=↑((FD dd r).map λk:Nat=>T.int (k:Int)):=by
 rw[show Cc 0 dd.length=mT dd.length λi=>.int (i:Int) from Cz];refine UR (f:=λk:Nat=>T.int (k:Int)) λk hk=>?_;have a:=â.mp hk;have sd:=h.sp.sd;have c:=QO a;have gs:A3 dd[k].g=true:=(h.sp.d _<|Ò a).g.sh
 have p:PyData.strOk dd[k].z=true:=by
  rcases h.z _ (Ò a) with e|e<;>rw[e]<;>decide +kernel
 have o:=GK p VL;have n:∀{x y z v w:T} {l:qB},AZ (x::y::z::v::w::l) (4:Int)=↑w:=DC (j:=4) rfl;rw[Á a];dsimp only;change dd[k]=d;change dd.map Bd=DT;unfold U4 Vy;refine{{false,?_},by simp![]}
 have b:((d.b:Int) == (r:Int))=decide (d.b=r):=by grind
 change decide (d.b=r)=B1;change decide (d.z=Str.ofString "")=B2;have g:=AK _ gs;cases B1 with
 |false=>simp![sd,c,DQ,b,m,gs,g,AV,AX,Ĭ]|true=>simp![sd,c,DQ,b,m,n,o,gs,g,AV,AX,Ŷ]
abbrev dS(A C st:T)(sc:Int)(W:qB)(x5:kr)(B R D:T)(x9 x10 x11 x12 x13 x14 x15:kr):AM:=[↑A,↑C,↑st,↑(.int sc),↑(.own W),x5,↑B,↑R,↑D,x9,x10,x11,x12,x13,x14,x15]
def Y5{ws:ki}{rs:List<|Str×qB}{dd:List Sd}(K:SpK ws rs dd){r:Nat}(q:r<rs.length)(x:Nat->Int){a b w:Int}(o:FP 6 a b w){k:Option Nat}(hk:∀i∈k,i<dd.length){W:qB}(t:W.length<100000){C B R D:T}{sc:Int}{x5 x9 x10 x11 x13 x15:kr} :
  MQ (dS (Ao ws rs dd) C (DX 6 ws.length r x) sc W x5 B R D x9 x10 x11 (↑(Bb k)) x13 (↑(fr a b)) x15)=↑(match CN 6 ws rs dd (r,x) w k with
   |some s=>.bk (dS (Ao ws rs dd) C (DX 6 ws.length s.1 s.2) sc (W++[.tup [fr a b,Bb k]]) x5 B R D x9 x10 x11 (↑(Bb k)) x13 (↑(fr a b))<|↑(DX 6 ws.length s.1 s.2))|none=>.nx<|dS (Ao ws rs dd) C (DX 6 ws.length r x) sc W x5 B R D x9 x10 x11 (↑(Bb k)) x13 (↑(fr a b))<|↑.non):=by
 have l:=En K.sp.r;have n:=AK _ l;have sd:=K.sp.sd;have m:=AK _ sd;have st:=QH GO K q x o.o o.e hk;have h:(Bb k).sh=true:=by cases k<;>rfl
 have j:=Av _ h;have d:=DW ws.length 6 x;have f:=AK _ d;unfold MQ dS DX;cases p:CN 6 ws rs dd (r,x) w k with
 |none=>
  rw[p]at st;have c:Gy [Ao ws rs dd,.tup [.int (r:Int),.lst<|AU ws.length 6 x],fr a b,Bb k]=↑(.ok .non):=st;change AU ws.length 6 x=VT;change Bb k=KT;refine sq (by simp![AX,AV,l,n,sd,m,h,j,d,f,c];rfl) ?_
  simp![]
 |some s=>
  rw[p]at st;have c:Gy [Ao ws rs dd,.tup [.int (r:Int),.lst<|AU ws.length 6 x],fr a b,Bb k]=↑(.ok<|.tup [.int (s.1:Int),.lst<|AU ws.length 6 s.2]):=st;have e:=DW ws.length 6 s.2;have g:=AK _ e;dsimp only;change AU ws.length 6 s.2=VU;change AU ws.length 6 x=VT;change Bb k=KT;refine sq (by simp![AX,AV,l,n,sd,m,h,j,d,f,c,e,g];rfl) ?_
  simp![h,j,e,g,t]
def two45{ws:ki}{rs:List<|Str×qB}{dd:List Sd}(K:SpK ws rs dd){r:Nat}(m:r<rs.length)(x:Nat->Int){a b w c d v:Int}(j:FP 6 a b w)(p:0<=w)(l:FP 6 c d v)(o:0<=v){k:Option Nat}(hk:∀i∈k,i<dd.length){W:qB}(n:W.length<100000){C B R D:T}{sc:Int}{x5 x9 x10 x11 x13 x14 x15:kr} :
  ∃(s:Nat×(Nat->Int)) (L:List Tp) (y14 y15:kr),Ar (AD 14) MQ [fr a b,fr c d] (dS (Ao ws rs dd) C (DX 6 ws.length r x) sc W x5 B R D x9 x10 x11 (↑(Bb k)) x13 x14 x15)=↑(.nx<|dS (Ao ws rs dd) C (DX 6 ws.length s.1 s.2) sc (W++L.map Ci) x5 B R D x9 x10 x11 (↑(Bb k)) x13 y14 y15)/\((L=[]/\s=(r,x))\/∃t:Tp,L=[t]/\TpOk 6 dd.length t/\0<=t.w/\CN 6 ws rs dd (r,x) t.w t.k=↑s):=by
 have e:=Y5 K m x j hk n (C:=C) (B:=B) (R:=R) (D:=D) (sc:=sc) (x5:=x5) (x9:=x9) (x10:=x10) (x11:=x11) (x13:=x13) (x15:=x15);cases g:CN 6 ws rs dd (r,x) w k with
 |some s=>rw[g]at e;exact{s,[{(w),a,b,k}],_,_,VG rfl e,.inr {_,rfl,{(j.o),j.e,hk},p,g}}|none=>
  rw[g]at e;rw[OD (b:=AD 14) rfl e];have f:=Y5 K m x l hk n (C:=C) (B:=B) (R:=R) (D:=D) (sc:=sc) (x5:=x5) (x9:=x9) (x10:=x10) (x11:=x11) (x13:=x13) (x15:=↑.non);cases h:CN 6 ws rs dd (r,x) v k with
  |some s=>rw[h]at f;exact{s,[{(v),c,d,k}],_,_,VG rfl f,.inr {_,rfl,{(l.o),l.e,hk},o,h}}|none=>rw[h]at f;rw[OD (b:=AD 14) rfl f];exact{(r,x),[],_,_,by rw[Đ,Þ];rfl,.inl {(rfl),rfl}}
def zer{ws:ki}{rs:List<|Str×qB}{dd:List Sd}(K:SpK ws rs dd){sc:Int}(s0:0<=sc){r:Nat}(hr:r<rs.length)(x:Nat->Int){W:qB}(lW:W.length<100000)(c:Int){C:T}{x9 x10 x11 x12 x13 x14 x15:kr} :
  ∃(s:Nat×(Nat->Int)) (L:List Tp) (y:Nat->kr),JB (dS (Ao ws rs dd) C (DX 6 ws.length r x) sc W (↑(.int c)) (.lst<|ws.map T.str) (CV rs) (.lst<|dd.map Bd) x9 x10 x11 x12 x13 x14 x15)=↑(.nx<|dS (Ao ws rs dd) C (DX 6 ws.length s.1 s.2) sc (W++L.map Ci) (↑(.int c)) (.lst<|ws.map T.str) (CV rs) (.lst<|dd.map Bd) (y 9) (y 10) (y 11) (y 12) (y 13) (y 14)<|y 15)/\((L=[]/\s=(r,x))\/∃t:Tp,L=[t]/\TpOk 6 dd.length t/\0<=t.w/\CN 6 ws rs dd (r,x) t.w t.k=↑s):=by
 have sd:=K.sp.sd;have ed:=AK _ sd;have dl:=K.sp.l;have w2:=K.w2;have h:=DW ws.length 6 x;have q:=AK _ h;have lw:=zjr K (r:=r) h (x:=none);have ok:CF (dd.length:Int)=true:=Et<|by lia
 have ll:(Cc 0 dd.length).length<=100000:=by unfold Cc;rw[À,ź];lia
 have el:(dd.map Bd).length=dd.length:=À ..;let(xs,es):=M9 c (m:=5)<|by decide
 have Q:F9 [.int c,.int 5]=↑(.ok<|.own<|mT 5 λi=>.int<|xs i):=es;have J:A3 (mT 5 λi=>T.int<|xs i)=true:=JI _;have ex:=AK _ J;have x0:AZ (mT 5 λi=>T.int<|xs i) 0=↑(.int<|xs 0):=Bf (k:=0)<|by decide
 have x1:AZ (mT 5 λi=>T.int<|xs i) 1=↑(.int<|xs 1):=Bf (k:=1)<|by decide
 have x2:AZ (mT 5 λi=>T.int<|xs i) 2=↑(.int<|xs 2):=Bf (k:=2)<|by decide
 have x3:AZ (mT 5 λi=>T.int<|xs i) 3=↑(.int<|xs 3):=Bf (k:=3)<|by decide
 change (mT 5 λi=>T.int<|xs i)=XT;have s3:Bu 3=true:=C6 (by decide)<|by decide
 have s4:Bu 4=true:=C6 (by decide)<|by decide
 have s8:Bu 8=true:=C6 (by decide)<|by decide
 have nz:((1+sc)=0)=False:=ā<|by lia
 let(m,m0,em):∃m:Int,0<=m/\AZ [T.int 0,.int 0,.int<|(xs 2).fmod 3,.int<|(xs 2).fmod (1+sc)] ((xs 3).fmod 4)=↑(.int m):=by
  let(h0,h1):=HZ (xs 3) (n:=4)<|by decide
  have h0:0<=(xs 3).fmod 4:=h0;have h1:(xs 3).fmod 4<4:=h1;have:(xs 3).fmod 4=0\/(xs 3).fmod 4=1\/(xs 3).fmod 4=2\/(xs 3).fmod 4=3:=by lia
  rcases this with z|z|z|z<;>rw[z];exact{_,ó _,Gu};exact{_,ó _,F6};exact{_,ü _ (by decide),L6};exact{_,ü _ (by lia),DC (j:=3) rfl}
 have q1:=dH<|(xs 3).fdiv 4;let(wm,g):=Nr (c:=m) q1.1 q1.2;have wm0:=g.nn (by decide) m0
 have I:A3 ((FD dd r).map λk:Nat=>T.int (k:Int))=true:=EM λϊ ϊ=>rfl;have f:=AK _ I;have u:((FD dd r).map λk:Nat=>T.int (k:Int)).length=(FD dd r).length:=À ..
 have nw:Cd (.lst ((FD dd r).map λk:Nat=>T.int (k:Int))) (.lst [])=↑(.bl<|!decide ((FD dd r).length=0)):=by
  rw[<- u]
  exact cC (n:=1) (by decide) (Fit.nd λt ht=>by
   let(k,_,rfl):=Ð.mp ht;exact Fit.int _ _)
 let(p,v):∃e:Int,e=1+((xs 3).fdiv 4).fmod 3:={_,rfl};rw[<- v]at g
 have M:(FD dd r).length≠0->∃j,j<dd.length/\AZ ((FD dd r).map λk:Nat=>T.int (k:Int)) (((xs 0).fdiv 8).fmod ((FD dd r).length:Int))=↑(.int (j:Int)):=λG=>by
  let(j,Y,Z):=zpk (FD dd r) (λz=>G (by rw[z];rfl))<|(xs 0).fdiv 8
  exact{j,â.mp (Ľ.mp Y).1,zqv (λk:Nat=>T.int (k:Int)) Z}
 change ((FD dd r).map λk:Nat=>T.int (k:Int))=WT;change (FD dd r).length=wn;generalize F:AU ws.length 6 x=VT at *;generalize U:dd.map Bd=DT at *;let S (K V:T) (x14 x15:kr):=dS (Ao ws rs dd) C (.tup [.int (r:Int),.lst VT]) sc W (↑(.int c)) (.lst<|ws.map T.str) (CV rs) (.lst DT) (↑(.lst XT)) (↑(.lst WT)) (↑(fr m p)) ↑K ↑V x14 x15
 obtain⟨k,a,b,w,hk,A,w0,r7⟩:∃(k:Option Nat) (a b w:Int),(∀i∈k,i<dd.length)/\FP 6 a b w/\0<=w/\A8 (Bg (m2 Cd (AA 10)<|BI AE)<|m2 (Br λi j=>decide (j<i)) (m2 BH (AJ (AA 9)<|mC<|.int 0)<|mC<|.int 8)<|mC<|.int 0) (AF (AS (AJ (AA 10)<|m2 BH (m2 CK (AJ (AA 9)<|mC<|.int 0)<|mC<|.int 8)<|m1 BO<|AA 10)<|AD 12)
   (AS (AN Lm<|AB (AJ (AJ (AA 8)<|AA 12)<|mC<|.int 2)<|AB (AA 6)<|AB (AJ (AA 2)<|mC<|.int 1)<|AB (BV<|AB (mC<|.int 1)<|AB (m2 BL (mC<|.int 1)<|m2 BH (AJ (AA 9)<|mC<|.int 1)<|mC<|.int 3) AE) AE)<|AD 13)) A7 (S .non (fr 0 1) x14 x15)=↑(.nx<|S (Bb k) (fr a b) x14 x15):=by
  have f0:FP 6 0 1 0:={{by decide,by decide +kernel},by decide};by_cases G:wn=0;rw[Ç G]at nw;refine{none,0,1,0,(λi H=>by cases H),f0,ó _,?_}
  simp![S,I,f,nw,Bb]
  rw[Õ G]at nw;by_cases h8:0<(xs 0).fmod 8;have N:decide (0<(xs 0).fmod 8)=true:=Ç h8;let(j,X,M):=M G;have nl:((wn:Int)=0)=False:=ā<|by lia
  have O:=QO X;rw[U]at O;have hg:BX ws CM dd[j].g:=(K.sp.d _<|Ò X).g;have gs:=hg.sh;have eg:=AK _ gs;have q0:=dH<|xs 1;let(wl,hwl):=Nr (c:=1) q0.1 q0.2;let(a,b,w,en,A,w0):=zll GO (by lia:ws.length<=7) x hg hwl
  refine{↑j,a,b,w,(λi H=>by cases H;exact X),A,w0,?_};rw[F]at en;unfold Bd at O;change dd[j]=d
  simp![S,I,f,nw,J,x0,x1,s8,s3,N,u,nl,M,sd,O,gs,eg,AV,AX,h,q,en,Bb]
  have N:decide (0<(xs 0).fmod 8)=false:=Õ h8;refine{none,0,1,0,(λi H=>by cases H),f0,ó _,?_}
  simp![S,I,f,nw,J,x0,s8,N,Bb]
 let(s,L,l,o,P,hL):=two45 K hr x (FP.low GO<|w+wm) (by lia) A w0 hk lW (C:=C) (B:=.lst<|ws.map T.str) (R:=CV rs) (D:=.lst DT) (sc:=sc) (x5:=↑(.int c)) (x9:=↑(.lst XT)) (x10:=↑(.lst WT)) (x11:=↑(fr m p)) (x13:=↑(fr a b)) (x14:=x14) (x15:=x15);refine{s,L,λi=>[↑(.lst XT),↑(.lst WT),↑(fr m p),↑(Bb k),↑(fr a b),l,o].getD (i - 9) none,?_,hL};show _=↑(Out.nx<|dS (Ao ws rs dd) C (DX 6 ws.length s.1 s.2) sc (W++L.map Ci) (↑(.int c)) (.lst<|ws.map T.str) (CV rs) (.lst DT) (↑(.lst XT)) (↑(.lst WT)) (↑(fr m p)) (↑(Bb k)) (↑(fr a b)) l o);have lp:=dJ GO A.o g.o A.e g.e;change dS (Ao ws rs dd) C (DX 6 ws.length s.1 s.2) sc (W++L.map Ci) (↑(.int c)) (.lst<|ws.map T.str) (CV rs) (.lst DT) (↑(.lst XT)) (↑(.lst WT)) (↑(fr m p)) (↑(Bb k)) (↑(fr a b)) l o=E;unfold DX at P ⊢;rw[F]at P ⊢;change Bb k=KT;unfold JB;refine Di (by simp![])<|sq (by simp![Q,J,ex];rfl)<|sq (by simp![sd,ed,el,ok,ï,h,q,lw,ll,I,f];rfl)<|sq (by simp![J,x2,x3,s3,s4,nz,em];rfl)<|sq (by simp![];rfl)<|sq (by simp![];rfl) ?_
 rw[<- v];refine sq r7 ?_
 simp![S,lp,P]
abbrev Eh(L:List Tp):List<|Int×Option Nat:=L.map λt=>(t.w,t.k)
def jW{ws:ki}{rs:List<|Str×qB}{dd:List Sd}(K:SpK ws rs dd){sc:Int}(l:0<=sc){C:T}{s1:Option<|Nat×(Nat->Int)}:∀(cs:kj) (L:List Tp) (s:Nat×(Nat->Int)) (x:Nat->kr),Dj 6 ws rs dd s1 (Eh L)=↑s->s.1<rs.length->(∀t∈L,TpOk 6 dd.length t/\0<=t.w)->L.length+cs.length<=1000 ->
  ∃(L':List Tp) (s':Nat×(Nat->Int)) (y:Nat->kr),Ar (AD 5) JB (cs.map T.int) (dS (Ao ws rs dd) C (DX 6 ws.length s.1 s.2) sc (L.map Ci) (x 5) (.lst<|ws.map T.str) (CV rs) (.lst<|dd.map Bd) (x 9) (x 10) (x 11) (x 12) (x 13) (x 14)<|x 15)=↑(.nx<|dS (Ao ws rs dd) C (DX 6 ws.length s'.1 s'.2) sc (L'.map Ci) (y 5) (.lst<|ws.map T.str) (CV rs) (.lst<|dd.map Bd) (y 9) (y 10) (y 11) (y 12) (y 13) (y 14)<|y 15)/\Dj 6 ws rs dd s1 (Eh L')=↑s'/\(∀t∈L',TpOk 6 dd.length t/\0<=t.w)/\L'.length<=L.length+cs.length
 |[],L,s,x,a,ϊ,d,ϋ=>{L,s,x,rfl,a,d,Æ _}|c::cs,L,s,x,a,g,d,m=>by
  rw[ì]at m ⊢;let(s',A,y,e,n):=zer K l g s.2 (W:=L.map Ci) (by rw[À];lia) c (C:=C) (x9:=x 9) (x10:=x 10) (x11:=x 11) (x12:=x 12) (x13:=x 13) (x14:=x 14) (x15:=x 15)
  rw[<- á]at e
  have k:Dj 6 ws rs dd s1 (Eh<|L++A)=↑s'/\s'.1<rs.length/\(∀t∈L++A,TpOk 6 dd.length t/\0<=t.w)/\(L++A).length<=L.length+1:=by
   rcases n with ⟨rfl,rfl⟩|⟨t,rfl,h,j,f⟩;rw[Þ];exact{a,g,d,by lia};refine{?_,QJ K g f,λu b=>?_,by rw[ë];exact Æ _};unfold Eh at a ⊢;rw[á,ų,YE,a];exact f;rcases ß.mp b with b|b;exact d u b;rw[Ï.mp b];exact{(h),j}
  let(h,j,f,w):=k;let(L',r,z,o,p,q,v):=jW K l (C:=C) (s1:=s1) cs (L++A) s' (λi=>if i=5 then ↑(.int c) else y i) h j f<|by lia
  exact{L',r,z,(OD rfl e).trans o,p,q,by lia}
def Py(L:List Tp):A3 (L.map Ci)=true:=EM λt ϊ=>by
 show((!false) && (true && ((Bb t.k).sh && true)))=true;cases t.k<;>rfl
def zj0{ws:ki}{rs:List<|Str×qB}{dd:List Sd}(K:SpK ws rs dd)(cs:kj)(D:cs.length<=100):∃L:List Tp,Oz [Ao ws rs dd,.lst<|cs.map T.int]=↑(.ok<|.own<|L.map Ci)/\(∀t∈L,TpOk 6 dd.length t/\0<=t.w)/\L.length<=cs.length/\(Cv 6 ws rs=none->L=[])/\∀s,Cv 6 ws rs=↑s->∃s',Dj 6 ws rs dd ↑s (Eh L)=↑s':=by
 have a:=En K.sp.r;have g:=AK _ a;have sd:=K.sp.sd;have f:=AK _ sd;have k:=LF cs;have i:=LD cs;have p:(cs.map T.int).length<=100000:=by rw[À];lia
 have st:=X9 GO K;let(q,A,j):=Xn (ws:=ws) (rs:=rs) (dd:=dd) a sd (λr m=>{(K.sp.r.lk r m).1,K.l2 r m}) λd hd=>{(K.sp.d d hd).g,K.g2 d hd}
 unfold Oz;cases h:Cv 6 ws rs with
 |none=>
  rw[h]at st;have b:GV [Ao ws rs dd]=↑(.ok .non):=st;refine{[],Fy rfl ?_,(λt o=>by cases o),é _,λϊ=>rfl,λs z=>by cases z}
  show J2 [↑(Ao ws rs dd),↑(.lst<|cs.map T.int),none,none,none,none,none,none,none,none,none,none,none,none,none,none]=_
  let(u,e):∃u,Ar (AD 5) JB (cs.map T.int) (dS (Ao ws rs dd) (.lst<|cs.map T.int) .non q [] none (.lst<|ws.map T.str) (CV rs) (.lst<|dd.map Bd) none none none none none none none)=↑(.nx<|dS (Ao ws rs dd) (.lst<|cs.map T.int) .non q [] u (.lst<|ws.map T.str) (CV rs) (.lst<|dd.map Bd) none none none none none none none):=by
   generalize T.lst (cs.map T.int)=C;cases cs with
   |nil=>exact{(none),rfl}|cons c cs=>exact{↑(.int c),VG rfl (by unfold JB AF;simp![])}
  unfold J2;change cs.map T.int=CT;refine sq (by simp![AX,AV,a,g,sd,f];rfl)<|sq (by simp![AX,AV,a,g,sd,f,b];rfl)<|sq (by simp![AX,AV,a,g,sd,f,j];rfl)<|sq (by simp![];rfl)<|sq (by simp![k,i,p,e];rfl) ?_
  simp![Đ]
 |some s=>
  rw[h]at st;have b:GV [Ao ws rs dd]=↑(.ok<|.tup [.int (s.1:Int),.lst<|AU ws.length 6 s.2]):=st
  have m:s.1<rs.length:=by
   unfold Cv at h;split at h;cases h;have:=K.sp.r.l1
   lia;cases h
  let(L,s',y,e,v,w,x):=jW K A (C:=.lst<|cs.map T.int) (s1:=↑s) cs [] s (λϊ=>none) rfl m (λt o=>by cases o) (by rw[č];lia);refine{L,Fy rfl ?_,w,by rw[č]at x;lia,(λz=>by cases z),λE z=>by cases z;exact{(s'),v}};show J2 [↑(Ao ws rs dd),↑(.lst<|cs.map T.int),none,none,none,none,none,none,none,none,none,none,none,none,none,none]=_;have l:=DW ws.length 6 s.2;have n:=AK _ l;have B:=Py L;rw[Đ]at e;unfold DX at e;unfold J2;change cs.map T.int=CT;change AU ws.length 6 s.2=VT;change AU ws.length 6 s'.2=VU;change L.map Ci=LT;refine sq (by simp![AX,AV,a,g,sd,f];rfl)<|sq (by simp![AX,AV,a,g,sd,f,b,l,n];rfl)<|sq (by simp![AX,AV,a,g,sd,f,j];rfl)<|sq (by simp![];rfl)<|sq (by simp![k,i,p,e];rfl) ?_
  simp![B]
abbrev Rc:Stmt:=top 90
def Iy:AG:=
 (AF (AS (AJ (AJ (AA 0)<|AA 3)<|AA 4)<|AD 5)
 (A8 (m2 (BD true) (AA 5)<|mC .non) (AF (AS (m2 EB (m2 Bl (AJ (AJ (AA 2)<|AA 3)<|mC<|.int 0)<|AJ (AJ (AA 2)<|AA 4)<|mC<|.int 1)<|m2 Bl (AJ (AJ (AA 2)<|AA 4)<|mC<|.int 0)<|AJ (AJ (AA 2)<|AA 3)<|mC<|.int 1)<|AD 6)
 (AF (AS (m2 EB (AA 6)<|m2 Bl (m2 Bl (m2 IF (AA 5)<|mC<|.int 1)<|AJ (AJ (AA 2)<|AA 3)<|mC<|.int 1)<|AJ (AJ (AA 2)<|AA 4)<|mC<|.int 1)<|AD 6)
 (A8 (B0 (m2 (Br λi j=>decide (j<i)) (AA 6)<|mC<|.int 0)<|Bg (m2 Au (AA 6)<|mC<|.int 0)<|m2 Au (m2 Ig (AA 5)<|mC<|.int 1)<|mC<|.int 0) (AO<|mC<|.bl false) A7))) A7))
def Iz:AG:=
 (BE (C0<|AB (m1 BO<|AA 2) AE) (AD 4) Iy)
def N5:AG:=
 (AF (AS (m2 BL (BI<|BA (BV<|AB (mC<|.int 0)<|AB (mC<|.int 1) AE) AE)<|AA 1)<|AD 2)
 (AF (BE (C0<|AB (m1 BO<|AA 2) AE) (AD 3) Iz)
 (AO<|mC<|.bl true)))
def Lp:qB->Option Ru:=AW 2 7 N5
abbrev i6:=fA 1 2 Rc Lp
abbrev zis:Gm:=gA Rc 0 [] ["range","len"]
theorem zjf:Ck zis i6 Rc N5:={}
def zk2{P u v d:Int}(h:0<P):(0<Zm.lt u P * Zm.lb v P - Zm.lt v P * Zm.lb u P - d * Zm.lb u P * Zm.lb v P ↔ d * P<u - v)/\(Zm.lt u P * Zm.lb v P - Zm.lt v P * Zm.lb u P - d * Zm.lb u P * Zm.lb v P=0 ↔ u - v=d * P):=by
 have j:=UL (v:=u) h;have m:=UL (v:=v) h;have p:=Zm.lb_pos (t:=u) h;have r:=Zm.lb_pos (t:=v) h;change Zm.lt u P=a;change Zm.lb u P=b;change Zm.lt v P=c;change Zm.lb v P=e
 have k:(a * e - c * b - d * b * e) * P=(u - v - d * P) * (b * e):=by
  calc (a * e - c * b - d * b * e) * P=(a * P) * e - (c * P) * b - d * P * (b * e):=by rw[ē,ē];erw[đ,ě,þ]
   _=(u * b) * e - (v * e) * b - d * P * (b * e):=by rw[j,m]
   _=(u - v - d * P) * (b * e):=by rw[ē,ē];erw[đ,ě,þ]
 have q:=ÿ p r;change a * e - c * b - d * b * e=l;change b * e=n;have o:u - v=u - v - d * P+d * P:=by lia
 rw[o];change u - v - d * P=w;change d * P=y
 have s:(0<l ↔ 0<w)/\(l=0 ↔ w=0):=by
  rcases Ż l 0 with z|z|z<;>rcases Ż w 0 with f|f|f
  all_goals first
   |(refine⟨⟨λq=>?_,λq=>?_⟩,⟨λq=>?_,λq=>?_⟩⟩<;>lia)
   |exfalso
  have:=Ĉ z h;rw[k,f,Ġ]at this;lia;have i:=Ĉ z h;have g:=ÿ f q
  lia;have g:=Ĉ f q;rw[<- k,z,Ġ]at g;lia;have g:=ÿ f q;rw[<- k,z,Ġ]at g;lia;have i:=ÿ z h;have g:=Ĉ f q
  lia;have i:=ÿ z h;rw[k,f,Ġ]at i;lia
 lia
def zX(x:Nat->Int):Nat->Int:=λi=>if i=0 then 0 else x i
def J5(n:Nat)(P:Int)(X:Nat->Int)(f:Db.Z):Bool:=(List.range n).all λi=>(List.range n).all λj=>Db.satB P (f i j)<|X i - X j
def zlv{n:Nat}{P:Int}{X:Nat->Int}{f:Db.Z}(h:Db.Lie n P X f):J5 n P X f=true:=Ö.mpr λi a=>Ö.mpr λj b=>Db.satB_iff.mpr<|h i j (â.mp a)<|â.mp b
def zfo{P:Int}(h:Bo P){n:Nat}{f:Db.Z}(X:Nat->Int){i j:Nat}(C:i<n)(hj:j<n)(a1 x5 q:kr):∃y5 y6,Iy [↑(zT n f),a1,↑(.lst<|mT n λi=>Cm P<|X i),↑(.int (i:Int)),↑(.int (j:Int)),x5,q]=↑(if Db.satB P (f i j) (X i - X j)=true then .nx [↑(zT n f),a1,↑(.lst<|mT n λi=>Cm P<|X i),↑(.int (i:Int)),↑(.int (j:Int)),y5,y6] else .rt (.bl false)):=by
 have F:A3 (mT n λi=>rT n<|f i)=true:=Fe λi=>YV n<|f i
 have t:AZ (mT n λi=>rT n<|f i) (i:Int)=↑(.lst<|mT n λj=>bT<|f i j):=Bf C;have D:A3 (mT n λj=>bT<|f i j)=true:=Fe λj=>L4 _;have m:AZ (mT n λj=>bT<|f i j) (j:Int)=↑(bT<|f i j):=Bf hj;have E:A3 (mT n λi=>Cm P<|X i)=true:=Fe λϊ=>rfl;have r:AZ (mT n λi=>Cm P<|X i) (i:Int)=↑(fr (Zm.lt (X i) P)<|Zm.lb (X i) P):=Bf C;have s:AZ (mT n λi=>Cm P<|X i) (j:Int)=↑(fr (Zm.lt (X j) P)<|Zm.lb (X j) P):=Bf hj;have w:=h.lb<|X i;have x:=h.lb<|X j;unfold zT;change (mT n λi=>rT n<|f i)=ZT
 change (mT n λj=>bT<|f i j)=RT;change (mT n λi=>Cm P<|X i)=VT;cases B:f i j with
 |none=>
  rw[B]at m;have g:AZ RT (j:Int)=↑.non:=m;refine{↑.non,q,?_};rw[if_pos (show Db.satB P none (X i - X j)=true from rfl)];unfold Iy
  simp![F,t,D,g]
 |some d=>
  rw[B]at m;have g:AZ RT (j:Int)=↑(.int d):=m;let(H,I):=zk2 (u:=X i) (v:=X j) (d:=d / 2) h.p;have A:=Db.band_one d;have J:(0:Int)<=1:=by decide
  have G:d / 2 ^ (1:Int).toNat=d / 2:=rfl;change Zm.lt (X i) P=a;change Zm.lb (X i) P=b;change Zm.lt (X j) P=c;change Zm.lb (X j) P=e;have K:CH a e=true:=E9 x.s;have L:CH c b=true:=E9 w.s;have M:CH (d / 2) b=true:=E9 w.s;have N:CH (d / 2 * b) e=true:=E9 x.s;refine{↑(.int d),↑(.int<|a * e - c * b - d / 2 * b * e),?_}
  have hh:(Db.satB P ↑d (X i - X j)=true) ↔ ¬ (0<a * e - c * b - d / 2 * b * e\/a * e - c * b - d / 2 * b * e=0/\d % 2=0):=by
   unfold Db.satB;rw[decide_eq_true_iff,H,I];change d / 2 * P=y;lia
  unfold Iy;refine sq (by simp![F,t,D,g];rfl) ?_
  have st:AF (AS (m2 EB (m2 Bl (AJ (AJ (AA 2)<|AA 3)<|mC<|.int 0)<|AJ (AJ (AA 2)<|AA 4)<|mC<|.int 1)<|m2 Bl (AJ (AJ (AA 2)<|AA 4)<|mC<|.int 0)<|AJ (AJ (AA 2)<|AA 3)<|mC<|.int 1)<|AD 6)
    (AF (AS (m2 EB (AA 6)<|m2 Bl (m2 Bl (m2 IF (AA 5)<|mC<|.int 1)<|AJ (AJ (AA 2)<|AA 3)<|mC<|.int 1)<|AJ (AJ (AA 2)<|AA 4)<|mC<|.int 1)<|AD 6)
    (A8 (B0 (m2 (Br λi j=>decide (j<i)) (AA 6)<|mC<|.int 0)<|Bg (m2 Au (AA 6)<|mC<|.int 0)<|m2 Au (m2 Ig (AA 5)<|mC<|.int 1)<|mC<|.int 0) (AO<|mC<|.bl false) A7)) [↑(.lst ZT),a1,↑(.lst VT),↑(.int (i:Int)),↑(.int (j:Int)),↑(.int d),q]=↑(if Db.satB P ↑d (X i - X j)=true then .nx [↑(.lst ZT),a1,↑(.lst VT),↑(.int (i:Int)),↑(.int (j:Int)),↑(.int d),↑(.int<|a * e - c * b - d / 2 * b * e)] else .rt (.bl false)):=by
   refine sq (by simp![E,r,s,K,L];rfl)<|sq (by simp![IF,J,E,r,s,G,M,N];rfl) ?_
   change a * e - c * b - d / 2 * b * e=l;by_cases c1:0<l;have k:decide (0<l)=true:=Ç c1;rw[if_neg (by rw[hh];exact λz=>z<|.inl c1)]
   simp![k]
   have k:decide (0<l)=false:=Õ c1;by_cases c2:l=0;have o:(l == 0)=true:=beq_iff_eq.mpr c2;by_cases c3:d % 2=0;have p:(d % 2 == 0)=true:=beq_iff_eq.mpr c3;rw[if_neg (by rw[hh];exact λz=>z<|.inr {(c2),c3})]
   simp![k,o,p,DQ,A]
   have p:(d % 2 == 0)=false:=beq_eq_false_iff_ne.mpr c3;rw[if_pos (by rw[hh];exact λz=>z.elim c1 λz=>c3 z.2)]
   simp![k,o,p,DQ,A]
   have o:(l == 0)=false:=beq_eq_false_iff_ne.mpr c2;rw[if_pos (by rw[hh];exact λz=>z.elim c1 λz=>c2 z.1)]
   simp![k,o,DQ]
  rw[<- st]
  simp![]
def zlu{P:Int}(h:Bo P){m:Nat}(H:m<=100)(f:Db.Z)(x:Nat->Int):Lp [zT (m+1) f,.lst<|AU m P x]=↑(.ok<|.bl<|J5 (m+1) P (zX x) f):=by
 have s:=DW m P x;have v:=AK _ s;have F:=Dy (m+1) f;have G:=Av _ F
 have C:fr 0 1::AU m P x=mT (m+1) λi=>Cm P<|zX x i:=by
  unfold AU;rw[kE];refine DM λi y=>?_;cases i with
  |zero=>exact(Ug h.p).symm|succ i=>rfl
 have E:(AU m P x).length=m:=CI;have l1:1+m<=100000:=by lia
 let S (t g a d:kr):AM:=[↑(zT (m+1) f),↑(.lst<|AU m P x),↑(.lst<|mT (m+1) λi=>Cm P<|zX x i),t,g,a,d];have k (i:Nat) (y:i<m+1):=Nu (b:=AD 4) (body:=Iy) (λj:Nat=>T.int (j:Int)) (λj=>Db.satB P (f i j)<|zX x i - zX x j) (.bl false) (λY=>∃g a d,Y=S (↑(.int (i:Int))) g a d)<|List.range<|m+1
 have ok:CF ((m+1:Nat):Int)=true:=Et<|by lia
 have B:Cc 0 (m+1)=(List.range<|m+1).map λj:Nat=>T.int (j:Int):=Cz;have l:A3 (mT (m+1) λi=>Cm P<|zX x i)=true:=Fe λϊ=>rfl;have n:=AK _ l;have r:(mT (m+1) λi=>Cm P<|zX x i).length=m+1:=CI
 have outer:=Nu (b:=AD 3) (body:=Iz) (λi:Nat=>T.int (i:Int)) (λi=>(List.range<|m+1).all λj=>Db.satB P (f i j)<|zX x i - zX x j) (.bl false) (λY=>∃t g a d,Y=S t g a d) (List.range<|m+1) (S none none none none) {(none),none,none,none,rfl} λi y Y w=>by
  let(t,g,a,d,rfl):=w;have p:=â.mp y;refine{S (↑(.int (i:Int))) g a d,rfl,?_}
  have q:=k i p (S (↑(.int (i:Int))) g a d) {(g),a,d,rfl} λj D Y w=>by
   let(g,a,d,rfl):=w;let(I,J,e):=zfo h (f:=f) (zX x) p (â.mp D) (↑(.lst<|AU m P x)) a d;refine{S (↑(.int (i:Int))) (↑(.int (j:Int))) a d,rfl,λz=>?_,λz=>?_}
   rw[if_pos z]at e;exact{_,e,_,_,_,rfl};rw[if_neg (by rw[z];exact ö)]at e;exact e
  have head:∀o,Ar (AD 4) Iy ((List.range<|m+1).map λj:Nat=>T.int (j:Int)) (S (↑(.int (i:Int))) g a d)=↑o->Iz (S (↑(.int (i:Int))) g a d)=↑o:=λo u=>by
   unfold Iz;rw[<- B]at u;change AU m P x=VT;change (mT (m+1) λi=>Cm P<|zX x i)=WT
   simp![S,l,n,r,ok,ï]
   exact u
  refine{λz=>?_,λz=>head _<|q.2 z};let(A,e,g,a,d,rfl):=q.1 z;exact{_,head _ e,_,_,_,_,rfl}
 rw[<- B]at outer;unfold Lp;refine Fy rfl ?_;show N5 [↑(zT (m+1) f),↑(.lst<|AU m P x),none,none,none,none,none]=_;unfold N5;refine sq (Y':=S none none none none) ?_ ?_
 show _=↑(Out.nx [_,_,↑(.lst<|mT (m+1) λi=>Cm P<|zX x i),_,_,_,_]);rw[<- C];change AU m P x=VT
 simp![s,v,E,l1]
 show _=↑(Out.rt<|.bl<|(List.range<|m+1).all λi=>(List.range<|m+1).all λj=>Db.satB P (f i j)<|zX x i - zX x j)
 have head:∀o,Ar (AD 3) Iz (Cc 0<|m+1) (S none none none none)=↑o->BE (C0<|AB (m1 BO<|AA 2) AE) (AD 3) Iz (S none none none none)=↑o:=λo u=>by
  change AU m P x=VT;change (mT (m+1) λi=>Cm P<|zX x i)=WT
  simp![S,l,n,r,ok,ï]
  exact u
 cases c:(List.range<|m+1).all λi=>(List.range<|m+1).all λj=>Db.satB P (f i j) (zX x i - zX x j) with
 |true=>
  let(A,e,t,g,a,d,rfl):=outer.1 c;refine sq (head _ e) ?_
  simp![]
 |false=>exact sr<|head _<|outer.2 c
abbrev RU:Stmt:=top 91
def JY:AG:=
 (AF (AS (mC .non)<|AD 2)
 (AF (HH PX (AS (AN (gD [.non] GQ)<|AB (AA 0)<|AB (AA 1)<|AB (mC<|.int 16) AE)<|AD 2)<|AF (AS (mC .non)<|AD 2) A7)
 (AO<|AA 2)))
def KD:qB->Option Ru:=AW 2 3 JY
abbrev iT:=fA 13 2 RU KD
abbrev zig:Gx:={ Bz with xs:=[("TooMany",PX)],dn:=[("searched",gI,[.non])] }
abbrev zil:Gm:=gA RU 12 [] [] (ox:=zig)
theorem zj9:Ck zil iT RU JY:={}
def zju{M:Mc}(h:McOk M){gl:List<|Str×qB}(j:Eg M.ws (M.rs.map (·.1)) gl)(k:gl.length<=1000) :
  KD [Ay M,.lst<|gl.map A9]=↑(.ok .non)\/∃L,KD [Ay M,.lst<|gl.map A9]=↑(.ok<|.tup [.lst<|L.map<|AL M.ws.length,.bl<|EV (Bx M gl) L])/\L.length<=16/\Lst45 M (Bx M gl) (Ea M gl) L:=by
 have d:=H9 h;have i:=Av _ d;have c:=j.sh;have g:=AK _ c
 have l:PX.lookup (HN<|Str.ofString "TooMany")=↑49:=by
  rw[show HN (Str.ofString "TooMany")=Str.ofString "TooMany" from by unfold HN;rfl];rfl
 rcases znc h j k (mx:=16) (by decide) with e|⟨L,e,l1,l2⟩;left;have a:GQ [Ay M,.lst<|gl.map A9,.int 16,.non]=↑(.exc<|Str.ofString "TooMany"):=e;change Ay M=A;change gl.map A9=GT;unfold KD;refine Fy rfl ?_;show JY [↑A,↑(.lst GT),none]=_;unfold JY;refine sq (by simp![];rfl)<|sq (Y':=[↑A,↑(.lst GT),↑.non]) ?_<|by simp![]
 unfold HH;rw[show AS (AN (gD [.non] GQ)<|AB (AA 0)<|AB (AA 1)<|AB (mC<|.int 16) AE) (AD 2) [↑A,↑(.lst GT),↑.non]=↑(.xc (Str.ofString "TooMany") [↑A,↑(.lst GT),↑.non]) by simp![d,i,c,g,a]];erw[l]
 simp![]
 right;refine{L,?_,l1,l2};have b:=Eu M.ws.length L;have f:=AK _ b;have a:GQ [Ay M,.lst<|gl.map A9,.int 16,.non]=↑(.ok<|.tup [.lst<|L.map<|AL M.ws.length,.bl<|EV (Bx M gl) L]):=e;change EV (Bx M gl) L=bb;change L.map (AL M.ws.length)=LT;change Ay M=A;change gl.map A9=GT;unfold KD;refine Fy rfl ?_;show JY [↑A,↑(.lst GT),none]=_;unfold JY;refine sq (by simp![];rfl)<|sq (Y':=[↑A,↑(.lst GT),↑(.tup [.lst LT,.bl bb])]) ?_<|by simp![b,f]
 unfold HH;rw[show AS (AN (gD [.non] GQ)<|AB (AA 0)<|AB (AA 1)<|AB (mC<|.int 16) AE) (AD 2) [↑A,↑(.lst GT),↑.non]=↑(.nx [↑A,↑(.lst GT),↑(.tup [.lst LT,.bl bb])]) by simp![d,i,c,g,a,b,f]]
abbrev RZ:Stmt:=top 92
def Iw:AG:=
 (AF (Cb 3<|AN Gy<|AB (AA 0)<|AB (AA 2)<|AB (AA 4)<|AB (mC .non) AE)
 (AF (AS (AN Gy<|AB (AA 0)<|AB (AA 2)<|AB (AA 4)<|AB (AA 5) AE)<|AD 2)
 (Cb 3<|AA 2)))
def N4:AG:=
 (AF (AS (AN GV<|AB (AA 0) AE)<|AD 2)
 (AF (CU 3<|BI AE)
 (AF (A8 (m2 (BD true) (AA 2)<|mC .non) (Cb 3<|AA 2) A7)
 (AF (BE (Aq<|AA 1) (Ad 2<|AH (AD 4)<|AH (AD 5) Ah) Iw)
 (AO<|AA 3)))))
def Ow:qB->Option Ru:=AW 2 6 N4
abbrev iW:=fA 4 2 RZ Ow
abbrev zeo:Gm:=gA RZ 3 [("_law_start",VA),("_law_step",Uz)] [] ["_law_found"]
theorem zf0:Ck zeo iW RZ N4:={}
def Fi(ws:ki)(rs:List<|Str×qB)(dd:List Sd)(s:Nat×(Nat->Int))(t:Tp):Nat×(Nat->Int):=(CN 6 ws rs dd s t.w t.k).getD s
def EN(ws:ki)(rs:List<|Str×qB)(dd:List Sd):(Nat×(Nat->Int))->List Tp->List (Nat×(Nat->Int))
 |ϊ,[]=>[]|s,t::L=>(s.1,λp=>s.2 p+t.w)::Fi ws rs dd s t::EN ws rs dd (Fi ws rs dd s t) L
set_option tactic.hygienic true in
def zjz{ws:ki}{rs:List<|Str×qB}{dd:List Sd}{s a:Nat×(Nat->Int)}{w:Int}{k:Option Nat}(e:CN 6 ws rs dd s w k=↑a):CN 6 ws rs dd s w none=↑(s.1,λp=>s.2 p+w):=by
 unfold CN at e ⊢;split at e;rename_i z;rw[if_pos z];cases e
abbrev Bt(m:Nat)(s:Nat×(Nat->Int)):T:=DX 6 m s.1 s.2
def Mg(m:Nat)(S:List<|Nat×(Nat->Int)):A3 (S.map<|Bt m)=true:=EM λs ϊ=>os_sh 6 m ↑s
def Xa{ws:ki}{rs:List<|Str×qB}{dd:List Sd}(K:SpK ws rs dd){a1:kr}:∀(L:List Tp) (s:Nat×(Nat->Int)) (A:List<|Nat×(Nat->Int)) (x4 x5:kr),s.1<rs.length->(∀t∈L,TpOk 6 dd.length t)->(∃s',Dj 6 ws rs dd ↑s (Eh L)=↑s')->A.length+2 * L.length<=1000 ->
  ∃(s':Nat×(Nat->Int)) (y4 y5:kr),Ar (Ad 2<|AH (AD 4)<|AH (AD 5) Ah) Iw (L.map Ci) [↑(Ao ws rs dd),a1,↑(Bt ws.length s),↑(.own<|A.map<|Bt ws.length),x4,x5]=↑(.nx [↑(Ao ws rs dd),a1,↑(Bt ws.length s'),↑(.own<|(A++EN ws rs dd s L).map (Bt ws.length)),y4,y5])
 |[],s,A,x4,x5,ϊ,ϋ,ό,ύ=>{s,x4,x5,by rw[show EN ws rs dd s []=[] from rfl,Þ];rfl}|t::L,s,A,x4,x5,m,D,{(w),b},H=>by
  have h:=D t (Ë ..);rw[ì]at H;cases e:CN 6 ws rs dd s t.w t.k with
  |none=>
   exfalso;have b:Dj 6 ws rs dd (CN 6 ws rs dd s t.w t.k) (Eh L)=↑w:=b;rw[e,Mp]at b;cases b
  |some a=>
   have b:Dj 6 ws rs dd (CN 6 ws rs dd s t.w t.k) (Eh L)=↑w:=b;rw[e]at b;have F:Fi ws rs dd s t=a:=by unfold Fi;rw[e];rfl
   have o:=QH GO K m s.2 h.b h.e (k:=none) λi G=>by cases G
   have r:=QH GO K m s.2 h.b h.e h.k;rw[show((s.1,s.2):Nat×(Nat->Int))=s from rfl]at o r;rw[zjz e]at o;rw[e]at r;let(s',y4,y5,E):=Xa K (a1:=a1) L a (A++[(s.1,λp=>s.2 p+t.w),a]) (↑(fr t.a t.b)) (↑(Bb t.k)) (QJ K m e) (λu I=>D u<|Ê _ I) {(w),b} (by rw[ë];show A.length+2+2 * L.length<=1000;lia)
   rw[ø]at E;refine{s',y4,y5,?_};rw[show EN ws rs dd s (t::L)=[(s.1,λp=>s.2 p+t.w),a]++EN ws rs dd a L from by rw[<- F];rfl,<- E];have y:=En K.sp.r;have C:=AK _ y;have sd:=K.sp.sd;have z:=AK _ sd;have n:(Bb t.k).sh=true:=by cases t.k<;>rfl
   have B:=Av _ n;have c:=DW ws.length 6 s.2;have f:=AK _ c;have j:=DW ws.length 6 λp=>s.2 p+t.w
   have l:=AK _ j;have d:=DW ws.length 6 a.2;have g:=AK _ d;have q:Gy [Ao ws rs dd,.tup [.int (s.1:Int),.lst<|AU ws.length 6 s.2],fr t.a t.b,.non]=↑(.ok<|.tup [.int (s.1:Int),.lst<|AU ws.length 6 λp=>s.2 p+t.w]):=o
   have v:Gy [Ao ws rs dd,.tup [.int (s.1:Int),.lst<|AU ws.length 6 s.2],fr t.a t.b,Bb t.k]=↑(.ok<|.tup [.int (a.1:Int),.lst<|AU ws.length 6 a.2]):=r;have J:(A.map<|Bt ws.length).length<99999:=by rw[À];lia
   have l1:(A.map<|Bt ws.length).length<100000:=by lia
   have l2:∀x:T,(A.map (Bt ws.length)++[x]).length<100000:=λx=>by rw[ë];show _+1<_;lia
   refine OD (τ1:=[↑(Ao ws rs dd),a1,↑(Bt ws.length s),↑(.own<|A.map<|Bt ws.length),↑(fr t.a t.b),↑(Bb t.k)]) ?_ ?_;generalize Bt ws.length s=Q;generalize A.map (Bt ws.length)=AT;generalize Ao ws rs dd=ST;show Ad 2 _ (.tup [fr t.a t.b,Bb t.k]) _=_;change Bb t.k=KT
   simp![n,B]
   rw[á];show Iw [↑(Ao ws rs dd),a1,↑(.tup [.int (s.1:Int),.lst<|AU ws.length 6 s.2]),↑(.own<|A.map<|Bt ws.length),↑(fr t.a t.b),↑(Bb t.k)]=↑(.nx [↑(Ao ws rs dd),a1,↑(.tup [.int (a.1:Int),.lst<|AU ws.length 6 a.2]),↑(.own<|A.map (Bt ws.length)++[.tup [.int (s.1:Int),.lst<|AU ws.length 6 λp=>s.2 p+t.w],.tup [.int (a.1:Int),.lst<|AU ws.length 6 a.2]]),↑(fr t.a t.b),↑(Bb t.k)])
   change A.map (Bt ws.length)=AT;change AU ws.length 6 s.2=V0;change (AU ws.length 6 λp=>s.2 p+t.w)=V1;change AU ws.length 6 a.2=V2;change Bb t.k=KT;unfold Iw;refine sq (by simp![AX,AV,y,C,sd,z,c,f,q,j,l,l1];rfl)<|sq (by simp![AX,AV,y,C,sd,z,c,f,n,B,v,d,g];rfl) ?_
   simp![d,g,l2,ø,ō,Ĺ]
def EK(ws:ki)(rs:List<|Str×qB)(dd:List Sd)(L:List Tp):List<|Nat×(Nat->Int):=match Cv 6 ws rs with
 |some s=>s::EN ws rs dd s L|none=>[]
def QI{ws:ki}{rs:List<|Str×qB}{dd:List Sd}(K:SpK ws rs dd){s:Nat×(Nat->Int)}(a:Cv 6 ws rs=↑s):s.1<rs.length:=by
 unfold Cv at a;split at a;cases a;have:=K.sp.r.l1
 lia;cases a
def zf7{ws:ki}{rs:List<|Str×qB}{dd:List Sd}(K:SpK ws rs dd){L:List Tp}(o:∀t∈L,TpOk 6 dd.length t)(m:Cv 6 ws rs=none->L=[])(n:∀s,Cv 6 ws rs=↑s->∃s',Dj 6 ws rs dd ↑s (Eh L)=↑s')(u:L.length<=100):Ow [Ao ws rs dd,.lst<|L.map Ci]=↑(.ok<|.own<|(EK ws rs dd L).map (Bt ws.length)):=by
 have f:=En K.sp.r;have h:=AK _ f;have sd:=K.sp.sd;have g:=AK _ sd;have st:=X9 GO K;have i:=Py L;have l:=AK _ i;have p:(L.map Ci).length<=100000:=by rw[À];lia
 have j:=Mg ws.length<|EK ws rs dd L;unfold Ow;refine Fy rfl ?_;show N4 [↑(Ao ws rs dd),↑(.lst<|L.map Ci),none,none,none,none]=_;unfold N4 EK;cases d:Cv 6 ws rs with
 |none=>
  rw[m d];rw[d]at st;have a:GV [Ao ws rs dd]=↑(.ok .non):=st;have e:Ar (Ad 2<|AH (AD 4)<|AH (AD 5) Ah) Iw ([].map Ci) [↑(Ao ws rs dd),↑(.lst<|[].map Ci),↑.non,↑(.own []),none,none]=↑(.nx [↑(Ao ws rs dd),↑(.lst<|[].map Ci),↑.non,↑(.own []),none,none]):=rfl;rw[Đ]at e ⊢;refine sq (by simp![AX,AV,f,h,sd,g,a];rfl)<|sq (by simp![];rfl)<|Di (by simp![])<|Di (by simp![];exact e) ?_
  simp![Đ]
 |some s=>
  rw[d]at st;have a:GV [Ao ws rs dd]=↑(.ok<|.tup [.int (s.1:Int),.lst<|AU ws.length 6 s.2]):=st;have b:=DW ws.length 6 s.2;have c:=AK _ b;let(s',q,r,e):=Xa K (a1:=↑(.lst<|L.map Ci)) L s [s] none none (QI K d) o (n s d) (by show 1+2 * L.length<=1000;lia)
  rw[ų]at e;have k:Ar (Ad 2<|AH (AD 4)<|AH (AD 5) Ah) Iw (L.map Ci) [↑(Ao ws rs dd),↑(.lst<|L.map Ci),↑(.tup [.int (s.1:Int),.lst<|AU ws.length 6 s.2]),↑(.own [.tup [.int (s.1:Int),.lst<|AU ws.length 6 s.2]]),none,none]=↑(.nx [↑(Ao ws rs dd),↑(.lst<|L.map Ci),↑(Bt ws.length s'),↑(.own<|(s::EN ws rs dd s L).map (Bt ws.length)),q,r]):=e;have j:=Mg ws.length<|s::EN ws rs dd s L;change Bt ws.length s'=Q;change (s::EN ws rs dd s L).map (Bt ws.length)=SS;change L.map Ci=LT;change AU ws.length 6 s.2=VT;refine sq (by simp![AX,AV,f,h,sd,g,a,b,c];rfl)<|sq (by simp![];rfl)<|sq (by simp![b,c];rfl)<|sq (by simp![i,l,p];exact k) ?_
  simp![j]
abbrev Rn:Stmt:=top 93
def KR:AG:=
 (A8 (Bg (m2 Au (AA 3)<|AJ (AJ (AJ (AA 0)<|mC<|.int 1)<|AJ (AA 2)<|mC<|.int 0)<|mC<|.int 0)<|AN Lp<|AB (AA 4)<|AB (AJ (AA 2)<|mC<|.int 1) AE) (AO<|mC<|.bl true) A7)
def N8:AG:=
 (AF (BE (Aq<|AA 1) (Ad 4<|AH (AD 3)<|AH (AD 4)<|AH (AD 5)<|AH (AD 6) Ah) KR)
 (AO<|mC<|.bl false))
def Lr:qB->Option Ru:=AW 3 7 N8
abbrev jC:=fA 2 3 Rn Lr
abbrev zdp:Gm:=gA Rn 1 [("_law_lies",i6)] []
theorem ze5:Ck zdp jC Rn N8:={}
def zk6{P:Int}{X:Nat->Int}(d:X 0=0){l:Nat×Nat×Int}(j:l.2.1<5)(h:DN P (X l.1) l.2.1 l.2.2=true):∀x∈Cr l,Db.sat P ↑x.2.2<|X x.1 - X x.2.1:=by
 let(p,w,n):=l;have e:(2 * n) / 2=n:=by lia
 have f:(2 * n+1) / 2=n:=by lia
 have g:(2 * -n) / 2=-n:=by lia
 have i:(2 * -n+1) / 2=-n:=by lia
 have m1:(2 * n) % 2=0:=by lia
 have m2:(2 * n+1) % 2=1:=by lia
 have k:(2 * -n) % 2=0:=by lia
 have m:(2 * -n+1) % 2=1:=by lia
 have en:-n * P=-(n * P):=Int.neg_mul ..
 have o:w=0\/w=1\/w=2\/w=3\/w=4:=by
  have:w<5:=j;lia
 have c:X p<=n * P->Db.sat P (↑(2 * n+1)) (X p - X 0):=λz=>by
  show X p - X 0<=(2 * n+1) / 2 * P - 1+(2 * n+1) % 2;rw[f,m2,d];lia
 have b:n * P<=X p->Db.sat P (↑(2 * -n+1)) (X 0 - X p):=λz=>by
  show X 0 - X p<=(2 * -n+1) / 2 * P - 1+(2 * -n+1) % 2;rw[i,m,d,en];lia
 rcases o with rfl|rfl|rfl|rfl|rfl<;>intro x a;rw[Ï.mp a];have z:X p<n * P:=ä h;show X p - X 0<=(2 * n) / 2 * P - 1+(2 * n) % 2;rw[e,m1,d]
 lia;rw[Ï.mp a];exact c<|ä h
 rw[Ï.mp a];have z:n * P<X p:=ä h;show X 0 - X p<=(2 * -n) / 2 * P - 1+(2 * -n) % 2;rw[g,k,d,en]
 lia;rw[Ï.mp a];exact b<|ä h
 have z:X p=n * P:=ä h;rcases Ì.mp a with rfl|a;exact c<|by lia
 rw[Ï.mp a];exact b<|by lia
def NM{m:Nat}{L:List<|Nat×Nat×Int}(n:Fq m L){f:Db.Z}(t:Db.Nar (m+1) f){P:Int}(o:0<P){X:Nat->Int}(g:X 0=0)(s:∀i,0<=X i)(d:Db.Lie (m+1) P X f)(hh:BS P L X=true):∃h,DL L f=↑h/\Db.Lie (m+1) P X h:=by
 have k:=J4 n
 have r:Db.Lie (m+1) P X<|Dk.puts (L.flatMap Cr) f:=(Dk.lie_puts o _ f k).mpr {d,λx e=>by
  let(l,d,e):=ļ.mp e;exact zk6 g (n l d).2.2 (Ö.mp hh l d) x e}
 have sd:=Db.lie_sound o g (λi ϊ=>s i) r;let(a,b):=Dk.met_fw t k;unfold DL;cases c:Dk.met (L.flatMap Cr) f with
 |none=>exact absurd sd (b c)|some h=>
  refine{h,rfl,λi j p q=>?_};rw[<- (a h c).2 i j p q];exact Db.lie_fw g (λi ϊ=>s i) r (m+1) (Æ _) i j p q
def zms{M:Mc}(h:McOk M){mo:Nat->Db.B}{x:Str}{f:Db.Z}(k:Db.Nar (M.ws.length+1) f){P:Int}(e:0<P){X:Nat->Int}(o:X 0=0)(p:∀i,0<=X i)(t:Db.Lie (M.ws.length+1) P X f)(hh:BS P (BN M.ws M.rs x) X=true) :
  ∃z,DR M mo x f=↑z/\∀(d:Int),0<=d->∀τ:Nat->Int,τ 0=0->(∀i,0<i->τ i=X i+d)->BS P (BN M.ws M.rs x) τ=true->Db.Lie (M.ws.length+1) P τ z:=by
 have b:=K3 h x;let(g,c,w):=NM b k e o p t hh;let(q,m,C,_):=Wp b k c;have B:=NL k b c;have fs:=zgd C mo;refine{Db.fw (Db.fld q<|Db.zm mo)<|M.ws.length+1,?_,λd hd τ l n u=>?_}
 unfold DR HU;rw[c,Ď,m,Ď,if_pos fs]
 have r:∀i,0<=τ i:=λi=>by
  cases i with
  |zero=>lia|succ i=>
   rw[n (i+1)<|by lia];have:=p<|i+1
   lia
 have A:=Dm.wtd_lie hd w τ (by rw[l,o]) λi s ϊ=>n i s;let(D,a,y):=NM b (Dm.wtd_nar B) e l r A u;rw[m]at a;cases a;have v:Db.Lie (M.ws.length+1) P τ<|Db.fld q<|Db.zm mo:=Db.lie_mono e y λi j ϊ ϊ=>Db.fld_le q (Db.zm mo) i j
 exact Db.lie_fw l (λi ϊ=>r i) v _<|Æ _
def E2(M:Mc)(mo:Nat->Db.B)(L:List Nd)(P:Int)(r:Str)(X:Nat->Int):Prop:=∃(f:Db.Z) (a:Nat->Int) (d:Int),Db.Nar (M.ws.length+1) f/\Db.Lie (M.ws.length+1) P a f/\a 0=0/\(∀i,0<=a i)/\BS P (BN M.ws M.rs r) a=true/\0<=d/\X 0=0/\(∀i,0<i->X i=a i+d)/\∀z,DR M mo r f=↑z->EX M.ws.length L {(r),z,none,none}=true
def E2.nn{M:Mc}{mo:Nat->Db.B}{L:List Nd}{P:Int}{r:Str}{X:Nat->Int}(c:E2 M mo L P r X):X 0=0/\∀i,0<=X i:=by
 let(f,g,d,_,_,_,e,_,h,b,a,_):=c;refine{b,λi=>?_};cases i with
 |zero=>lia|succ i=>
  rw[a (i+1)<|by lia];have:=e<|i+1
  lia
def E2.lie{M:Mc}(h:McOk M){mo:Nat->Db.B}{L:List Nd}{P:Int}(g:0<P){r:Str}{X:Nat->Int}(c:E2 M mo L P r X)(hh:BS P (BN M.ws M.rs r) X=true):∃n∈L,n.r=r/\Db.Lie (M.ws.length+1) P X n.z:=by
 let(f,y,d,nf,u,e,x,m,k,w,o,p):=c;let(z,l,t):=zms h (mo:=mo) nf g e x u m;have v:=t d k X w o hh;let(n,s,q):=ą.mp<|p z l;let(a,b):=Ķ.mp q;have a:n.r=r:=ä a;have b:∀i j,i<M.ws.length+1->j<M.ws.length+1->Db.le (z i j) (n.z i j):=@of_decide_eq_true _ (Classical.propDecidable _) b;exact{n,s,a,Db.lie_mono g v b}
def zgh{M:Mc}{K:List<|Str×List (Nat×Nat×Int)}{mo:Nat->Db.B}{L:List Nd}(l:Lst45 M K mo L){P:Int}(hh:BS P (BN M.ws M.rs<|M.nm.headD "") (λϊ=>0)=true):E2 M mo L P (M.nm.headD "") λϊ=>0:=by
 refine{nN,λϊ=>0,0,Sk _,λi j ϊ ϊ=>?_,rfl,λϊ=>ó _,hh,ó _,rfl,λϊ ϊ=>rfl,λz a=>?_};show(0:Int) - 0<=1 / 2 * P - 1+1 % 2;lia
 have e:C9 M mo=[{M.nm.headD "",z,none,none}]:=by
  unfold C9;rw[a]
 have b:({M.nm.headD "",z,none,none}:Nd)∈L:=l.fr.1.subset (by rw[e];exact Ï.mpr rfl);exact ą.mpr {_,b,by rw[Ç rfl,Wm];rfl}
def E2.wait{M:Mc}{mo:Nat->Db.B}{L:List Nd}{P:Int}{r:Str}{X:Nat->Int}(c:E2 M mo L P r X){w:Int}(n:0<=w):E2 M mo L P r λi=>if i=0 then 0 else X i+w:=by
 let(f,b,d,nf,k,a,l,e,m,o,g,h):=c;refine{f,b,d+w,nf,k,a,l,e,by lia,rfl,λi j=>?_,h};show(if i=0 then 0 else X i+w)=_;rw[if_neg (by lia),g i j];lia
def E2.door{M:Mc}(h:McOk M){K:List<|Str×List (Nat×Nat×Int)}{mo:Nat->Db.B}{L:List Nd}(l:Lst45 M K mo L)(cl:MA M mo L L.length){P:Int}(f:0<P){r:Str}{X:Nat->Int}(c:E2 M mo L P r X)(hh:BS P (BN M.ws M.rs r) X=true){p:Nat×Dr}(m:p∈Bj r 0 M.ds)(w:BS P (gK M.ws p.2) X=true){τ:Nat->Int}(a:∀i,τ i=X (Ba (As M.ws p.2.n) i))(v:BS P (BN M.ws M.rs p.2.e) τ=true):E2 M mo L P p.2.e τ:=by
 let(o,q):=c.nn;let(n,b,rfl,y):=c.lie h f hh;have D:=h.d _<|KN m;have e:Fq M.ws.length<|gK M.ws p.2:=JP D.g;let(g,d,x):=NM e (l.ok n b).z f o q y w;have A:=NL (l.ok n b).z e d;let(j,k,t):=Ŏ.mp b
 have s:τ 0=0:=by
  rw[a 0,show Ba (As M.ws p.2.n) 0=0 by unfold Ba;split<;>rfl];exact o
 refine{Dm.pbk g<|Ba<|As M.ws p.2.n,τ,0,Ye A _,Dm.pbk_lie x (λi B=>by unfold Ba;split<;>lia) τ λi ϊ=>a i,s,λi=>by rw[a i];exact q _,v,ó _,s,λi ϊ=>by lia,λz u=>?_};refine cl j n k (by rw[Á k,t]) {p.2.e,z,↑j,↑p.1}<|ļ.mpr {p,m,?_}
 unfold G9 S6;rw[d,Ď,u];exact Ï.mpr rfl
def zj5{M:Mc}(h:McOk M){K:List<|Str×List (Nat×Nat×Int)}(f:Hv M.ws.length K){mo:Nat->Db.B}{L:List Nd}(l:Lst45 M K mo L)(m:∀n∈L,C8 K n=false){P:Int}(a:0<P){r:Str}{X:Nat->Int}(c:E2 M mo L P r X)(hh:BS P (BN M.ws M.rs r) X=true){k:Str×List (Nat×Nat×Int)}(hk:k∈K)(i:k.1=r):BS P k.2 X=false:=by
 let(o,p):=c.nn;let(n,b,e,j):=c.lie h a hh;cases q:BS P k.2 X with
 |false=>rfl|true=>
  let(g,d,_):=NM (f k hk).2 (l.ok n b).z a o p j q;have:C8 K n=true:=ą.mpr {k,hk,by rw[Ç<|i.trans e.symm,d];rfl}
  rw[m n b]at this;cases this
def M1{ws:ki}{rs:List<|Str×qB}{dd:List Sd}(K:SpK ws rs dd){r:Nat}(a:r<rs.length):BN (BZ ws rs dd).ws (BZ ws rs dd).rs (Bw rs r)=EA ws rs r:=by
 have e:Bw rs r=rs[r].1:=by unfold Bw;simp_all
 have:=Xc (ws:=ws) K.sp.r.nd<|Ò a;show BN ws rs (Bw rs r)=_;unfold EA
 simp_all
def LH{m:Nat}{P:Int}{x:Nat->Int}:∀{L:List<|Nat×Nat×Int},Fq m L->BS P L (zX x)=BS P L x
 |[],ϊ=>rfl|a::L,h=>by
  have b:zX x a.1=x a.1:=if_neg (by have:=(h a<|.head _).1;lia);show(DN P (zX x a.1) a.2.1 a.2.2 && BS P L (zX x))=(DN P (x a.1) a.2.1 a.2.2 && BS P L x);rw[b,LH λl c=>h l<|.tail _ c]
def Wi{x:Str}{d:Dr}(b:d.z=Str.ofString "")(a:d.s=x):∀{l:ku} {k j:Nat},l[j]?=↑d->(k+j,d)∈Bj x k l
 |[],ϊ,ϋ,h=>by cases h|c::l,k,0,h=>by
  cases h;unfold Bj;rw[if_pos {(b),a}];exact .head _
 |c::l,k,j+1,h=>by
  unfold Bj;have:=Wi b a (l:=l) (k:=k+1) (j:=j) h;rw[show k+(j+1)=k+1+j by lia]
  exact à _ this
structure CvS(ws:ki)(rs:List<|Str×qB)(dd:List Sd)(mo:Nat->Db.B)(L:List Nd)(s:Nat×(Nat->Int)):Prop where
 r:s.1<rs.length
 c:E2 (BZ ws rs dd) mo L 6 (Bw rs s.1) (zX s.2)
 h:BS 6 (EA ws rs s.1) s.2=true
def CvS.hh{ws:ki}{rs:List<|Str×qB}{dd:List Sd}(K:SpK ws rs dd){mo:Nat->Db.B}{L:List Nd}{s:Nat×(Nat->Int)}(c:CvS ws rs dd mo L s):BS 6 (BN (BZ ws rs dd).ws (BZ ws rs dd).rs<|Bw rs s.1) (zX s.2)=true:=by
 rw[LH<|K3 K.mc _,M1 K c.r];exact c.h
def b9{ws:ki}{rs:List<|Str×qB}{dd:List Sd}(K:SpK ws rs dd):(BZ ws rs dd).nm.headD ""=Bw rs 0:=by
 have r1:=K.sp.r.l1;cases rs with
 |nil=>cases r1|cons a r=>rfl
section
variable {ws:ki}{rs:List<|Str×qB}{dd:List Sd}(K:SpK ws rs dd){Km:List<|Str×List (Nat×Nat×Int)}{mo:Nat->Db.B}{L:List Nd}(l:Lst45 (BZ ws rs dd) Km mo L)(cl:MA (BZ ws rs dd) mo L L.length)
include K l
def zj2(h:BS 6 (EA ws rs 0) (λϊ=>0)=true):CvS ws rs dd mo L (0,λϊ=>0):=by
 have r1:=K.sp.r.l1;have e:=b9 K;have z:zX (λϊ=>0)=λϊ=>0:=funext λi=>by unfold zX;split<;>rfl
 refine{by lia,?_,h}
 have:=zgh l (P:=6) (by
  rw[e,M1 K<|by lia]
  exact h)
 rw[e]at this;show E2 _ mo L 6 (Bw rs 0)<|zX λϊ=>0
 rw[z];exact this
include cl
set_option tactic.hygienic true in
def zmj{s h:Nat×(Nat->Int)}(c:CvS ws rs dd mo L s){t:Tp}(u:0<=t.w)(e:CN 6 ws rs dd s t.w t.k=↑h):CvS ws rs dd mo L (s.1,λp=>s.2 p+t.w)/\CvS ws rs dd mo L h:=by
 have v:zX (λp=>s.2 p+t.w)=λi=>if i=0 then 0 else zX s.2 i+t.w:=funext λi=>by
  unfold zX;grind
 unfold CN at e;split at e;rename_i j
 have A:CvS ws rs dd mo L (s.1,λp=>s.2 p+t.w):={c.r,by
  show E2 _ mo L 6 (Bw rs s.1)<|zX λp=>s.2 p+t.w
  rw[v];exact c.c.wait u,j}
 refine{A,?_};split at e;cases e;exact A;rename_i k hk;split at e;rename_i d hd;split at e;rename_i q;let(n,o,r,g):=q;cases e;have m:=õ hd;have b:=K.sp.b d m
 have a:(BZ ws rs dd).ds[k]?=↑(Ed rs d):=by
  show(dd.map<|Ed rs)[k]?=_;rw[È,hd];rfl
 have f:(0+k,Ed rs d)∈Bj (Bw rs s.1) 0 (BZ ws rs dd).ds:=Wi (show d.z=Str.ofString "" from o) (show Bw rs d.b=Bw rs s.1 by rw[n]) a;refine{b.2,?_,g};refine A.c.door K.mc l cl (by decide) (A.hh K) (p:=(0+k,Ed rs d)) f ?_ (λi=>?_) ?_;rw[LH<|JP (K.mc.d _<|KN f).g];exact r;show zX (λp=>if p∈As ws d.n then 0 else s.2 p+t.w) i=zX (λp=>s.2 p+t.w) (Ba (As ws d.n) i);unfold zX Ba;grind;show BS 6 (BN _ _<|Bw rs d.e) _=true;rw[LH<|K3 K.mc _,M1 K b.2];exact g;cases e;cases e;cases e
def j7:∀(Ls:List Tp) (s:Nat×(Nat->Int)),CvS ws rs dd mo L s->(∀t∈Ls,0<=t.w)->(∃s',Dj 6 ws rs dd ↑s (Eh Ls)=↑s')->∀u∈EN ws rs dd s Ls,CvS ws rs dd mo L u
 |[],ϊ,ϋ,ό,ύ=>λu d=>by cases d|t::Ls,s,c,g,{(i),e}=>by
  have e:Dj 6 ws rs dd (CN 6 ws rs dd s t.w t.k) (Eh Ls)=↑i:=e;cases f:CN 6 ws rs dd s t.w t.k with
  |none=>rw[f,Mp]at e;cases e|some h=>
   rw[f]at e;have j:Fi ws rs dd s t=h:=by unfold Fi;rw[f];rfl
   let(a,b):=zmj K l cl c (g t<|.head _) f;intro u d;have d:u∈(s.1,λp=>s.2 p+t.w)::Fi ws rs dd s t::EN ws rs dd (Fi ws rs dd s t) Ls:=d
   rw[j]at d;rcases Ì.mp d with rfl|d;exact a;rcases Ì.mp d with rfl|d;exact b;exact j7 Ls h b (λt k=>g t<|.tail _ k) {(i),e} u d
set_option tactic.hygienic true in
def zqm{d:List Tp}(g:∀t∈d,0<=t.w)(f:∀s,Cv 6 ws rs=↑s->∃s',Dj 6 ws rs dd ↑s (Eh d)=↑s'):∀u∈EK ws rs dd d,CvS ws rs dd mo L u:=by
 intro u b;unfold EK at b;cases e:Cv 6 ws rs with
 |none=>rw[e]at b;cases b|some s=>
  rw[e]at b
  have c:CvS ws rs dd mo L s:=by
   have a:=e;unfold Cv at a;split at a;rename_i z;cases a;exact zj2 K l z;cases a
  rcases Ì.mp b with rfl|b;exact c;exact j7 K l cl d s c g (f s e) u b
omit cl
set_option tactic.hygienic true in
def zi3(h:Cv 6 ws rs=none):L=[]:=by
 refine l.fr.2 ?_;have r1:=K.sp.r.l1;have e:=b9 K;unfold C9
 have:DR (BZ ws rs dd) mo ((BZ ws rs dd).nm.headD "") nN=none:=by
  unfold DR;rw[e];have o:=K3 K.mc<|Bw rs 0;cases c:DL (BN (BZ ws rs dd).ws (BZ ws rs dd).rs<|Bw rs 0) nN with
  |none=>rfl|some g=>
   exfalso;let(u,M,B,_):=(Dk.met_ok _ nN (Sk _)<|J4 o).1 g c;rw[M1 K<|by lia]at B o;unfold Cv at h;split at h;cases h;rename_i z;refine z<|Ö.mpr λq r=>?_
   have H:=o q r;have f:=r;unfold EA at f;let(t,A,rfl):=Ð.mp f;have i:(0:Nat)<rs.length:=by lia
   rw[Ó,Á i]at A;let(a,b,n,rfl,_,E,I):=(K.sp.r.lk _<|Ò i).1 t A
   have F:DV b=0\/DV b=1:=by
    have:∀y∈D0,DV y=0\/DV y=1:=by decide +kernel
    exact this b E
   show DN 6 0 (DV b) n=true;rcases F with v|v<;>rw[v];refine Ç ?_;by_cases J:0<n;lia;exfalso;have s:n=0:=by lia
   subst s
   have G:((BY ws<|.tup [.str a,.str b,.int 0]).1,0,2 * 0)∈(EA ws rs 0).flatMap Cr:=ļ.mpr {_,r,by
    show _∈Cr (_,DV b,(0:Int));rw[v];exact Ï.mpr rfl}
   have j:Db.le (g (BY ws<|.tup [.str a,.str b,.int 0]).1 0)<|↑(2 * 0):=B _ G;have m:(BY ws<|.tup [.str a,.str b,.int 0]).1<ws.length+1:=H.2.1;change (BY ws<|.tup [.str a,.str b,.int 0]).1=p;have k:Db.le (g 0 p) ↑1:=u.row p m;have d:Db.le (g p p)<|Db.add (g p 0)<|g 0 p:=u.tri p p 0 m m<|ğ _;have D:g p p=↑1:=u.diag p m;rw[D]at d;cases C:g p 0 with
   |none=>rw[C]at j;exact j|some w=>
    cases x2:g 0 p with
    |none=>rw[x2]at k;exact k|some x=>
     rw[C]at j d;rw[x2]at k d;have j:w<=2 * 0:=j;have k:x<=1:=k;have d:1<=Db.bs w x:=d;rw[<- Db.bs_eq]at d
     lia
   exact Ç<|by lia
 rw[this]
end
def cA{rs:List<|Str×qB}{r:Nat}(a:r<rs.length):Bw rs r∈rs.map (·.1):=by
 unfold Bw;rw[Ó,Á a];exact ĩ<|Ò a
def zmm{P:Int}(h:Bo P){ws:ki}{rs:List<|Str×qB}{dd:List Sd}(K:SpK ws rs dd){r:Nat}(s:r<rs.length)(x:Nat->Int){L:List Nd}(M:L.length<=1000)(E:∀n∈L,PyData.strOk n.r=true):Lr [Ao ws rs dd,.lst<|L.map<|AL ws.length,DX P ws.length r x]=↑(.ok<|.bl<|L.any λn=>decide (n.r=Bw rs r) && J5 (ws.length+1) P (zX x) n.z):=by
 have y:=En K.sp.r;have J:=AK _ y;have sd:=K.sp.sd;have I:=AK _ sd;have w2:=K.w2;have H:=IK s;have gs:=(K9 K.sp.r r).sh;have k:=DW ws.length P x;have l:=AK _ k;have m:=Eu ws.length L;have o:=AK _ m;have t:(L.map<|AL ws.length).length<=100000:=by rw[À];lia
 let S (a d f g:kr):AM:=[↑(Ao ws rs dd),↑(.lst<|L.map<|AL ws.length),↑(.tup [.int (r:Int),.lst<|AU ws.length P x]),a,d,f,g]
 have u:=Ui (b:=Ad 4<|AH (AD 3)<|AH (AD 4)<|AH (AD 5)<|AH (AD 6) Ah) (body:=KR) (AL ws.length) (λn=>decide (n.r=Bw rs r) && J5 (ws.length+1) P (zX x) n.z) (.bl true) (λY=>∃a d f g,Y=S a d f g) L (S none none none none) {(none),none,none,none,rfl} λn F Y D=>by
  let(a,d,f,g,rfl):=D;have G:=zlu h (by lia:ws.length<=100) n.z x
  have B:Au (.str n.r) (.str<|Bw rs r)=↑(.bl<|decide (n.r=Bw rs r)):=GK (E n F)<|K.mc.tn _<|cA s;have sz:=Dy (ws.length+1) n.z;have p:=Av _ sz;have v:=E6 n.p;have w:=E6 n.k;have f1:=Av _ v;have f2:=Av _ w;refine{S (↑(.str n.r)) (↑(zT (ws.length+1) n.z)) (↑(Bk n.p))<|↑(Bk n.k),?_,?_}
  show Ad 4 _ (.tup [.str n.r,zT (ws.length+1) n.z,Bk n.p,Bk n.k]) _=↑[_,_,_,_,↑(zT (ws.length+1) n.z),_,_];change zT (ws.length+1) n.z=ZT;change Bk n.p=P1;change Bk n.k=P2
  simp![S,sz,p,v,f1,w,f2]
  have hd:∀i j:Bool,Au (.str n.r) (.str<|Bw rs r)=↑(.bl i)->Lp [zT (ws.length+1) n.z,.lst<|AU ws.length P x]=↑(.ok<|.bl j)->KR (S (↑(.str n.r)) (↑(zT (ws.length+1) n.z)) (↑(Bk n.p))<|↑(Bk n.k))=↑(if (i && j)=true then .rt (.bl true) else .nx (S (↑(.str n.r)) (↑(zT (ws.length+1) n.z)) (↑(Bk n.p))<|↑(Bk n.k))):=λi j q C=>by
   unfold Bw at q;show KR [↑(.tup [.lst<|ws.map T.str,.lst<|rs.map A9,.lst<|dd.map Bd]),↑(.lst<|L.map<|AL ws.length),↑(.tup [.int (r:Int),.lst<|AU ws.length P x]),_,↑(zT (ws.length+1) n.z),_,_]=↑(if (i && j)=true then _ else .nx [↑(.tup [.lst<|ws.map T.str,.lst<|rs.map A9,.lst<|dd.map Bd]),↑(.lst<|L.map<|AL ws.length),↑(.tup [.int (r:Int),.lst<|AU ws.length P x]),_,↑(zT (ws.length+1) n.z),_,_])
   change zT (ws.length+1) n.z=ZT;change AU ws.length P x=VT;change L.map (AL ws.length)=LT;change (rs.getD r (Str.empty,[])).1=GN;change (rs.getD r (Str.empty,[])).2=GT;unfold KR;cases i<;>cases j<;>simp![AV,y,sd,k,H,gs,q,sz,p,l,C,Ŷ,Ĭ,Ä,Ã,ę]
  have:=hd _ _ B G;exact{λz=>{_,by rw[this,if_neg (by rw[z];exact ö)],_,_,_,_,rfl},λz=>by rw[this,if_pos z]}
 unfold Lr;refine Fy rfl ?_;show N8 (S none none none none)=_;unfold N8;cases c:L.any λn=>decide (n.r=Bw rs r) && J5 (ws.length+1) P (zX x) n.z with
 |true=>
  have e:=u.2 c;refine sr ?_
  simp![S,m,o,t]
  exact e
 |false=>
  let(A,e,a,d,f,g,rfl):=u.1 c;refine sq (Y':=S a d f g) ?_<|by simp![]
  simp![S,m,o,t]
  exact e
abbrev Ri:Stmt:=top 94
def Pm:AG:=
 (A8 (Bg (m2 Au (AA 7)<|AJ (AJ (AJ (AA 0)<|mC<|.int 1)<|AA 5)<|mC<|.int 0)<|AN Fb<|AB (AA 8)<|AB (AJ (AA 0)<|mC<|.int 0)<|AB (AA 6) AE) (AO<|mC<|.bl false) A7)
def Pn:AG:=
 (AF (A8 (BW<|AN Lr<|AB (AA 0)<|AB (AJ (AA 4)<|mC<|.int 0)<|AB (BV<|AB (AA 5)<|AB (AA 6) AE) AE) (AO<|mC<|.bl false) A7)
 (BE (Aq<|AA 2) (Ad 2<|AH (AD 7)<|AH (AD 8) Ah) Pm))
def N7:AG:=
 (AF (AS (AN KD<|AB (AA 1)<|AB (AA 2) AE)<|AD 4)
 (AF (A8 (B0 (m2 (BD false) (AA 4)<|mC .non)<|AJ (AA 4)<|mC<|.int 1) (AO<|B0 (m2 (BD false) (AA 4)<|mC .non)<|m2 Cd (AA 2)<|BI AE) A7)
 (AF (BE (Aq<|AA 3) (Ad 2<|AH (AD 5)<|AH (AD 6) Ah) Pn)
 (AO<|m2 Au (m2 FW (AJ (AA 4)<|mC<|.int 0)<|BI AE)<|m2 FW (AA 3)<|BI AE))))
def Lq:qB->Option Ru:=AW 4 9 N7
abbrev i7:=fA 14 4 Ri Lq
abbrev zit:Gm:=gA Ri 13 [("_law_told",iT),("_law_covered",jC),("_law_holds",OC)] []
theorem zjg:Ck zit i7 Ri N7:={}
def zm5{M:Mc}{L:List Nd}:EV (Bx M []) L=false:=by
 unfold EV;cases L.getLast?<;>rfl
def zlk{M:Mc}{K:List<|Str×List (Nat×Nat×Int)}{mo:Nat->Db.B}{L:List Nd}(l:Lst45 M K mo L)(h:EV K L=false):(∀n∈L,C8 K n=false)/\MA M mo L L.length:=by
 rcases l.hit with ⟨n,e,z⟩|q;unfold EV at h;rw[e]at h;rw[show C8 K n=false from h]at z;cases z;exact q
theorem zlt{ws wd:ki}(d:CA ws)(hd:CA wd){l:qB}(h:BX ws wd l):Fit (.lst l) 2:=Fit.nd λt a=>by
 let(x,y,n,rfl,b,c,e):=h t a;refine Fit.tup λt a=>?_;erw[Ì,Č,ė]at a;rcases a with rfl|rfl|rfl;exact Fit.str (d x b) _;exact Fit.str (hd y c) _;exact Fit.int _ _
def gB{α:Type}{b:T->AM->Option AM}{body:AG}(f:α->T)(I:AM->Prop){L:List α}{Y:AM}(h:I Y)(d:∀x∈L,∀Y,I Y->∃τ1,b (f x) Y=↑τ1/\∃τ2,body τ1=↑(.nx τ2)/\I τ2):∃Y',Ar b body (L.map f) Y=↑(.nx Y')/\I Y':=Du (λϊ Y=>I Y) h λi t Y a c=>by
 let(x,e,rfl):=Ð.mp<|õ a;exact d x e Y c
structure GdK(ws:ki)(rs:List<|Str×qB)(gl:List<|Str×qB)(S:List<|Nat×(Nat->Int))(L:List Nd):Prop where
 c:∀s∈S,(L.any λn=>decide (n.r=Bw rs s.1) && J5 (ws.length+1) 6 (zX s.2) n.z)=true
 m:∀s∈S,∀g∈gl,g.1=Bw rs s.1->BS 6 (g.2.map<|BY ws) s.2=false
 e:L=[] ↔ S=[]
def fR{ws:ki}{rs:List<|Str×qB}{dd:List Sd}(K:SpK ws rs dd){gl:List<|Str×qB}(q:Eg ws (rs.map (·.1)) gl)(hn:gl.length<=100){S:List<|Nat×(Nat->Int)}(N:∀s∈S,s.1<rs.length)(lS:S.length<=1000)(hc:∀L,Lst45 (BZ ws rs dd) (Bx (BZ ws rs dd) gl) (Ea (BZ ws rs dd) gl) L->EV (Bx (BZ ws rs dd) gl) L=false->GdK ws rs gl S L) :
  Lq [Ao ws rs dd,Ay<|BZ ws rs dd,.lst<|gl.map A9,.lst<|S.map<|Bt ws.length]=↑(.ok<|.bl true):=by
 have F:=En K.sp.r;have er:=AK _ F;have sd:=K.sp.sd;have ed:=AK _ sd;have w2:=K.w2;have tw:CA ws:=K.mc.tw;have R:=H9 K.mc;have Z:=Av _ R;have B:=q.sh;have C:=AK _ B;have A:=Mg ws.length S;have J:=AK _ A;have lg:(gl.map A9).length<=100000:=by rw[À];lia
 have O:(S.map<|Bt ws.length).length<=100000:=by rw[À];lia
 let W (x4:T) (r u f h:kr):AM:=[↑(Ao ws rs dd),↑(Ay<|BZ ws rs dd),↑(.lst<|gl.map A9),↑(.lst<|S.map<|Bt ws.length),↑x4,r,u,f,h];unfold Lq;refine Fy rfl ?_;show N7 [↑(Ao ws rs dd),↑(Ay<|BZ ws rs dd),↑(.lst<|gl.map A9),↑(.lst<|S.map<|Bt ws.length),none,none,none,none,none]=_;unfold N7
 rcases zju K.mc q (by lia) with e|⟨L,e,l1,l2⟩;refine sq (Y':=W .non none none none none) ?_<|sr ?_
 unfold W;change Ay (BZ ws rs dd)=MT;change gl.map A9=GT;change S.map (Bt ws.length)=ST
 simp![R,Z,B,C,e]
 .simp![W]
 have i:=Eu (BZ ws rs dd).ws.length L;have k:=AK _ i;refine sq (Y':=W (.tup [.lst<|L.map<|AL ws.length,.bl<|EV (Bx (BZ ws rs dd) gl) L]) none none none none) ?_ ?_
 show _=↑(Out.nx [_,_,_,_,↑(.tup [.lst<|L.map<|AL (BZ ws rs dd).ws.length,.bl<|EV (Bx (BZ ws rs dd) gl) L]),_,_,_,_]);change EV (Bx (BZ ws rs dd) gl) L=bb;change L.map (AL (BZ ws rs dd).ws.length)=LT;change Ay (BZ ws rs dd)=MT;change gl.map A9=GT;change S.map (Bt ws.length)=ST
 simp![R,Z,B,C,e,i,k]
 have i:A3 (L.map<|AL ws.length)=true:=i;have k:BP (L.map<|AL ws.length)=L.map (AL ws.length):=k;cases D:EV (Bx (BZ ws rs dd) gl) L with
 |true=>
  have ng:gl≠[]:=λz=>by
   rw[z,zm5]at D;cases D
  have ne:=cC (o:=false) (l:=gl.map A9) (n:=4) (by decide) (Fit.nd λt E=>by
   let(g,d,rfl):=Ð.mp E;refine Fit.tup λt E=>?_;erw[Ì,Č,ė]at E;rcases E with rfl|rfl;exact Fit.str (K.mc.tn _ (q g d).1) _
   exact zlt tw P5 (q g d).2.1)
  rw[Õ (by rw[À];exact λz=>ng<|List.length_eq_zero_iff.mp z)]at ne;refine sr ?_;unfold W;change gl.map A9=GT;change L.map (AL ws.length)=LT
  simp![i,k,B,C,ne]
 |false=>
  have G:=hc L l2 D;have tL:∀n∈L,PyData.strOk n.r=true:=λn hn=>K.mc.tn _ (l2.ok n hn).r
  let(H,V,r,u,f,h,rfl):=gB (b:=Ad 2<|AH (AD 5)<|AH (AD 6) Ah) (body:=Pn) (Bt ws.length) (λY=>∃r u f h,Y=W (.tup [.lst<|L.map<|AL ws.length,.bl false]) r u f h) (L:=S) (Y:=W (.tup [.lst<|L.map<|AL ws.length,.bl false]) none none none none) {(none),none,none,none,rfl} λs x Y M=>by
   let(r,u,f,h,rfl):=M;have j:=DW ws.length 6 s.2;have m:=AK _ j;have U:=zmm GO K (N s x) s.2 (L:=L) (by lia) tL
   rw[G.c s x]at U;have I:Lr [Ao ws rs dd,.lst<|L.map<|AL ws.length,.tup [.int (s.1:Int),.lst<|AU ws.length 6 s.2]]=↑(.ok<|.bl true):=U;refine{W (.tup [.lst<|L.map<|AL ws.length,.bl false]) (↑(.int (s.1:Int))) (↑(.lst<|AU ws.length 6 s.2)) f h,?_,?_}
   show Ad 2 _ (.tup [.int (s.1:Int),.lst<|AU ws.length 6 s.2]) _=_;unfold W;change AU ws.length 6 s.2=VT
   simp![j,m]
   let(τ2,X,y7,y8,rfl):=gB (b:=Ad 2<|AH (AD 7)<|AH (AD 8) Ah) (body:=Pm) A9 (λY=>∃f h,Y=W (.tup [.lst<|L.map<|AL ws.length,.bl false]) (↑(.int (s.1:Int))) (↑(.lst<|AU ws.length 6 s.2)) f h) (L:=gl) (Y:=W (.tup [.lst<|L.map<|AL ws.length,.bl false]) (↑(.int (s.1:Int))) (↑(.lst<|AU ws.length 6 s.2)) f h) {(f),h,rfl} λg d Y M=>by
    let(f,h,rfl):=M;have p:=(q g d).2.1.sh;have v:=AK _ p;have ho:=LG GO (by lia:ws.length<=7) s.2 (q g d).2.1
    have w:Au (.str g.1) (.str<|Bw rs s.1)=↑(.bl<|decide (g.1=Bw rs s.1)):=GK (K.mc.tn _ (q g d).1)<|K.mc.tn _<|cA<|N s x;have ra:=IK<|N s x;have y:=(K9 K.sp.r s.1).sh;have mm:=G.m s x g d;unfold Bw at w mm;refine{W (.tup [.lst<|L.map<|AL ws.length,.bl false]) (↑(.int (s.1:Int))) (↑(.lst<|AU ws.length 6 s.2)) (↑(.str g.1))<|↑(.lst g.2),?_,_,?_,↑(.str g.1),↑(.lst g.2),rfl}
    unfold W
    simp![p,v]
    unfold W;change AU ws.length 6 s.2=VT;change L.map (AL ws.length)=LT;change (rs.getD s.1 (Str.empty,[])).1=GN;change (rs.getD s.1 (Str.empty,[])).2=GT;change g.1=gn;change BS 6 (g.2.map<|BY ws) s.2=D;unfold Pm;by_cases c:gn=GN;rw[Ç c]at w;rw[mm c]at ho
    simp![AV,AX,F,sd,ra,y,w,p,v,j,m,ho]
    rw[Õ c]at w
    simp![AV,F,sd,ra,y,w]
   refine{_,?_,↑(.int (s.1:Int)),↑(.lst<|AU ws.length 6 s.2),y7,y8,rfl};unfold Pn;refine Di ?_ ?_;unfold W;change AU ws.length 6 s.2=VT;change L.map (AL ws.length)=LT
   simp![AV,AX,F,er,sd,ed,i,k,j,m,I]
   unfold W at X ⊢;change AU ws.length 6 s.2=VT;change L.map (AL ws.length)=LT;change gl.map A9=GT
   simp![B,C,lg,X]
  have zz:m2 Au (m2 FW (AJ (AA 4)<|mC<|.int 0)<|BI AE) (m2 FW (AA 3)<|BI AE) (W (.tup [.lst<|L.map<|AL ws.length,.bl false]) r u f h)=↑(.v (.bl true) false):=by
   have t1:Au (.bl true) (.bl true)=↑(.bl true):=by ext
   have t2:Au (.bl false) (.bl false)=↑(.bl true):=by ext
   have q1:=zme;have q2:=@ziz;unfold W;cases L with
   |nil=>
    rw[G.e.mp rfl];rw[Đ,Đ]
    simp![-FW,q1,t1]
   |cons a L=>
    cases S with
    |nil=>cases G.e.mpr rfl|cons b S=>
     rw[Ù]at i k ⊢;rw[Ù]at A J ⊢;change AL ws.length a=A1;change L.map (AL ws.length)=A2;change Bt ws.length b=B1;change S.map (Bt ws.length)=B2;have P:(A1.sh && A3 A2)=true:=i;have Q:(B1.sh && A3 B2)=true:=A
     simp![-FW,i,k,A,J,P,Q,q2,t2]
  refine Di ?_<|sq (Y':=W (.tup [.lst<|L.map<|AL ws.length,.bl false]) r u f h) ?_ ?_
  unfold W;change L.map (AL ws.length)=LT
  simp![i,k]
  unfold W at V ⊢;change L.map (AL ws.length)=LT;change S.map (Bt ws.length)=ST
  simp![A,J,O,V]
  unfold AO;rw[zz]
abbrev Mi:Stmt:=top 95
def NS:AG:=
 (AF (AS (AN Ox<|AB (AA 0) AE)<|AD 1)
 (AF (AS (AN Lo<|AB (AA 1) AE)<|AD 2)
 (AF (AS (AN Ow<|AB (AA 1)<|AB (AN Oz<|AB (AA 1)<|AB (Cj (FO (AA 0) (↑(mC<|.int 13))<|↑(mC<|.int 33))<|Fj (AA 0) (↑(mC<|.int 13))<|↑(mC<|.int 33)) AE) AE)<|AD 3)
 (AF (A8 (BW<|AN Lq<|AB (AA 1)<|AB (AA 2)<|AB (BI AE)<|AB (AA 3) AE) (AO<|mC<|.bl false) A7)
 (AO<|AN Lq<|AB (AA 1)<|AB (AA 2)<|AB (AN Oy<|AB (Cj (FO (AA 0) (↑(mC<|.int 12))<|↑(mC<|.int 13))<|Fj (AA 0) (↑(mC<|.int 12))<|↑(mC<|.int 13))<|AB (AA 1) AE)<|AB (AA 3) AE)))))
def lM:qB->Option Ru:=AW 1 4 NS
abbrev zqh:=fA 15 1 Mi lM
abbrev zqc:Gm:=gA Mi 14 [("_law_machine",i5),("_law_made",iZ),("_law_stands",iW),("_law_drawn",i9),("_law_good",i7),("_law_goal",i8)] []
theorem zqq:Ck zqc zqh Mi NS:={}
def fV{ws:ki}{rs:List<|Str×qB}{dd:List Sd}(K:SpK ws rs dd){gl:List<|Str×qB}(i:Eg ws (rs.map (·.1)) gl){c:List Tp}(q:∀t∈c,0<=t.w)(j:∀s,Cv 6 ws rs=↑s->∃s',Dj 6 ws rs dd ↑s (Eh c)=↑s')(L:List Nd)(l:Lst45 (BZ ws rs dd) (Bx (BZ ws rs dd) gl) (Ea (BZ ws rs dd) gl) L)(p:EV (Bx (BZ ws rs dd) gl) L=false):GdK ws rs gl (EK ws rs dd c) L:=by
 let(v,cl):=zlk l p;have f:=zqm K l cl q j;have m:=cT K.mc i;have lie:∀s∈EK ws rs dd c,∃n∈L,n.r=Bw rs s.1/\Db.Lie (ws.length+1) 6 (zX s.2) n.z:=λs b=>(f s b).c.lie K.mc (by decide) ((f s b).hh K)
 refine{λs b=>?_,λs b g d e=>?_,λz=>?_,λz=>?_};let(n,h,e,u):=lie s b;exact ą.mpr {n,h,by rw[Ç e,zlv u];rfl};have:=zj5 K.mc m l v (by decide) (f s b).c ((f s b).hh K) (k:=(g.1,g.2.map<|BY ws)) (Ð.mpr {(g),d,rfl}) e;rw[LH<|JP (i g d).2.1]at this;exact this;cases o:EK ws rs dd c with
 |nil=>rfl|cons a r=>
  let(n,h,_):=lie a (by rw[o];exact .head _);rw[z]at h;cases h
 refine zi3 K l ?_;unfold EK at z;cases b:Cv 6 ws rs with
 |none=>rfl|some s=>rw[b]at z;cases z
def Xm{ws:ki}{rs:List<|Str×qB}{dd:List Sd}:∀(Ls:List Tp) (s:Nat×(Nat->Int)),(EN ws rs dd s Ls).length=2 * Ls.length
 |[],ϊ=>rfl|t::Ls,s=>by
  show(EN ws rs dd (Fi ws rs dd s t) Ls).length+1+1=2 * (Ls.length+1);rw[Xm Ls];lia
def Xl{ws:ki}{rs:List<|Str×qB}{dd:List Sd}(K:SpK ws rs dd):∀(Ls:List Tp) (s:Nat×(Nat->Int)),s.1<rs.length->∀u∈EN ws rs dd s Ls,u.1<rs.length
 |[],ϊ,ϋ,u,a=>by cases a|t::Ls,s,b,u,a=>by
  have c:(Fi ws rs dd s t).1<rs.length:=by
   unfold Fi;cases e:CN 6 ws rs dd s t.w t.k with
   |none=>exact b|some d=>exact QJ K b e
  rcases Ì.mp a with rfl|a;exact b;rcases Ì.mp a with rfl|a;exact c;exact Xl K Ls _ c u a
def j9(ns:kj)(a b:Nat):(Bi ns (↑(a:Int))<|↑(b:Int)).length<=b - a:=by
 unfold Bi;rw[HT.sIx_nat,HT.sIx_nat,ù];refine Ú (Nat.min_le_left ..) ?_;rcases Nat.le_total ns.length a with z|z;rw[Nat.min_eq_right z,Nat.sub_eq_zero_of_le (Nat.min_le_right ..)];exact é _;rw[Nat.min_eq_left z];exact Nat.sub_le_sub_right (Nat.min_le_left ..) a
def law_true(ns:kj)(h:ns.length<=63):lM [Co ns]=↑(.ok<|.bl true):=by
 let(ws,rs,b,sz,F,D):=zeh ns h;have K:=zqj D;have md:Lo [Ao ws rs b]=↑(.ok<|Ay<|BZ ws rs b):=made_ok K.sp K.mc;have f:=En K.sp.r;have j:=AK _ f;have sd:=K.sp.sd;have i:=AK _ sd;have l:=H9 K.mc;have c:=Av _ l;have l1:=j9 ns 13 33;have l2:=j9 ns 12 13;let(a,A,r,O,B,m):=zj0 K (Bi ns ↑13 ↑33)<|by lia
 have st:=zf7 K (λt p=>(r t p).1) B m<|by lia
 have v:∀t∈a,0<=t.w:=λt p=>(r t p).2;let(gl,g1,g2,P):=zm7 K (Bi ns ↑12 ↑13)<|by lia
 have u:∀s∈EK ws rs b a,s.1<rs.length:=λs d=>by
  unfold EK at d;cases e:Cv 6 ws rs with
  |none=>rw[e]at d;cases d|some N=>
   rw[e]at d;rcases Ì.mp d with rfl|d;exact QI K e;exact Xl K a N (QI K e) s d
 have w:(EK ws rs b a).length<=1000:=by
  unfold EK;cases Cv 6 ws rs with
  |none=>exact é _|some s=>
   show(EN ws rs b s a).length+1<=1000;rw[Xm];lia
 have nl:Eg ws (rs.map (·.1)) []:=λg G=>by cases G
 have x:=fR K nl (by decide) u w<|fV K nl v m
 have M:=fR K g2 (by lia) u w<|fV K g2 v m
 rw[Đ]at x;have c1:Bi (ns.map T.int) ↑13 ↑33=(Bi ns ↑13 ↑33).map T.int:=VS ..;have c2:Bi (ns.map T.int) ↑12 ↑13=(Bi ns ↑12 ↑13).map T.int:=VS ..;have H:=LF<|Bi ns ↑13 ↑33;have I:=LD<|Bi ns ↑13 ↑33;have J:=LF<|Bi ns ↑12 ↑13;have L:=LD<|Bi ns ↑12 ↑13;have y:=Py a;have C:=AK _ y;have k:=Mg ws.length<|EK ws rs b a;have o:=AK _ k;have z:=g2.sh;have E:=AK _ z;refine Fy rfl ?_;show NS [↑(Co ns),none,none,none]=_;unfold NS;unfold Co at *;have q:=LF ns;have n:=LD ns;change ns.map T.int=NT;change (Bi ns ↑13 ↑33).map T.int=C1;change (Bi ns ↑12 ↑13).map T.int=C2;change a.map Ci=LT;change (EK ws rs b a).map (Bt ws.length)=ST;change gl.map A9=GT;change Ay (BZ ws rs b)=MT;refine sq (by simp![q,n,F,AX,AV,f,j,sd,i];rfl)<|sq (by simp![AX,AV,f,j,sd,i,md,l,c];rfl)<|sq (by simp![AX,AV,f,j,sd,i,q,n,c1,H,I,A,y,C,st,k,o];rfl)<|Di (by simp![AX,AV,f,j,sd,i,l,c,k,o,x]) ?_
 simp![AX,AV,f,j,sd,i,q,n,c2,J,L,g1,z,E,l,c,k,o,M]
end
end Zl
namespace Zl
open PySem PySem.W L2 Zw Zx Pu Hd
abbrev pw:Program:=PySem.Challenge.pw_zonewalk_k45_whole_runs_are_covered
abbrev Rz:OpenLaw:=PySem.Challenge.rw_zonewalk_k45_whole_runs_are_covered
abbrev md:String:="__module__"
abbrev fl:String:="__firstlineno__"
abbrev sa:String:="__static_attributes__"
abbrev dc:String:="__doc__"
abbrev cf:Str:="/claim/cut.py"
def tO(l:kc):Obj:={(.type "tuple"),none,(.seq (Array.mk l) 0),Array.mk []}
def dO(l:List DictEntry)(n:Nat):Obj:={(.type "dict"),none,(.dict (Array.mk l) n),Array.mk []}
def eb:kc:=[(.type "ValueError"),(.type "Exception"),(.type "BaseException"),(.type "object")]
def yO(a:Str)(b c:kc)(n:Addr)(d:kc)(r e f:Nat)(w:String):Obj:={(.type "type"),none,(.cls {a,b,c,n,a,true,[],d,false,none,false}),Array.mk [(↑(.ref r)),none,(↑(.str a e)),(↑(.str a f)),(↑(.builtin w)),(↑(.bool true))]}
def cP(a:Str)(c:Nat)(b:Str)(d e:Nat)(r n k:Int)(r1:Nat)(z:Int)(g h i j l:Value)(x y:Int)(f:Nat):Obj:={(.type "code"),none,(.fields<|Array.mk [(.str a c),(.str b d),(.str cf e),(.int r 0),(.int n 0),(.int 0 0),(.int 0 0),(.int k 0),(.ref r1),(.bool true),(.int z 0),g,h,i,j,l,(.int x 0),(.int y 0),(.str cf f)]),Array.mk []}
def cL(a b:Str)(t r n q x:Nat):Obj:=cP a t b (t+1) (t+2) r n 3 q 181 (.ref<|q+1) .none (.ref<|q+2) (.ref<|q+3) (.ref<|q+4) x r<|x+1
def cN(a:Str):=cL a a
def cM(a b:Str)(t r n q:Nat):Obj:=cP a t b (t+1) (t+2) r n 3 q 181 (.ref<|q+1) .none .none .none (.ref<|q+2) ((t+3:Nat):Int) r<|t+4
def o2(P:Params):Obj:={.none,none,(.dict (Array.mk []) 0),Array.mk []}
def o3(P:Params):Obj:=dO [en P "__name__" 165<|.str "law_zonewalk_k45_whole_runs_are_covered" 868,en P "__doc__" 166 .none,en P "__package__" 167 .none,en P "__loader__" 168<|.builtin "__main__.__loader__#opaque",en P "__spec__" 169 .none,en P "__annotations__" 170<|.ref 6,en P "__builtins__" 171<|.ref 4,en P "__file__" 173<|.str "/claim/cut.py" 172,en P "__cached__" 174 .none,en P "WalkError" 206<|.ref 24,en P "BadMachine" 222<|.ref 37,en P "TooMany" 238<|.ref 49,en P "NoMark" 254<|.ref 61,en P "is_whole" 263<|.ref 70,en P "at_most" 272<|.ref 77,en P "below" 279<|.ref 84,en P "number_of" 286<|.ref 91,en P "is_open" 293<|.ref 98,en P "added" 302<|.ref 105,en P "narrower" 310<|.ref 112,en P "WORDS" 318<|.ref 113,en P "STAY_WORDS" 321<|.ref 114,en P "is_look" 330<|.ref 121,en P "is_number" 337<|.ref 128,en P "is_guard" 343<|.ref 133,en P "look_bounds" 354<|.ref 140,en P "MOST_WATCHES" 358<|.int 7 357,en P "MOST_ROOMS" 360<|.int 64 359,en P "MOST_DOORS" 362<|.int 200 361,en P "is_small_letter" 369<|.ref 147,en P "is_name" 375<|.ref 152,en P "is_watch_name" 382<|.ref 159,en P "is_room_name" 388<|.ref 164,en P "is_sign" 395<|.ref 171,en P "own_copy" 402<|.ref 178,en P "Door" 454<|.ref 210,en P "Machine" 520<|.ref 264,en P "check_watches" 526<|.ref 273,en P "are_unlike" 533<|.ref 280,en P "check_rooms" 539<|.ref 285,en P "check_doors" 549<|.ref 292,en P "are_noughts" 555<|.ref 297,en P "placed" 561<|.ref 302,en P "nought" 569<|.ref 307,en P "free_bound" 577<|.ref 314,en P "narrowest" 583<|.ref 319,en P "is_broken" 589<|.ref 324,en P "row_over" 602<|.ref 331,en P "within" 614<|.ref 338,en P "is_wider" 622<|.ref 345,en P "met" 639<|.ref 352,en P "narrowed" 645<|.ref 357,en P "copied" 651<|.ref 362,en P "waited" 660<|.ref 369,en P "put_back" 666<|.ref 374,en P "freed" 676<|.ref 381,en P "folded" 682<|.ref 386,en P "folded_bound" 694<|.ref 393,en P "placed_goal" 702<|.ref 398,en P "placed_mark" 711<|.ref 405,en P "greatest" 717<|.ref 410,en P "all_looks" 723<|.ref 415,en P "placed_stays" 734<|.ref 422,en P "nought_places" 740<|.ref 427,en P "doors_out" 752<|.ref 434,en P "Walk" 839<|.ref 484,en P "listed" 845<|.ref 493,en P "is_covered" 854<|.ref 500,en P "searched" 867<|.ref 508,en P "_law_cell_at" 877<|.ref 515,en P "_law_stream" 889<|.ref 522,en P "_law_names" 895<|.ref 527,en P "_law_number" 903<|.ref 534,en P "_law_guard" 915<|.ref 541,en P "_law_stay" 927<|.ref 548,en P "_law_door" 933<|.ref 553,en P "_law_machine" 939<|.ref 558,en P "_law_made" 945<|.ref 563,en P "_law_scale" 951<|.ref 568,en P "_law_goal" 965<|.ref 575,en P "_law_holds" 980<|.ref 582,en P "_law_divisor" 988<|.ref 589,en P "_law_plus" 999<|.ref 596,en P "_law_step" 1005<|.ref 601,en P "_law_start" 1011<|.ref 606,en P "_law_need" 1028<|.ref 613,en P "_law_drawn" 1034<|.ref 618,en P "_law_whole" 1041<|.ref 625,en P "_law_lies" 1054<|.ref 632,en P "_law_told" 1063<|.ref 639,en P "_law_stands" 1075<|.ref 646,en P "_law_covered" 1088<|.ref 653,en P "_law_good" 1103<|.ref 660,en P "law" 1113<|.ref 667] 94
def o15(P:Params):Obj:=tO [(.type "ValueError")]
def o22(P:Params):Obj:=tO []
def o23(P:Params):Obj:=dO [en P md 196<|.str "zonewalk.errors" 187,en P fl 200<|.int 2 199,en P sa 201<|.ref 22,en P "__weakref__" 203<|.ref 25,en P dc 204 .none] 3
def o24(P:Params):Obj:=yO "WalkError" [(.type "ValueError")] ([(.ref 24)]++eb) 23 [(.ref 37),(.ref 49),(.ref 61)] 15 189 197 "ValueError.__new__"
def o25(P:Params):Obj:={(.type "getset_descriptor"),none,(.fields<|Array.mk [(.str "__weakref__" 202),(.ref 24),(.builtin "ExceptionGroup.__weakref__"),.none]),Array.mk []}
def o28(P:Params):Obj:=tO [(.ref 24)]
def o35(P:Params):Obj:=tO []
def o36(P:Params):Obj:=dO [en P md 214<|.str "zonewalk.errors" 187,en P fl 218<|.int 4 217,en P sa 219<|.ref 35,en P dc 220 .none] 2
def o37(P:Params):Obj:=yO "BadMachine" [(.ref 24)] ([(.ref 37),(.ref 24)]++eb) 36 [] 28 207 215 "ValueError.__new__"
def o40(P:Params):Obj:=tO [(.ref 24)]
def o47(P:Params):Obj:=tO []
def o48(P:Params):Obj:=dO [en P md 230<|.str "zonewalk.errors" 187,en P fl 234<|.int 6 233,en P sa 235<|.ref 47,en P dc 236 .none] 2
def o49(P:Params):Obj:=yO "TooMany" [(.ref 24)] ([(.ref 49),(.ref 24)]++eb) 48 [] 40 223 231 "ValueError.__new__"
def o52(P:Params):Obj:=tO [(.ref 24)]
def o59(P:Params):Obj:=tO []
def o60(P:Params):Obj:=dO [en P md 246<|.str "zonewalk.errors" 187,en P fl 250<|.int 8 249,en P sa 251<|.ref 59,en P dc 252 .none] 2
def o61(P:Params):Obj:=yO "NoMark" [(.ref 24)] ([(.ref 61),(.ref 24)]++eb) 60 [] 52 239 247 "ValueError.__new__"
def o69(_:Params):=cN "is_whole" 257 11 1 64 261
def gO1(a:Str)(s:Stmt)(c:Nat):=gO a s "zonewalk.fractions" 255 c
def Yz(_:Params):=gO1 "is_whole" (top 6) 69
def o76(_:Params):=cN "at_most" 266 14 1 71 270
def Jg(a:Str)(s:Stmt)(c:Nat):=gO a s "zonewalk.bounds" 264 c
def Yy(_:Params):=Jg "at_most" (top 8) 76
def o83(_:Params):=cN "below" 273 16 1 78 277
def Yx(_:Params):=Jg "below" (top 9) 83
def o90(_:Params):=cN "number_of" 280 18 1 85 284
def Yw(_:Params):=Jg "number_of" (top 10) 90
def o97(_:Params):=cN "is_open" 287 20 1 92 291
def Yv(_:Params):=Jg "is_open" (top 11) 97
def o104(_:Params):=cN "added" 294 22 2 99 300
def bP(_:Params):=Jg "added" (top 12) 104
def o111(_:Params):=cN "narrower" 303 29 2 106 308
def bO(_:Params):=Jg "narrower" (top 13) 111
def bN(P:Params):Obj:=tO [(.str "<" 313),(.str "<=" 314),(.str ">" 315),(.str ">=" 316),(.str "=" 317)]
def bM(P:Params):Obj:=tO [(.str "<" 319),(.str "<=" 320)]
def o120(_:Params):=cN "is_look" 322 38 3 115 328
def Nq(a:Str)(s:Stmt)(c:Nat):=gO a s "zonewalk.looks" 311 c
def bL(_:Params):=Nq "is_look" (top 17) 120
def o127(_:Params):=cN "is_number" 331 42 1 122 335
def bK(_:Params):=Nq "is_number" (top 18) 127
def o132(P:Params):Obj:=cM "is_guard" "is_guard" 338 44 3 129
def bJ(_:Params):=Nq "is_guard" (top 19) 132
def o139(_:Params):=cN "look_bounds" 344 46 4 134 352
def bI(_:Params):=Nq "look_bounds" (top 20) 139
def o146(_:Params):=cN "is_small_letter" 363 61 1 141 367
def FR(a:Str)(s:Stmt)(c:Nat):=gO a s "zonewalk.machines" 355 c
def bH(_:Params):=FR "is_small_letter" (top 25) 146
def o151(P:Params):Obj:=cM "is_name" "is_name" 370 63 1 148
def bG(_:Params):=FR "is_name" (top 26) 151
def o158(_:Params):=cN "is_watch_name" 376 65 1 153 380
def bE(_:Params):=FR "is_watch_name" (top 27) 158
def o163(P:Params):Obj:=cM "is_room_name" "is_room_name" 383 67 1 160
def bD(_:Params):=FR "is_room_name" (top 28) 163
def o170(_:Params):=cN "is_sign" 389 71 1 165 393
def bB(_:Params):=FR "is_sign" (top 29) 170
def o177(_:Params):=cN "own_copy" 396 75 1 172 400
def bA(_:Params):=FR "own_copy" (top 30) 177
def aY(P:Params):Obj:=tO [(.str "" 415)]
def o192(P:Params):Obj:=cL "__init__" "Door.__init__" 416 79 6 187 425
def aX(_:Params):=fO "__init__" "Door.__init__" (By 31 0) (.ref 186) "zonewalk.machines" 355 192 .none
def o199(P:Params):Obj:=cL "asks" "Door.asks" 428 86 1 194 432
def aW(_:Params):=fO "asks" "Door.asks" (By 31 1) .none "zonewalk.machines" 355 199 .none
def o206(P:Params):Obj:=cL "sets" "Door.sets" 435 89 1 201 439
def aV(_:Params):=fO "sets" "Door.sets" (By 31 2) .none "zonewalk.machines" 355 206 .none
def o208(P:Params):Obj:=tO [(.str "end" 442),(.str "guard" 443),(.str "noughts" 444),(.str "sign" 445),(.str "start" 446)]
def o209(P:Params):Obj:=dO [en P md 410<|.str "zonewalk.machines" 355,en P fl 414<|.int 77 413,en P "__init__" 427<|.ref 193,en P "asks" 434<|.ref 200,en P "sets" 441<|.ref 207,en P sa 447<|.ref 208,en P "__dict__" 449<|.ref 211,en P "__weakref__" 451<|.ref 212,en P dc 452 .none] 4
def o210(P:Params):Obj:={(.type "type"),none,(.cls {"Door",[(.type "object")],[(.ref 210),(.type "object")],209,"Door",true,[],[],false,none,false}),Array.mk [none,none,(↑(.str "Door" 403)),(↑(.str "Door" 411)),(↑(.builtin "object.__new__")),(↑(.bool true))]}
def o211(P:Params):Obj:={(.type "getset_descriptor"),none,(.fields<|Array.mk [(.str "__dict__" 448),(.ref 210),(.builtin "function.__dict__"),(.builtin "function.__dict__#set")]),Array.mk []}
def o212(P:Params):Obj:={(.type "getset_descriptor"),none,(.fields<|Array.mk [(.str "__weakref__" 450),(.ref 210),(.builtin "ExceptionGroup.__weakref__"),.none]),Array.mk []}
def o225(P:Params):Obj:=cM "__init__" "Machine.__init__" 467 93 4 222
def aU(_:Params):=fO "__init__" "Machine.__init__" (By 32 0) .none "zonewalk.machines" 355 225 .none
def o232(P:Params):Obj:=cL "watches" "Machine.watches" 473 105 1 227 477
def aT(_:Params):=fO "watches" "Machine.watches" (By 32 1) .none "zonewalk.machines" 355 232 .none
def o239(P:Params):Obj:=cL "rooms" "Machine.rooms" 480 108 1 234 484
def aS(_:Params):=fO "rooms" "Machine.rooms" (By 32 2) .none "zonewalk.machines" 355 239 .none
def o246(P:Params):Obj:=cL "doors" "Machine.doors" 487 111 1 241 491
def aQ(_:Params):=fO "doors" "Machine.doors" (By 32 3) .none "zonewalk.machines" 355 246 .none
def o253(P:Params):Obj:=cL "stay" "Machine.stay" 494 114 2 248 499
def aP(_:Params):=fO "stay" "Machine.stay" (By 32 4) .none "zonewalk.machines" 355 253 .none
def o260(P:Params):Obj:=cL "watch_number" "Machine.watch_number" 502 117 2 255 507
def aO(_:Params):=fO "watch_number" "Machine.watch_number" (By 32 5) .none "zonewalk.machines" 355 260 .none
def o262(P:Params):Obj:=tO [(.str "door_list" 510),(.str "stays" 511),(.str "watch_names" 512)]
def o263(P:Params):Obj:=dO [en P md 462<|.str "zonewalk.machines" 355,en P fl 466<|.int 91 465,en P "__init__" 472<|.ref 226,en P "watches" 479<|.ref 233,en P "rooms" 486<|.ref 240,en P "doors" 493<|.ref 247,en P "stay" 501<|.ref 254,en P "watch_number" 509<|.ref 261,en P sa 513<|.ref 262,en P "__dict__" 515<|.ref 265,en P "__weakref__" 517<|.ref 266,en P dc 518 .none] 4
def o264(P:Params):Obj:={(.type "type"),none,(.cls {"Machine",[(.type "object")],[(.ref 264),(.type "object")],263,"Machine",true,[],[],false,none,false}),Array.mk [none,none,(↑(.str "Machine" 455)),(↑(.str "Machine" 463)),(↑(.builtin "object.__new__")),(↑(.bool true))]}
def o265(P:Params):Obj:={(.type "getset_descriptor"),none,(.fields<|Array.mk [(.str "__dict__" 514),(.ref 264),(.builtin "function.__dict__"),(.builtin "function.__dict__#set")]),Array.mk []}
def o266(P:Params):Obj:={(.type "getset_descriptor"),none,(.fields<|Array.mk [(.str "__weakref__" 516),(.ref 264),(.builtin "ExceptionGroup.__weakref__"),.none]),Array.mk []}
def o272(P:Params):Obj:=cM "check_watches" "check_watches" 521 119 1 269
def aN(_:Params):=FR "check_watches" (top 33) 272
def o279(_:Params):=cN "are_unlike" 527 124 1 274 531
def aM(_:Params):=FR "are_unlike" (top 34) 279
def o284(P:Params):Obj:=cM "check_rooms" "check_rooms" 534 126 2 281
def aL(_:Params):=FR "check_rooms" (top 35) 284
def o291(_:Params):=cN "check_doors" 540 136 3 286 547
def aK(_:Params):=FR "check_doors" (top 36) 291
def o296(P:Params):Obj:=cM "are_noughts" "are_noughts" 550 148 2 293
def aH(_:Params):=FR "are_noughts" (top 37) 296
def o301(P:Params):Obj:=cM "placed" "placed" 556 152 2 298
def aG(_:Params):=FR "placed" (top 38) 301
def o306(P:Params):Obj:=cM "nought" "nought" 564 158 1 303
def Ia(a:Str)(s:Stmt)(c:Nat):=gO a s "zonewalk.zones" 562 c
def aF(_:Params):=Ia "nought" (top 40) 306
def o313(_:Params):=cN "free_bound" 570 160 2 308 575
def aE(_:Params):=Ia "free_bound" (top 41) 313
def o318(P:Params):Obj:=cM "narrowest" "narrowest" 578 164 1 315
def aD(_:Params):=Ia "narrowest" (top 42) 318
def o323(P:Params):Obj:=cM "is_broken" "is_broken" 584 172 1 320
def aC(_:Params):=Ia "is_broken" (top 43) 323
def o330(_:Params):=cN "row_over" 590 174 3 325 600
def aB(_:Params):=Ia "row_over" (top 44) 330
def o337(_:Params):=cN "within" 603 183 2 332 612
def aA(_:Params):=Ia "within" (top 45) 337
def o344(_:Params):=cN "is_wider" 615 189 2 339 620
def Zz(_:Params):=Ia "is_wider" (top 46) 344
def o351(_:Params):=cN "met" 625 194 2 346 637
def Hk(a:Str)(s:Stmt)(c:Nat):=gO a s "zonewalk.moves" 623 c
def Zy(_:Params):=Hk "met" (top 48) 351
def o356(P:Params):Obj:=cM "narrowed" "narrowed" 640 202 4 353
def Zv(_:Params):=Hk "narrowed" (top 49) 356
def o361(P:Params):Obj:=cM "copied" "copied" 646 209 1 358
def Zu(_:Params):=Hk "copied" (top 50) 361
def o368(_:Params):=cN "waited" 652 211 1 363 658
def Zt(_:Params):=Hk "waited" (top 51) 368
def o373(P:Params):Obj:=cM "put_back" "put_back" 661 216 2 370
def Zs(_:Params):=Hk "put_back" (top 52) 373
def o380(_:Params):=cN "freed" 667 219 2 375 674
def Zr(_:Params):=Hk "freed" (top 53) 380
def o385(P:Params):Obj:=cM "folded" "folded" 677 225 2 382
def Zq(_:Params):=Hk "folded" (top 54) 385
def o392(_:Params):=cN "folded_bound" 683 229 4 387 692
def Zp(_:Params):=Hk "folded_bound" (top 55) 392
def o397(P:Params):Obj:=cM "placed_goal" "placed_goal" 697 240 2 394
def Np(a:Str)(s:Stmt)(c:Nat):=gO a s "zonewalk.goals" 695 c
def Zo(_:Params):=Np "placed_goal" (top 57) 397
def o404(_:Params):=cN "placed_mark" 703 245 3 399 709
def Zn(_:Params):=Np "placed_mark" (top 58) 404
def o409(P:Params):Obj:=cM "greatest" "greatest" 712 251 2 406
def Zk(_:Params):=Np "greatest" (top 59) 409
def o414(P:Params):Obj:=cM "all_looks" "all_looks" 718 257 2 411
def Zj(_:Params):=Np "all_looks" (top 60) 414
def o421(_:Params):=cN "placed_stays" 726 263 1 416 732
def Uc(a:Str)(s:Stmt)(c:Nat):=gO a s "zonewalk.plans" 724 c
def Zi(_:Params):=Uc "placed_stays" (top 62) 421
def o426(P:Params):Obj:=cM "nought_places" "nought_places" 735 268 2 423
def Zh(_:Params):=Uc "nought_places" (top 63) 426
def o433(_:Params):=cN "doors_out" 741 270 1 428 750
def Zg(_:Params):=Uc "doors_out" (top 64) 433
def o447(P:Params):Obj:=cL "__init__" "Walk.__init__" 767 282 4 442 774
def Zf(_:Params):=fO "__init__" "Walk.__init__" (By 66 0) .none "zonewalk.search" 753 447 .none
def o454(P:Params):Obj:=cL "arrived" "Walk.arrived" 777 293 3 449 786
def Ze(_:Params):=fO "arrived" "Walk.arrived" (By 66 1) .none "zonewalk.search" 753 454 .none
def o461(P:Params):Obj:=cL "first_nodes" "Walk.first_nodes" 789 303 1 456 794
def Zd(_:Params):=fO "first_nodes" "Walk.first_nodes" (By 66 2) .none "zonewalk.search" 753 461 .none
def o468(P:Params):Obj:=cL "next_nodes" "Walk.next_nodes" 797 307 3 463 809
def Zc(_:Params):=fO "next_nodes" "Walk.next_nodes" (By 66 3) .none "zonewalk.search" 753 468 .none
def o473(P:Params):Obj:=cM "hit_zones" "Walk.hit_zones" 812 317 2 470
def Zb(_:Params):=fO "hit_zones" "Walk.hit_zones" (By 66 4) .none "zonewalk.search" 753 473 .none
def o480(P:Params):Obj:=cL "hits" "Walk.hits" 818 321 2 475 823
def Za(_:Params):=fO "hits" "Walk.hits" (By 66 5) .none "zonewalk.search" 753 480 .none
def o482(P:Params):Obj:=tO [(.str "first_room" 826),(.str "free_place" 827),(.str "marks" 828),(.str "mosts" 829),(.str "stays" 830),(.str "ways" 831)]
def o483(P:Params):Obj:=dO [en P md 762<|.str "zonewalk.search" 753,en P fl 766<|.int 280 765,en P "__init__" 776<|.ref 448,en P "arrived" 788<|.ref 455,en P "first_nodes" 796<|.ref 462,en P "next_nodes" 811<|.ref 469,en P "hit_zones" 817<|.ref 474,en P "hits" 825<|.ref 481,en P sa 832<|.ref 482,en P "__dict__" 834<|.ref 485,en P "__weakref__" 836<|.ref 486,en P dc 837 .none] 4
def o484(P:Params):Obj:={(.type "type"),none,(.cls {"Walk",[(.type "object")],[(.ref 484),(.type "object")],483,"Walk",true,[],[],false,none,false}),Array.mk [none,none,(↑(.str "Walk" 755)),(↑(.str "Walk" 763)),(↑(.builtin "object.__new__")),(↑(.bool true))]}
def o485(P:Params):Obj:={(.type "getset_descriptor"),none,(.fields<|Array.mk [(.str "__dict__" 833),(.ref 484),(.builtin "function.__dict__"),(.builtin "function.__dict__#set")]),Array.mk []}
def o486(P:Params):Obj:={(.type "getset_descriptor"),none,(.fields<|Array.mk [(.str "__weakref__" 835),(.ref 484),(.builtin "ExceptionGroup.__weakref__"),.none]),Array.mk []}
def o492(P:Params):Obj:=cM "listed" "listed" 840 323 3 489
def fW(a:Str)(s:Stmt)(c:Nat):=gO a s "zonewalk.search" 753 c
def Z9(_:Params):=fW "listed" (top 67) 492
def o499(_:Params):=cN "is_covered" 846 339 2 494 852
def Z8(_:Params):=fW "is_covered" (top 68) 499
def SY(P:Params):Obj:=tO [(.int 200 855),.none]
def o507(_:Params):=cN "searched" 856 344 4 502 865
def Z7(_:Params):=fO "searched" "searched" (top 69) (.ref 501) "zonewalk.search" 753 507 .none
def o514(_:Params):=cN "_law_cell_at" 870 349 2 509 875
def Cg(a:Str)(s:Stmt)(c:Nat):=gO a s "law_zonewalk_k45_whole_runs_are_covered" 868 c
def Z6(_:Params):=Cg "_law_cell_at" (top 71) 514
def o521(_:Params):=cN "_law_stream" 878 353 2 516 887
def Z5(_:Params):=Cg "_law_stream" (top 72) 521
def o526(P:Params):Obj:=cM "_law_names" "_law_names" 890 366 2 523
def Z4(_:Params):=Cg "_law_names" (top 73) 526
def o533(_:Params):=cN "_law_number" 896 376 2 528 901
def Z3(_:Params):=Cg "_law_number" (top 74) 533
def o540(_:Params):=cN "_law_guard" 904 378 3 535 913
def Z0(_:Params):=Cg "_law_guard" (top 75) 540
def o547(_:Params):=cN "_law_stay" 916 385 3 542 925
def ZZ(_:Params):=Cg "_law_stay" (top 76) 547
def o552(P:Params):Obj:=cM "_law_door" "_law_door" 928 392 4 549
def ZY(_:Params):=Cg "_law_door" (top 77) 552
def o557(P:Params):Obj:=cM "_law_machine" "_law_machine" 934 397 1 554
def ZX(_:Params):=Cg "_law_machine" (top 78) 557
def o562(P:Params):Obj:=cM "_law_made" "_law_made" 940 409 1 559
def ZV(_:Params):=Cg "_law_made" (top 79) 562
def o567(P:Params):Obj:=cM "_law_scale" "_law_scale" 946 415 1 564
def ZU(_:Params):=Cg "_law_scale" (top 80) 567
def o574(_:Params):=cN "_law_goal" 952 422 2 569 963
def ZS(_:Params):=Cg "_law_goal" (top 81) 574
def o581(_:Params):=cN "_law_holds" 966 429 3 576 978
def ZR(_:Params):=Cg "_law_holds" (top 82) 581
def o588(_:Params):=cN "_law_divisor" 981 438 2 583 986
def ZQ(_:Params):=Cg "_law_divisor" (top 83) 588
def o595(_:Params):=cN "_law_plus" 989 442 2 590 997
def ZP(_:Params):=Cg "_law_plus" (top 84) 595
def o600(P:Params):Obj:=cM "_law_step" "_law_step" 1000 447 4 597
def ZO(_:Params):=Cg "_law_step" (top 85) 600
def o605(P:Params):Obj:=cM "_law_start" "_law_start" 1006 464 1 602
def ZM(_:Params):=Cg "_law_start" (top 86) 605
def o612(_:Params):=cN "_law_need" 1012 469 4 607 1026
def ZL(_:Params):=Cg "_law_need" (top 87) 612
def o617(P:Params):Obj:=cM "_law_drawn" "_law_drawn" 1029 479 2 614
def ZK(_:Params):=Cg "_law_drawn" (top 88) 617
def o631(_:Params):=cN "_law_lies" 1042 504 2 626 1052
def ZJ(_:Params):=Cg "_law_lies" (top 90) 631
def o638(_:Params):=cN "_law_told" 1055 515 2 633 1061
def ZI(_:Params):=Cg "_law_told" (top 91) 638
def o645(_:Params):=cN "_law_stands" 1064 522 2 640 1073
def ZE(_:Params):=Cg "_law_stands" (top 92) 645
def o652(_:Params):=cN "_law_covered" 1076 532 3 647 1086
def ZD(_:Params):=Cg "_law_covered" (top 93) 652
def o659(_:Params):=cN "_law_good" 1089 537 4 654 1101
def ZC(_:Params):=Cg "_law_good" (top 94) 659
def o666(_:Params):=cN "law" 1104 548 1 661 1111
def ZA(_:Params):=Cg "law" (top 95) 666
def jM:List Addr:=[2,3,15,22,23,24,25,28,35,36,37,40,47,48,49,52,59,60,61,69,70,76,77,83,84,90,91,97,98,104,105,111,112,113,114,120,121,127,128,132,133,139,140,146,147,151,152,158,159,163,164,170,171,177,178,186,192,193,199,200,206,207,208,209,210,211,212,225,226,232,233,239,240,246,247,253,254,260,261,262,263,264,265,266,272,273,279,280,284,285,291,292,296,297,301,302,306,307,313,314,318,319,323,324,330,331,337,338,344,345,351,352,356,357,361,362,368,369,373,374,380,381,385,386,392,393,397,398,404,405,409,410,414,415,421,422,426,427,433,434,447,448,454,455,461,462,468,469,473,474,480,481,482,483,484,485,486,492,493,499,500,501,507,508,514,515,521,522,526,527,533,534,540,541,547,548,552,553,557,558,562,563,567,568,574,575,581,582,588,589,595,596,600,601,605,606,612,613,617,618,631,632,638,639,645,646,652,653,659,660,666,667]
def Ji(P:Params):Frag:=jM.zipWith (λa o=>(a,o P)) [o2,o3,o15,o22,o23,o24,o25,o28,o35,o36,o37,o40,o47,o48,o49,o52,o59,o60,o61,o69,Yz,o76,Yy,o83,Yx,o90,Yw,o97,Yv,o104,bP,o111,bO,bN,bM,o120,bL,o127,bK,o132,bJ,o139,bI,o146,bH,o151,bG,o158,bE,o163,bD,o170,bB,o177,bA,aY,o192,aX,o199,aW,o206,aV,o208,o209,o210,o211,o212,o225,aU,o232,aT,o239,aS,o246,aQ,o253,aP,o260,aO,o262,o263,o264,o265,o266,o272,aN,o279,aM,o284,aL,o291,aK,o296,aH,o301,aG,o306,aF,o313,aE,o318,aD,o323,aC,o330,aB,o337,aA,o344,Zz,o351,Zy,o356,Zv,o361,Zu,o368,Zt,o373,Zs,o380,Zr,o385,Zq,o392,Zp,o397,Zo,o404,Zn,o409,Zk,o414,Zj,o421,Zi,o426,Zh,o433,Zg,o447,Zf,o454,Ze,o461,Zd,o468,Zc,o473,Zb,o480,Za,o482,o483,o484,o485,o486,o492,Z9,o499,Z8,SY,o507,Z7,o514,Z6,o521,Z5,o526,Z4,o533,Z3,o540,Z0,o547,ZZ,o552,ZY,o557,ZX,o562,ZV,o567,ZU,o574,ZS,o581,ZR,o588,ZQ,o595,ZP,o600,ZO,o605,ZM,o612,ZL,o617,ZK,o631,ZJ,o638,ZI,o645,ZE,o652,ZD,o659,ZC,o666,ZA]
def vq:Program:={ pw with main:={ (pw).main with body:=[top 95] } }
def loo:ki:=["WalkError","BadMachine","TooMany","NoMark","is_whole","at_most","below","number_of","is_open","added","narrower","WORDS","STAY_WORDS","is_look","is_number","is_guard","look_bounds","MOST_WATCHES","MOST_ROOMS","MOST_DOORS","is_small_letter","is_name","is_watch_name","is_room_name","is_sign","own_copy","Door","Machine","check_watches","are_unlike","check_rooms","check_doors","are_noughts","placed","nought","free_bound","narrowest","is_broken","row_over","within","is_wider","met","narrowed","copied","waited","put_back","freed","folded","folded_bound","placed_goal","placed_mark","greatest","all_looks","placed_stays","nought_places","doors_out","Walk","listed","is_covered","searched","_law_cell_at","_law_stream","_law_names","_law_number","_law_guard","_law_stay","_law_door","_law_machine","_law_made","_law_scale","_law_goal","_law_holds","_law_divisor","_law_plus","_law_step","_law_start","_law_need","_law_drawn","_law_whole","_law_lies","_law_told","_law_stands","_law_covered","_law_good"].map Str.ofString
abbrev hk:Hook:=kHook Ji jM<|λϊ=>by ext
def znn(w:World)(os:OsState):(go pw 4292 w os).map (λs=>Mf pw vq loo (xt Rz.row.toRowW vq) hk.obs (boot_heap w.params) s.abs)=↑(true,openGood vq loo,hk.val w):=by ext
theorem left:LeftO pw vq loo (xt Rz.row.toRowW vq) hk.obs hk.val 9164 true:=zly 9164 4292 (by ext) (by decide) (λs=>by ext) (by decide) znn
abbrev fr(w:World):Frag:=Ji w.params
def ca:Str->Value:=λc=>if c="BadMachine" then .ref 37 else if c="TooMany" then .ref 49 else if c="NoMark" then .ref 61 else if c="WalkError" then .ref 24 else .none
section
variable {w:World}{mg:Str->Option Value}{base:Heap} [q:Qx pw w (fr w) mg base ca]
theorem Ho:Cls (fr w) BU:={by ext,by ext,by ext,by ext}
def Kl:∀f∈B7,CB (fr w) BU f:=(Ap (by unfold CB;ext)<|Ap (by unfold CB;ext)<|Ap (by unfold CB;ext)<|Ap (by unfold CB;ext)<|Ap (by unfold CB;ext) BM)
theorem FA:Cls (fr w) Al:={by ext,by ext,by ext,by ext}
def IP:∀f∈An,CB (fr w) Al f:=(Ap (by unfold CB;ext)<|Ap (by unfold CB;ext)<|Ap (by unfold CB;ext) BM)
theorem Ee:Cls (fr w) Ak:={by ext,by ext,by ext,by ext}
def HY:∀f∈Am,CB (fr w) Ak f:=(Ap (by unfold CB;ext)<|Ap (by unfold CB;ext)<|Ap (by unfold CB;ext)<|Ap (by unfold CB;ext)<|Ap (by unfold CB;ext)<|Ap (by unfold CB;ext) BM)
def yg:specialIn (fr w) (.builtin "object.__class__") "__get__"=↑(↑(.builtin "getset_descriptor.__get__"))/\takesIn (fr w) (.builtin "object.__class__")=↑true:={by ext,by ext}
include q
def zc5:ECls (fr w) mg "BadMachine":=VM yg 37 (q.c _ _<|by ext)<|by ext
def W8:∃T:ECls (fr w) mg "BadMachine",ca "BadMachine"=.ref T.C/\Eb (fr w) T.C=↑none:={zc5,by rfl,by ext}
def mO:ECls (fr w) mg "TooMany":=VM yg 49 (q.c _ _<|by ext)<|by ext
def lR:∃T:ECls (fr w) mg "TooMany",ca "TooMany"=.ref T.C/\Eb (fr w) T.C=↑none:={mO,by rfl,by ext}
def zh8:ECls (fr w) mg "NoMark":=VM yg 61 (q.c _ _<|by ext)<|by ext
def W7:∃T:ECls (fr w) mg "NoMark",ca "NoMark"=.ref T.C/\Eb (fr w) T.C=↑none:={zh8,by rfl,by ext}
def D1:=Ae Z6 515 ze6<|Af A6 A5 (b:=.all<|Bn λϊ ϊ=>rfl)
def D2:=Ae aM 280 zc3<|Af A6 A5 (b:=.all<|Bp λϊ=>rfl)
def D3:=Ae bH 147 zab<|Af A6 A5 (b:=.all<|Bp λϊ=>rfl)
def D4:=Ae bG 152 zew<|Af (AQ D3 A6) A5 (b:=.all<|Bp λϊ=>rfl)
def D5:=Ae bE 159 zar<|Af (AQ D4 A6) A5 (b:=.all<|Bp λϊ=>rfl)
def zb7:∃u v,mg "MOST_WATCHES"=↑u/\Ac v u/\∀F:Hp,Rp (fr w) F F Nf v R0:={(.int (7) 357),(.int 7),q.c _ _ (by ext),{_,rfl},λF=>.int _}
def D6:=Ae aN 273 zas<|Af (AQ D5<|AQ D2 A6) (A5 (co:=(ET zb7 DZ))) (hex:=(Ap W8 BM)) (b:=.all<|Bp λϊ=>rfl)
def D7:=Ae bD 164 zb9<|Af (AQ D3 A6) A5 (b:=.all<|Bp λϊ=>rfl)
def D8:=Ae Yz 70 ze0<|Af A6 A5 (b:=.all<|Bp λϊ=>rfl)
def D9:=Ae bK 128 zcw<|Af (AQ D8 A6) A5 (b:=.all<|Bp λϊ=>rfl)
def D10:=Ae bL 121 zex<|Af (AQ D9 A6) A5 (b:=.all<|Ei λϊ ϊ ϊ=>rfl)
def Wf:=Ae bJ 133 ze1<|Af (AQ D10 A6) A5 (b:=.all<|Ei λϊ ϊ ϊ=>rfl)
def zby:∃u v,mg "STAY_WORDS"=↑u/\Ac v u/\∀F:Hp,Rp (fr w) F F Nc v R0:={_,.ref 114,q.c _ (.ref 114) (by ext),rfl,λF=>Ai.of_node (k:=.rt) (xs:=[.str "<",.str "<="]) (.inr {bM w.params,_,_,by ext,rfl,rfl,by decide,(.cons {_,rfl}<|.cons {_,rfl} .nil)})<|SD ["<","<="]}
def D12:=Ae aL 285 zbq<|Af (AQ D7<|AQ Wf<|AQ D2 A6) (A5 (co:=(ET zby DZ))) (hex:=(Ap W8 BM)) (b:=.all<|Bn λϊ ϊ=>rfl)
def D13:=Ae aH 297 zbs<|Af (AQ D5<|AQ D2 A6) A5 (b:=.all<|Bn λϊ ϊ=>rfl)
def D14:=Ae bB 171 zeu<|Af (AQ D4 A6) A5 (b:=.all<|Bp λϊ=>rfl)
def kF:∃u v,mg "WORDS"=↑u/\Ac v u/\∀F:Hp,Rp (fr w) F F Ja v R0:={_,.ref 113,q.c _ (.ref 113) (by ext),rfl,λF=>Ai.of_node (k:=.rt) (xs:=[.str "<",.str "<=",.str ">",.str ">=",.str "="]) (.inr {bN w.params,_,_,by ext,rfl,rfl,by decide,(.cons {_,rfl}<|.cons {_,rfl}<|.cons {_,rfl}<|.cons {_,rfl}<|.cons {_,rfl} .nil)})<|SD ["<","<=",">",">=","="]}
def D15:=Ae aK 292 zbr<|Af (AQ Wf<|AQ D13<|AQ D14 A6) (A5 (co:=(ET kF DZ)) (cl:=(Ap {(Ho),Kl} BM)) (ci:=(ET {210,q.c _ _ (by ext),(ET {{Ho,by ext,by ext,by ext,by ext},by ext}<|ET {{FA,by ext,by ext,by ext,by ext},by ext}<|ET {{Ee,by ext,by ext,by ext,by ext},by ext} DZ),by ext} DZ))) (hex:=(Ap W8 BM)) (b:=.all<|Ei λϊ ϊ ϊ=>rfl)
def zbz:∃u v,mg "MOST_ROOMS"=↑u/\Ac v u/\∀F:Hp,Rp (fr w) F F Ng v R0:={(.int (64) 359),(.int 64),q.c _ _ (by ext),{_,rfl},λF=>.int _}
def zc0:∃u v,mg "MOST_DOORS"=↑u/\Ac v u/\∀F:Hp,Rp (fr w) F F Nh v R0:={(.int (200) 361),(.int 200),q.c _ _ (by ext),{_,rfl},λF=>.int _}
def mM:=VQ "Machine" Al An aU 226 zbd<|WD (AQ D6<|AQ D12<|AQ D15 A6) (A5 (co:=(ET zbz<|ET zc0 DZ)) (sf:=(λC fs h=>by cases h;exact{(FA),IP}))) (hex:=(Ap lR BM))
theorem E16:DF (fr w) (mM (w:=w) (mg:=mg) (base:=base)).fd Ux.ps []:=.all<|Fu λϊ ϊ ϊ ϊ=>rfl
def D17:=Ae bA 178 zdw<|Af A6 A5 (b:=.all<|Bp λϊ=>rfl)
def mL:=VQ "Door" BU B7 aX 193 zd3<|WD (AQ D17 A6)<|A5 (sf:=(λC fs h=>by cases h;exact{(Ho),Kl}))
theorem E18:DF (fr w) (mL (w:=w) (mg:=mg) (base:=base)).fd VE.ps []:=λs a X b=>us6 (P:=λa=>BindsTo s _ {a,[]}<|List.zip _<|a++_) (λϊ ϊ ϊ ϊ ϊ ϊ=>binds_K X rfl (show(fr w).lookup 186=↑(aY w.params) by ext) rfl rfl rfl) a<|by simpa using b
def D19:=Ae ZV 563 zje<|Af A6 (A5 (nw:=(S8 {by decide,BU,mL,(ET {[],[],E18,.nil,λϊ=>.nil} DZ)}<|S8 {by decide,Al,mM,(ET {[],[],E16,.nil,λϊ=>.nil} DZ)} S7))) (b:=.all<|Bp λϊ=>rfl)
def D20:=Ae Z4 527 zgs<|Af A6 A5 (b:=.all<|Bn λϊ ϊ=>rfl)
def PV:=Ae Z5 522 zez<|Af A6 A5 (b:=.all<|Bn λϊ ϊ=>rfl)
def mK:=Ae Z3 534 zf1<|Af A6 A5 (b:=.all<|Bn λϊ ϊ=>rfl)
def mJ:=Ae Z0 541 zgu<|Af (AQ mK A6) A5 (b:=.all<|Ei λϊ ϊ ϊ=>rfl)
def D24:=Ae ZY 553 zji<|Af (AQ PV<|AQ mJ A6) A5 (b:=.all<|Fu λϊ ϊ ϊ ϊ=>rfl)
def D25:=Ae ZZ 548 zjb<|Af (AQ mK A6) A5 (b:=.all<|Ei λϊ ϊ ϊ=>rfl)
def D26:=Ae ZX 558 ze3<|Af (AQ D1<|AQ D20<|AQ PV<|AQ D25<|AQ D24 A6) A5 (b:=.all<|Bp λϊ=>rfl)
def mI:=FX aT 233 zad FA<|FZ A6 (A5 (cl:=(Ap {(FA),IP} BM))) (b:=.all<|Bp λϊ=>rfl)
def We:=FX aO 261 za2 FA<|FZ A6 (A5 (cl:=(Ap {(FA),IP} BM))) (b:=.all<|Bn λϊ ϊ=>rfl)
def PU:=Ae aG 302 zgl<|Af (AQ Wf A6) (A5 (co:=(ET kF DZ)) (mt:=(Ap {by decide,{(mI)}}<|Ap {by decide,{(We)}} BM))) (hex:=(Ap W7 BM)) (b:=.all<|Bn λϊ ϊ=>rfl)
def Lz:=FX aS 240 zat FA<|FZ A6 (A5 (cl:=(Ap {(FA),IP}<|Ap {(Ee),HY} BM))) (b:=.all<|Bp λϊ=>rfl)
def mH:=FX aP 254 zbc FA<|FZ A6 (A5 (cl:=(Ap {(FA),IP}<|Ap {(Ee),HY} BM))) (b:=.all<|Bn λϊ ϊ=>rfl)
def mG:=FX aQ 247 zau FA<|FZ A6 (A5 (cl:=(Ap {(FA),IP} BM))) (b:=.all<|Bp λϊ=>rfl)
def mF:=FX aW 200 zd4 Ho<|FZ A6 (A5 (cl:=(Ap {(Ho),Kl} BM))) (b:=.all<|Bp λϊ=>rfl)
def D34:=FX aV 207 zd2 Ho<|FZ A6 (A5 (cl:=(Ap {(Ho),Kl} BM))) (b:=.all<|Bp λϊ=>rfl)
def KJ:=Ae Yy 77 zey<|Af A6 A5 (b:=.all<|Bp λϊ=>rfl)
def Wd:=Ae Yx 84 zj7<|Af A6 A5 (b:=.all<|Bp λϊ=>rfl)
def mE:=Ae Yw 91 zcu<|Af A6 A5 (b:=.all<|Bp λϊ=>rfl)
def D38:=Ae Yv 98 zev<|Af A6 A5 (b:=.all<|Bp λϊ=>rfl)
def D39:=Ae bP 105 zj8<|Af (AQ mE<|AQ D38<|AQ Wd<|AQ KJ A6) A5 (b:=.all<|Bn λϊ ϊ=>rfl)
def D40:=Ae bO 112 zdx<|Af A6 A5 (b:=.all<|Bn λϊ ϊ=>rfl)
def D41:=Ae aE 314 zc2<|Af (AQ KJ A6) A5 (b:=.all<|Bn λϊ ϊ=>rfl)
def mD:=Ae aB 331 zdu<|Af A6 A5 (b:=.all<|Ei λϊ ϊ ϊ=>rfl)
def D43:=Ae aC 324 zcx<|Af (AQ KJ A6) A5 (b:=.all<|Bp λϊ=>rfl)
def D44:=Ae aD 319 zcv<|Af (AQ D40<|AQ D41<|AQ D43<|AQ mD A6) A5 (b:=.all<|Bp λϊ=>rfl)
def mB:=Ae Zz 345 zdz<|Af A6 A5 (b:=.all<|Bn λϊ ϊ=>rfl)
def D46:=Ae aA 338 zgj<|Af (AQ mB A6) A5 (b:=.all<|Bn λϊ ϊ=>rfl)
def D47:=Ae bI 140 zbp<|Af (AQ Wd<|AQ KJ A6) A5 (b:=.all<|Fu λϊ ϊ ϊ ϊ=>rfl)
def D48:=Ae Zs 374 zdv<|Af A6 A5 (b:=.all<|Bn λϊ ϊ=>rfl)
def Wc:=Ae Zu 362 zgp<|Af A6 A5 (b:=.all<|Bp λϊ=>rfl)
def D50:=Ae Zt 369 zgk<|Af (AQ Wc A6) A5 (b:=.all<|Bp λϊ=>rfl)
def D51:=Ae Zv 357 zdy<|Af (AQ mB<|AQ D39<|AQ KJ<|AQ mD A6) A5 (b:=.all<|Fu λϊ ϊ ϊ ϊ=>rfl)
def Wb:=Ae Zy 352 zqp<|Af (AQ Wc<|AQ D47<|AQ D51 A6) A5 (b:=.all<|Bn λϊ ϊ=>rfl)
def D53:=Ae Zp 393 zba<|Af (AQ mE<|AQ Wd A6) A5 (b:=.all<|Fu λϊ ϊ ϊ ϊ=>rfl)
def D54:=Ae Zq 386 zgo<|Af (AQ D53<|AQ D44 A6) A5 (b:=.all<|Bn λϊ ϊ=>rfl)
def D55:=Ae Zr 381 zj6<|Af (AQ Wc A6) A5 (b:=.all<|Bn λϊ ϊ=>rfl)
def D56:=Ae aF 307 zgm<|Af (AQ KJ A6) A5 (b:=.all<|Bp λϊ=>rfl)
def D57:=Ae Zh 427 zaq<|Af A6 (A5 (mt:=(Ap {by decide,{(D34)}}<|Ap {by decide,{(We)}} BM))) (b:=.all<|Bn λϊ ϊ=>rfl)
def D58:=Ae Zn 405 zbn<|Af (AQ PU A6) A5 (hex:=(Ap W7 BM)) (b:=.all<|Ei λϊ ϊ ϊ=>rfl)
def l9:=Ae Zo 398 zbo<|Af (AQ D58 A6) (A5 (mt:=(Ap {by decide,{(Lz)}} BM))) (hex:=(Ap W7 BM)) (b:=.all<|Bn λϊ ϊ=>rfl)
def D60:=Ae Zj 415 zcz<|Af (AQ l9<|AQ PU A6) (A5 (mt:=(Ap {by decide,{(Lz)}}<|Ap {by decide,{(mH)}}<|Ap {by decide,{(mG)}}<|Ap {by decide,{(mF)}} BM))) (b:=.all<|Bn λϊ ϊ=>rfl)
def D61:=Ae Zk 410 ze2<|Af (AQ D60 A6) (A5 (mt:=(Ap {by decide,{(mI)}} BM))) (b:=.all<|Bn λϊ ϊ=>rfl)
def D62:=Ae Zi 422 zb8<|Af (AQ PU A6) (A5 (mt:=(Ap {by decide,{(Lz)}}<|Ap {by decide,{(mH)}} BM))) (b:=.all<|Bp λϊ=>rfl)
def D63:=Ae Zg 434 zcy<|Af (AQ PU<|AQ D57 A6) (A5 (cl:=(Ap {(Ho),Kl} BM)) (mt:=(Ap {by decide,{(Lz)}}<|Ap {by decide,{(mG)}}<|Ap {by decide,{(mF)}} BM))) (b:=.all<|Bp λϊ=>rfl)
def D64:=Ae Z8 500 zc1<|Af (AQ D46 A6) A5 (b:=.all<|Bn λϊ ϊ=>rfl)
def l6:=FX Ze 455 zbb Ee<|FZ (AQ Wb<|AQ D54<|AQ D50<|AQ D55 A6) (A5 (cl:=(Ap {(FA),IP}<|Ap {(Ee),HY} BM))) (b:=.all<|Ei λϊ ϊ ϊ=>rfl)
def D66:=FX Zd 462 za5 Ee<|FZ (AQ D56 A6) (A5 (cl:=(Ap {(Ee),HY} BM)) (mt:=(Ap {by decide,{(l6)}} BM))) (b:=.all<|Bp λϊ=>rfl)
def D67:=FX Zc 469 zac Ee<|FZ (AQ Wb<|AQ D48 A6) (A5 (cl:=(Ap {(Ee),HY} BM)) (mt:=(Ap {by decide,{(l6)}} BM))) (b:=.all<|Ei λϊ ϊ ϊ=>rfl)
def D68:=FX Zb 474 zag Ee<|FZ (AQ Wb A6) (A5 (cl:=(Ap {(Ee),HY} BM))) (b:=.all<|Bn λϊ ϊ=>rfl)
def lZ:=FX Za 481 zd1 Ee<|FZ A6 (A5 (mt:=(Ap {by decide,{(D68)}} BM))) (b:=.all<|Bn λϊ ϊ=>rfl)
def D70:=Ae Z9 493 zgn<|Af (AQ D64 A6) (A5 (mt:=(Ap {by decide,{(D66)}}<|Ap {by decide,{(lZ)}}<|Ap {by decide,{(D67)}} BM))) (hex:=(Ap lR BM)) (b:=.all<|Ei λϊ ϊ ϊ=>rfl)
def lY:=VQ "Walk" Ak Am Zf 448 zd0<|WD (AQ l9<|AQ D61<|AQ D62<|AQ D63 A6)<|A5 (cl:=(Ap {(Ee),HY} BM)) (mt:=(Ap {by decide,{(Lz)}}<|Ap {by decide,{(We)}} BM)) (sf:=(λC fs h=>by cases h;exact{(Ee),HY}))
theorem E71:DF (fr w) (lY (w:=w) (mg:=mg) (base:=base)).fd Us.ps []:=.all<|Fu λϊ ϊ ϊ ϊ=>rfl
def D72:=Ae Z7 508 zdt<|Af (AQ D70 A6) (A5 (mt:=(Ap {by decide,{(lZ)}} BM)) (nw:=(S8 {by decide,Ak,lY,(ET {[],[],E71,.nil,λϊ=>.nil} DZ)} S7))) (b:=λs a X c=>Fu (P:=λa=>BindsTo s _ {a,[]}<|List.zip _<|a++_) (λϊ ϊ ϊ ϊ=>binds_K X rfl (show(fr w).lookup 501=↑(SY w.params) by ext) rfl rfl rfl) a<|by simpa using c)
def D73:=Ae ZQ 589 ze4<|Af A6 A5 (b:=.all<|Bn λϊ ϊ=>rfl)
def Wa:=Ae ZP 596 zjc<|Af (AQ D73 A6) A5 (b:=.all<|Bn λϊ ϊ=>rfl)
def W9:=Ae ZR 582 zgt<|Af A6 A5 (b:=.all<|Ei λϊ ϊ ϊ=>rfl)
def lX:=Ae ZM 606 zgq<|Af (AQ W9 A6) A5 (b:=.all<|Bp λϊ=>rfl)
def lU:=Ae ZO 601 zja<|Af (AQ Wa<|AQ W9 A6) A5 (b:=.all<|Fu λϊ ϊ ϊ ϊ=>rfl)
def lT:=Ae ZU 568 zgr<|Af A6 A5 (b:=.all<|Bp λϊ=>rfl)
def D79:=Ae ZL 613 zjd<|Af (AQ Wa A6) A5 (b:=.all<|Fu λϊ ϊ ϊ ϊ=>rfl)
def D80:=Ae ZS 575 zjh<|Af (AQ PV<|AQ mJ<|AQ lT A6) A5 (b:=.all<|Bn λϊ ϊ=>rfl)
def D81:=Ae ZK 618 zgv<|Af (AQ lX<|AQ lT<|AQ PV<|AQ D79<|AQ Wa<|AQ lU A6) A5 (b:=.all<|Bn λϊ ϊ=>rfl)
def D82:=Ae ZJ 632 zjf<|Af A6 A5 (b:=.all<|Bn λϊ ϊ=>rfl)
def D83:=Ae ZI 639 zj9<|Af A6 (A5 (xs:=(ET (xs_of mO<|by ext) DZ)) (dn:=(ET {by decide,D72,[.non],{[.none],λs a X c=>Ei (P:=λa=>BindsTo s _ {a,[]}<|List.zip _<|a++_) (λϊ ϊ ϊ=>binds_K X rfl (show(fr w).lookup 501=↑(SY w.params) by ext) rfl rfl rfl) a (by simpa using c),(.cons rfl .nil)},λF=>(.cons (H:=F) .non .nil)} DZ))) (b:=.all<|Bn λϊ ϊ=>rfl)
def D84:=Ae ZE 646 zf0<|Af (AQ lX<|AQ lU A6) A5 (b:=.all<|Bn λϊ ϊ=>rfl)
def D85:=Ae ZD 653 ze5<|Af (AQ D82 A6) A5 (b:=.all<|Ei λϊ ϊ ϊ=>rfl)
def D86:=Ae ZC 660 zjg<|Af (AQ D83<|AQ D85<|AQ W9 A6) A5 (b:=.all<|Fu λϊ ϊ ϊ ϊ=>rfl)
def D87:=Ae ZA 667 zqq<|Af (AQ D26<|AQ D19<|AQ D84<|AQ D81<|AQ D86<|AQ D80 A6) A5 (b:=.all<|Bp λϊ=>rfl)
end
def all_mk{w:World}{h:Heap}{mg:Str->Option Value}{b:Addr}(X:(Ji w.params).In h)(G:h.Ns mainGlobals mg)(a:mg "law"=↑(.ref b))
  : ∃fd:FuncData,(∀(s:Shared) (v:Value),BindsTo s fd {[v],[]} [("_law_script",v)])/\∀base:Heap,(Ji w.params).In base->base.Ns mainGlobals mg->FnOk pw w (Ji w.params) mg base MB 15 b fd ["_law_script"] (Ma<|Ji w.params):=by
 have e:=a.symm.trans<|mg_of X G<|show nsIn (fr w) mainGlobals "law"=↑(↑(.ref 667)) by ext
 cases e;refine{gF "law" "law" Mi .none "law_zonewalk_k45_whole_runs_are_covered" 868 666 .none,λs v=>.of_eq rfl,λbase ϊ ϊ=>?_};have q:Qx pw w (fr w) mg base ca:={λϊ ϊ e=>mg_of X G e,λϊ e=>mg_none_of X G e};exact zpt (D87 (mg:=mg)).ok λns h=>law_true ns h
theorem walk{l:PySem.W.OpenLaw}{q:Program}{loose:ki}{XP:(Str->Option Value)->Heap->Prop}{YP:World->Heap->Prop}{d:DefRec}{K:Params->q9}(j:l.most=↑63)(b:d.params.defaults=[])
  (g:∀(w:World) (h:Heap),YP w h->(K w.params).In h)
  (F : ∀ (w : World) (mg : Str -> Option Value) (fa : Addr) (h : Heap), (K w.params).In h -> h.Ns mainGlobals mg -> mg d.name = ↑(.ref fa) ->
   ∃fd:FuncData,(∀(s:Shared) (u:Value),BindsTo s fd {[u],[]} [("_law_script",u)])/\∀base:Heap,(K w.params).In base->base.Ns mainGlobals mg->FnOk l.prog w (K w.params) mg base MB 15 fa fd ["_law_script"] (Ma<|K w.params)) :
  PySem.W.WalkO q loose XP YP l.row.toRowW d [] (λf vs=>PySem.call f vs):=
 L2.walk_of (n:=63) (k:=15) (x:="_law_script") (CX:=λϊ=>MB) (sp:=λw=>Ma<|K w.params) j (by decide) b {rfl,by decide,by decide} g F (λϊ ϊ a ns i c e=>{a,ns,rfl,Gv.of c e,i,λϊ=>rfl}) λϊ ϊ ϊ ϊ ϊ z=>z
end Zl
open PySem PySem.W PyProof.Rows
set_option maxRecDepth 100000 in
set_option maxHeartbeats 0 in
theorem PySem.Challenge.cw_zonewalk_k45_whole_runs_are_covered_holds : PySem.Challenge.rw_zonewalk_k45_whole_runs_are_covered.Holds := by
 refine holds_law Zl.said λs=>?_
 refine holds_open (q:=Zl.vq) (loose:=Zl.loo) (Xt:=Hd.xt PySem.Challenge.rw_zonewalk_k45_whole_runs_are_covered.row.toRowW Zl.vq) (XP:=XL Zl.vq []) (Yf:=Zl.hk.obs) (Ya:=Zl.hk.val) (YP:=Zl.hk.says) Zl.left Zl.hk.of Zl.hk.keeps (λs e=>xl_of s (Ķ.mp e).1) XL.keeps (by rfl) (by rfl) (by rfl) (λs e=>recFacts_of (Ķ.mp e).2) (by rfl) s (by decide +kernel) ⟨rfl,rfl,rfl,rfl,rfl,by decide +kernel⟩ ?hw ?hc
 case hw=>w_witness2
 case hc=>exact Zl.walk (l:=PySem.Challenge.rw_zonewalk_k45_whole_runs_are_covered) rfl rfl (λw h Y=>kIn_of Y) λw mg fa h X G e=>Zl.all_mk X G e
end
